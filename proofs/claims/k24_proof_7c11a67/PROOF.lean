import PyProof.Rows.All
import Wide.All
import OpenK.AllK
import Wide.FinOn
import Lean
import PyProof.EqAt
import PyProof.EqKinds
import PyProof.TupleCall
import KE.KSortTup
import KE.KDictSum
import KE.KDictOf
import PyProof.AttrMissHeap
import PyProof.WalksEnum
import PyProof.EnumMake
import PyProof.Draws
import PyProof.Rows.SetFrom
import KE.KTryOn
import KE.KTryDeep
import PySem.Challenge.RW_rootshares_k24_ways_refused
set_option Elab.async false
set_option linter.all false
set_option maxRecDepth 100000
namespace L2
open PySem PySem.Spec PyProof.Rows
noncomputable abbrev Key:=Sum Int Str
noncomputable def mI:Key->Value->Bool
 | .inl k,v=>Value.isInt k v
 | .inr x,v=>Value.isStrOf x v
noncomputable def uF (w:World):Key->Int
 | .inl k=>hashInt k
 | .inr x=>hashStr w x
theorem dS:∀{k:Key}{v:Value},mI k v=true->(∃i t,k=Sum.inl i/\v=Value.int i t)\/(∃x t,k=Sum.inr x/\v=Value.str x t)
 | .inl i,v,h=>by
  obtain⟨t,e⟩:=Value.isInt_shape (k:=i) (v:=v) h
  exact .inl ⟨i,t,rfl,e⟩
 | .inr x,v,h=>by
  obtain⟨t,e⟩:=Value.isStrOf_shape (x:=x) (v:=v) h
  exact .inr ⟨x,t,rfl,e⟩
theorem sN (a b:Int):decide ((Sum.inl a:Key)=Sum.inl b)=(a == b):=by
 by_cases e:a=b
 ·subst e;simp
 ·have h:¬ (Sum.inl a:Key)=Sum.inl b:=fun q=>e (Sum.inl.inj q)
  rw [decide_eq_false h]
  exact (beq_eq_false_iff_ne.mpr e).symm
theorem sM (a b:Str):decide ((Sum.inr a:Key)=Sum.inr b)=decide (a=b):=by
 by_cases e:a=b
 ·subst e;simp
 ·have h:¬ (Sum.inr a:Key)=Sum.inr b:=fun q=>e (Sum.inr.inj q)
  rw [decide_eq_false h,decide_eq_false e]
theorem sI (a:Int) (b:Str):decide ((Sum.inl a:Key)=Sum.inr b)=false:=decide_eq_false (fun q=>nomatch q)
theorem sR (a:Str) (b:Int):decide ((Sum.inr a:Key)=Sum.inl b)=false:=decide_eq_false (fun q=>nomatch q)
noncomputable def lw (prog:Program) (w:World):PySem.KeyKind prog w Key where
 is:=mI
 hash:=uF w
 inj:=fun v a b ha hb=>by
  rcases dS ha with ⟨i,t,rfl,rfl⟩ | ⟨x,t,rfl,rfl⟩
  ·rcases dS hb with ⟨j,u,rfl,e⟩ | ⟨y,u,rfl,e⟩
   ·injection e with e1 _;rw [e1]
   ·exact nomatch e
  ·rcases dS hb with ⟨j,u,rfl,e⟩ | ⟨y,u,rfl,e⟩
   ·exact nomatch e
   ·injection e with e1 _;rw [e1]
 byValue:=fun k v h=>by
  rcases dS h with ⟨i,t,rfl,rfl⟩ | ⟨x,t,rfl,rfl⟩ <;> rfl
 pyHash:=fun hv h=>by
  rcases dS hv with ⟨i,t,rfl,rfl⟩ | ⟨x,t,rfl,rfl⟩
  ·exact wpAny_pyHash_int h
  ·exact wpAny_pyHash_str h
 eqBool:=fun hu hv h=>by
  rcases dS hu with ⟨i,t,rfl,rfl⟩ | ⟨x,t,rfl,rfl⟩
  ·rcases dS hv with ⟨j,u,rfl,rfl⟩ | ⟨y,u,rfl,rfl⟩
   ·rw [sN] at h;exact wpAny_eqBool_int h
   ·rw [sI] at h;exact SeqAt.EqAt.int_str i t y u _ _ _ _ h
  ·rcases dS hv with ⟨j,u,rfl,rfl⟩ | ⟨y,u,rfl,rfl⟩
   ·rw [sR] at h;exact SeqAt.EqAt.str_int x t j u _ _ _ _ h
   ·rw [sM] at h;exact wpAny_eqBool_str h
 «strs»:=fun k x t v h=>by
  rcases dS h with ⟨i,u,rfl,e⟩ | ⟨y,u,rfl,e⟩
  ·exact nomatch e
  ·injection e with e1 _
   subst e1
   cases v <;> rfl
inductive V where
 | non | bl (b:Bool) | int (i:Int) | str (x:Str) | byt (b:Array UInt8) | flt (b:UInt64) | ref (a:Addr) | ty (n:String)
 deriving DecidableEq
noncomputable def RelV:V->Value->Prop
 | .non,u=>u=Value.none
 | .bl b,u=>u=Value.bool b
 | .int i,u=>∃t,u=Value.int i t
 | .str x,u=>∃t,u=Value.str x t
 | .byt b,u=>∃t,u=Value.bytes b t
 | .flt b,u=>∃t,u=Value.float b t
 | .ref a,u=>u=Value.ref a
 | .ty n,u=>u=Value.type n
noncomputable abbrev ar:List V->List Value->Prop:=Paired RelV
theorem ar.length {xs:List V}{us:List Value} (r:ar xs us):xs.length=us.length:=Paired.length r
theorem ar.get:∀{xs:List V}{us:List Value}{i:Nat}{x:V},ar xs us->xs[i]?=some x->∃u,us[i]?=some u/\RelV x u
 | _,_,_,_,.nil,e=>by simp at e
 | _,_,0,_,.cons r _,e=>by simp at e;subst e;exact⟨_,rfl,r⟩
 | _,_,i + 1,x,.cons _ t,e=>by
  obtain⟨u,h1,h2⟩:=ar.get (i:=i) (x:=x) t (by simpa using e)
  exact⟨u,by simpa using h1,h2⟩
theorem ar.set {x:V}{u:Value} (r:RelV x u):∀{xs:List V}{us:List Value} (i:Nat),ar xs us->ar (xs.set i x) (us.set i u)
 | _,_,_,.nil=>.nil
 | _,_,0,.cons _ t=>.cons r t
 | _,_,i + 1,.cons q t=>.cons q (ar.set r i t)
theorem ar.append:∀{xs ys:List V}{us ws:List Value},ar xs us->ar ys ws->ar (xs++ys) (us++ws)
 | _,_,_,_,.nil,s=>s
 | _,_,_,_,.cons r t,s=>.cons r (ar.append t s)
theorem ar.take:∀{xs:List V}{us:List Value} (n:Nat),ar xs us->ar (xs.take n) (us.take n)
 | _,_,0,_=>.nil
 | _,_,_ + 1,.nil=>.nil
 | _,_,n + 1,.cons r t=>.cons r (ar.take n t)
theorem ar.drop:∀{xs:List V}{us:List Value} (n:Nat),ar xs us->ar (xs.drop n) (us.drop n)
 | _,_,0,r=>r
 | _,_,_ + 1,.nil=>.nil
 | _,_,n + 1,.cons _ t=>ar.drop n t
noncomputable def hZ:Option V->Option Value->Prop
 | some v,some u=>RelV v u
 | none,none=>True
 | _,_=>False
noncomputable def KV {κ:Type}:List (κ×V)->List (κ×Value)->Prop:=Paired fun (p:κ×V) (q:κ×Value)=>p.1=q.1/\RelV p.2 q.2
noncomputable def kV:Key->V
 | .inl i=>.int i
 | .inr x=>.str x
inductive HO where
  | lst (xs:List V)
  | tup (xs:List V)
  | dK (kvs:List (Key×V)) | dT (kvs:List (List Key×V))
  | set (S:Int->Bool) (n:Nat)
  | ins (C dx:Addr) (fs:List (Str×V))
  | own (x:Addr)
  | xd (fs:List (Str×V))
  | met (f x:Addr)
  | rng (lo hi:Int)
  | frz (o:Obj) (u:HO)
  | tbl (ps:Array Value)
  | ext (φ:Heap->Prop)
noncomputable abbrev Hp:=Addr->Option HO
noncomputable def upd (H:Hp) (a:Addr) (o:HO):Hp:=fun b=>if b=a then some o else H b
theorem aj {H:Hp}{a:Addr}{o:HO}:upd H a o a=some o:=by unfold upd;rw [if_pos rfl]
theorem au {H:Hp}{a b:Addr}{o:HO} (h:b≠a):upd H a o b=H b:=by unfold upd;rw [if_neg h]
theorem tX {H:Hp}{a b:Addr}{o u:HO} (h:H a=some o) (h':H b=some u) (d:o≠u):a≠b:=by
 intro e;subst e;rw [h] at h';exact d (Option.some.inj h')
theorem aZ {H:Hp}{a b:Addr}{o:HO} (h:H a=some o) (h':H b=none):a≠b:=by
 intro e;subst e;rw [h] at h';cases h'
section
variable (P:Program) (w:World)
noncomputable def aX (H:Hp) (h:Heap) (a:Addr):HO->Prop
 | .lst xs=>xs.length<=sizeLine/\∃(its:List Value) (n:Nat),ar xs its/\h.get? a=some { cls:=.type "list",data:=.seq its.toArray n }
 | .tup xs=>xs.length<=sizeLine/\∃its:List Value,ar xs its/\IsTup h a its.toArray
 | .dK kvs=>kvs.length<=sizeLine/\(a == sysModules)=false/\∃vs,KV kvs vs/\h.DictOf (lw P w) a vs
 | .dT kvs=>kvs.length<=sizeLine/\(a == sysModules)=false/\∃xs:List (List Key×Addr×Value),
   Paired (fun (p:List Key×V) (q:List Key×Addr×Value)=>p.1=q.1/\H q.2.1=some (.tup (p.1.map kV))/\RelV p.2 q.2.2) kvs xs /\
   ∃o es ep,h.get? a=some o/\o.ExactDict/\o.data=.dict es ep/\es.toList=xs.map (entryOfKey (tupleKind (lw P w)))/\(xs.map (·.1)).Nodup
 | .set S n=>h.SetOf (intKind P w) a S n
 | .ins C dx fs=>H dx=some (.own a)/\fs.length<=1000/\dx≠a/\h.get? a=some (PySem.W.instObj C dx) /\
   ∃mA,h.Ns1 dx mA/\(∀f,hZ (fs.lookup f) (mA f))/\PySem.Within mA (fs.map (·.1))
 | .own _=>∃o,h.get? a=some o
 | .xd fs=>∃mA,h.Ns1 a mA/\∀f,hZ (fs.lookup f) (mA f)
 | .rng lo hi=>∃t u v,h.get? a=some { cls:=.type "range",data:=.fields #[.int lo t,.int hi u,.int 1 v] }
 | .frz o u=>h.get? a=some o/\aX H h a u
 | .tbl ps=>h.get? a=some { cls:=.none,data:=.fields ps }
 | .met f x=>h.get? a=some (PySem.W.methodObj (.ref f) (.ref x))
 | .ext φ=>φ h/\(∃o,h.get? a=some o)/\∀h1 h2:Heap,φ h1->(∀o,h1.get? a=some o->h2.get? a=some o)->φ h2
noncomputable def HOk (H:Hp) (h:Heap):Prop:=∀a o,H a=some o->aX P w H h a o
end
section
variable {P:Program}{w:World}{H H':Hp}{h h':Heap}{a:Addr}{o:HO}
theorem aX.lt (x:aX P w H h a o):a < h.objs.size:=by
 cases o with
 | lst xs=>obtain⟨_,_,_,_,e⟩:=x;exact Heap.lt_size e
 | tup xs=>obtain⟨_,_,_,p⟩:=x;exact p.lt
 | dK kvs=>obtain⟨_,_,_,_,o,_,_,e,_⟩:=x;exact Heap.lt_size e
 | dT kvs=>obtain⟨_,_,_,_,o,_,_,e,_⟩:=x;exact Heap.lt_size e
 | set S n=>obtain⟨o,_,_,_,e,_⟩:=x;exact Heap.lt_size e
 | ins C dx fs=>obtain⟨_,_,_,e,_⟩:=x;exact Heap.lt_size e
 | own y=>obtain⟨_,e⟩:=x;exact Heap.lt_size e
 | xd fs=>obtain⟨_,⟨_,_,_,e,_⟩,_⟩:=x;exact Heap.lt_size e
 | rng lo hi=>obtain⟨_,_,_,e⟩:=x;exact Heap.lt_size e
 | frz ob u=>obtain⟨e,_⟩:=x;exact Heap.lt_size e
 | tbl ps=>exact Heap.lt_size (show h.get? a=some _ from x)
 | met f y=>exact Heap.lt_size (show h.get? a=some _ from x)
 | ext φ=>obtain⟨_,⟨_,e⟩,_⟩:=x;exact Heap.lt_size e
theorem Paired.mapP {α β:Type}{F G:α->β->Prop}:∀{l₁:List α}{l₂:List β},Paired F l₁ l₂->(∀a b,F a b->G a b)->Paired G l₁ l₂
 | _,_,.nil,_=>.nil
 | _,_,.cons r t,f=>.cons (f _ _ r) (Paired.mapP t f)
theorem aX.stay (x:aX P w H h a o) (k:∀b u,(b=a\/H b=some (.own a))->h.get? b=some u->h'.get? b=some u)
  (ho:∀b,H b=some (.own a)->H' b=some (.own a)) (ht:∀b xs,H b=some (.tup xs)->H' b=some (.tup xs)):aX P w H' h' a o:=by
 induction o with
 | lst xs=>obtain⟨z,its,n,r,e⟩:=x;exact⟨z,its,n,r,k _ _ (.inl rfl) e⟩
 | tup xs=>obtain⟨z,its,r,ob,e,c⟩:=x;exact⟨z,its,r,ob,k _ _ (.inl rfl) e,c⟩
 | dK kvs=>obtain⟨z,y,vs,r,ob,es,ep,e,c⟩:=x;exact⟨z,y,vs,r,ob,es,ep,k _ _ (.inl rfl) e,c⟩
 | dT kvs =>
  obtain⟨z,y,xs,r,ob,es,ep,e,c⟩:=x
  exact⟨z,y,xs,Paired.mapP r fun p q z=>⟨z.1,ht _ _ z.2.1,z.2.2⟩,ob,es,ep,k _ _ (.inl rfl) e,c⟩
 | set S n=>obtain⟨ob,es,ep,t,e,c⟩:=x;exact⟨ob,es,ep,t,k _ _ (.inl rfl) e,c⟩
 | ins C dx fs =>
  obtain⟨d,z,ne,e,mA,⟨od,es,ep,e2,c⟩,r⟩:=x
  exact⟨ho _ d,z,ne,k _ _ (.inl rfl) e,mA,⟨od,es,ep,k _ _ (.inr d) e2,c⟩,r⟩
 | own y=>obtain⟨ob,e⟩:=x;exact⟨ob,k _ _ (.inl rfl) e⟩
 | xd fs=>obtain⟨mA,⟨od,es,ep,e,c⟩,r⟩:=x;exact⟨mA,⟨od,es,ep,k _ _ (.inl rfl) e,c⟩,r⟩
 | rng lo hi=>obtain⟨t,u,v,e⟩:=x;exact⟨t,u,v,k _ _ (.inl rfl) e⟩
 | frz ob u ih=>obtain⟨e,q⟩:=x;exact⟨k _ _ (.inl rfl) e,ih q⟩
 | tbl ps =>
  have e:h.get? a=some { cls:=.none,data:=.fields ps }:=x
  show h'.get? a=some { cls:=.none,data:=.fields ps }
  exact k a _ (.inl rfl) e
 | met f y =>
  have e:h.get? a=some (PySem.W.methodObj (.ref f) (.ref y)):=x
  show h'.get? a=some (PySem.W.methodObj (.ref f) (.ref y))
  exact k a _ (.inl rfl) e
 | ext φ=>obtain⟨p,⟨o,e⟩,st⟩:=x;exact⟨st _ _ p fun o q=>k _ _ (.inl rfl) q,⟨o,k _ _ (.inl rfl) e⟩,st⟩
theorem HOk.lt (x:HOk P w H h) (e:H a=some o):a < h.objs.size:=(x a o e).lt
theorem HOk.fresh (x:HOk P w H h) (e:h.objs.size<=a):H a=none:=by
 cases q:H a with
 | none=>rfl
 | some u=>exact absurd (Nat.lt_of_lt_of_le (x.lt q) e) (Nat.lt_irrefl _)
theorem HOk.kept (x:HOk P w H h) (k:∀b u,h.get? b=some u->h'.get? b=some u):HOk P w H h':=fun a o e =>
 (x a o e).stay (fun b u _ q=>k b u q) (fun _ q=>q) fun _ _ q=>q
theorem HOk.laid (x:HOk P w H h) (k:∀b u,h.get? b=some u->h'.get? b=some u) (hp:h.objs.size<=a) (new:aX P w (upd H a o) h' a o):HOk P w (upd H a o) h':=fun b u e=>by
 have hn:=x.fresh hp
 by_cases hb:b=a
 ·subst hb;rw [aj] at e;cases e;exact new
 ·rw [au hb] at e
  exact (x b u e).stay (fun c v _ q=>k c v q) (fun c q=>by rw [au (aZ q hn)];exact q) fun c xs q=>by rw [au (aZ q hn)];exact q
end
noncomputable def Rd (H:Hp) (a:Addr) (u:HO):Prop:=H a=some u\/∃o,H a=some (.frz o u)
theorem Rd.ok {P:Program}{w:World}{H:Hp}{h:Heap}{a:Addr}{u:HO} (r:Rd H a u) (x:HOk P w H h):aX P w H h a u:=by
 rcases r with r | ⟨o,r⟩
 ·exact x a u r
 ·obtain⟨_,q⟩:=x a _ r
  exact q
noncomputable def Mut:Option HO->Prop
 | some (.lst _)=>True
 | some (.dK _)=>True
 | some (.dT _)=>True
 | some (.set _ _)=>True
 | some (.ins _ _ _)=>True
 | some (.ext _)=>True
 | _=>False
section
variable {P:Program}{w:World}{H:Hp}{h h':Heap}{x e:Addr}{o':HO}
theorem HOk.write (ok:HOk P w H h) (mu:Mut (H x)) (he:e=x\/H e=some (.own x)) (k:∀b u,b≠e->h.get? b=some u->h'.get? b=some u) (heo:∃u,h'.get? e=some u)
  (new:aX P w (upd H x o') h' x o'):HOk P w (upd H x o') h':=fun b u q=>by
 have nown:∀c y,H c=some (.own y)->c≠x:=fun c y r z=>by subst z;rw [r] at mu;exact mu
 have ntup:∀c xs,H c=some (.tup xs)->c≠x:=fun c xs r z=>by subst z;rw [r] at mu;exact mu
 by_cases hb:b=x
 ·subst hb;rw [aj] at q;cases q;exact new
 ·rw [au hb] at q
  by_cases hbe:b=e
  ·have q':H b=some (.own x):=by
    rcases he with z | z
    ·exact absurd (hbe.trans z) hb
    ·rw [hbe];exact z
   rw [q] at q';cases q'
   obtain⟨v,hv⟩:=heo
   exact⟨v,by rw [hbe];exact hv⟩
  ·refine (ok b u q).stay (fun c v hc r=>k c v ?_ r) (fun c r=>by rw [au (nown c b r)];exact r) fun c xs r=>by rw [au (ntup c xs r)];exact r
   rcases hc with rfl | hc
   ·exact hbe
   ·rintro rfl
    rcases he with z | z
    ·exact nown c b hc z
    ·rw [hc] at z;cases z;exact hb rfl
end
structure Un (fs ex:List Addr) (H H':Hp) (h h':Heap):Prop where
 keep:∀b o,h.get? b=some o->H b=none->b∉fs->b∉ex->h'.get? b=some o
 slot:∀b o,h.get? b=some o->H b=none->b∈fs->b∉ex->∃sl,h'.get? b=some { o with slots:=sl }
 free:∀b o,h.get? b=some o->H b=none->b∉ex->H' b=none
 there:∀b o,h.get? b=some o->b∉ex->∃o',h'.get? b=some o'
 tups:∀b xs,H b=some (.tup xs)->H' b=some (.tup xs)
 frzs:∀b o u,H b=some (.frz o u)->H' b=some (.frz o u)
 tbls:∀b ps,H b=some (.tbl ps)->∃more,H' b=some (.tbl (ps++more))
section
variable {fs fs' ex ex':List Addr}{H H1 H2:Hp}{h h1 h2 h':Heap}{a x e:Addr}{o:HO}
theorem Un.any (u:Un fs ex H H1 h h1) {b:Addr}{ob:Obj} (q:h.get? b=some ob) (n:H b=none) (hx:b∉ex):∃sl,h1.get? b=some { ob with slots:=sl }:=by
 by_cases hb:b∈fs
 ·exact u.slot b ob q n hb hx
 ·exact⟨ob.slots,u.keep b ob q n hb hx⟩
theorem Un.kept (k:∀b u,h.get? b=some u->h'.get? b=some u):Un fs ex H H h h' :=
 ⟨fun b ob q _ _ _=>k b ob q,fun b ob q _ _ _=>⟨ob.slots,k b ob q⟩,fun _ _ _ n _=>n,fun b ob q _=>⟨ob,k b ob q⟩,fun _ _ q=>q,fun _ _ _ q=>q,fun _ ps q=>⟨#[],by rw [q];simp⟩⟩
theorem Un.refl:Un fs ex H H h h:=Un.kept fun _ _ q=>q
theorem Un.laid (k:∀b u,h.get? b=some u->h'.get? b=some u) (hp:h.objs.size<=a) (hn:H a=none):Un fs ex H (upd H a o) h h' where
 keep:=fun b u q _ _ _=>k b u q
 slot:=fun b u q _ _ _=>⟨u.slots,k b u q⟩
 free:=fun b u q n _=>by rw [au (Nat.ne_of_lt (Nat.lt_of_lt_of_le (Heap.lt_size q) hp))];exact n
 there:=fun b u q _=>⟨u,k b u q⟩
 tups:=fun b xs q=>by rw [au (aZ q hn)];exact q
 frzs:=fun b u xs q=>by rw [au (aZ q hn)];exact q
 tbls:=fun b ps q=>⟨#[],by rw [au (aZ q hn),q];simp⟩
theorem Un.write (mu:Mut (H x)) (he:e=x\/H e=some (.own x)) (k:∀b u,b≠e->h.get? b=some u->h'.get? b=some u) (heo:∃u,h'.get? e=some u):Un fs ex H (upd H x o) h h':=by
 have hx:∀b,H b=none->b≠x:=fun b n z=>by subst z;rw [n] at mu;exact mu
 have hb:∀b,H b=none->b≠e:=fun b n z=>by
  subst z
  rcases he with r | r
  ·exact hx b n r
  ·rw [n] at r;cases r
 have hm:∀b u,H b=some u->¬ Mut (some u)->b≠x:=fun b u q nm z=>by subst z;rw [q] at mu;exact nm mu
 refine⟨fun b u q n _ _=>k b u (hb b n) q,fun b u q n _ _=>⟨u.slots,k b u (hb b n) q⟩,fun b u q n _=>by rw [au (hx b n)];exact n,fun b u q _=>?_,
  fun b xs q=>by rw [au (hm b _ q fun z=>z)];exact q,fun b u xs q=>by rw [au (hm b _ q fun z=>z)];exact q,fun b ps q=>⟨#[],by rw [au (hm b _ q fun z=>z),q];simp⟩⟩
 by_cases hbe:b=e
 ·subst hbe;exact heo
 ·exact⟨u,k b u hbe q⟩
end
noncomputable def trk (h:Heap) (H:Hp):List Addr:=(List.range h.objs.size).filter fun a=>(H a).isSome
noncomputable def er (h:Heap) (H:Hp):Heap:=PySem.W.hideAll h (trk h H)
theorem pI (h:Heap) (H:Hp):(er h H).objs.size=h.objs.size:=PySem.W.hideAll_size _ _
theorem qJ {h:Heap}{H:Hp}{b:Addr}{o:Obj} (e:h.get? b=some o) (n:H b=none):(er h H).get? b=some o :=
 PySem.W.hideAll_get _ e fun hm=>by
  have q:(H b).isSome=true:=(List.mem_filter.mp hm).2
  rw [n] at q;simp at q
theorem rm {h:Heap}{H:Hp}{b:Addr}{o:Obj} (e:(er h H).get? b=some o):h.get? b=some o/\H b=none:=by
 have e':h.get? b=some o:=PySem.W.of_hideAll (trk h H) e
 refine⟨e',?_⟩
 cases q:H b with
 | none=>rfl
 | some x =>
  have hm:b∈trk h H:=List.mem_filter.mpr ⟨List.mem_range.mpr (Heap.lt_size e'),by simp [q]⟩
  have z:(er h H).get? b=none:=PySem.W.hideAll_none (trk h H) hm
  rw [z] at e;cases e
noncomputable def rV (g h:Heap) (L:Addr):List (Addr×Obj):=(List.range h.objs.size).filterMap fun a=>if a=L\/(g.get? a).isSome=true then none else (h.get? a).map fun o=>(a,o)
noncomputable def rest (g h:Heap) (L d:Addr):List (Addr×Obj):=(rV g h L).filter fun p=>decide (p.1≠d)
structure Mod (K:PySem.W.Frag) (mg:Str->Option Value) (base:Heap):Prop where
 kin:K.In base
 glob:base.Ns mainGlobals mg
 blt:∃mb,base.Ns builtinsNs mb/\∀x:Str,x≠"__name__"->mb x=bootBuiltins x
 nolimit:base.NoLimit
structure Cx where
 prog:Program
 w:World
 K:PySem.W.Frag
 mg:Str->Option Value
 base:Heap
 A:Around
 N:List Str
 s₀:Shared
 H₀:Hp
 env:Env
 outer:List Env
 stack:List Env
 ex:List Addr
 fn:Str->Bool
 calm:Bool
 pn:List (Addr×Obj)
 xe:Value->Shared->Prop
noncomputable def frs (l:List Env):List Addr:=l.filterMap (·.frame)
noncomputable abbrev Cx.fs (X:Cx):List Addr:=frs X.outer
noncomputable def Vis (sc:Scope) (x:Str):Prop:=sc.names.lookup x=some .local\/sc.names.lookup x=some .cell\/sc.names.lookup x=some .free
noncomputable def Loc (sc:Scope) (x:Str):Prop:=sc.names.lookup x=some .local\/sc.names.lookup x=some .cell
noncomputable def Look (env:Env) (h:Heap) (m:Str->Option Value) (x:Str) (u:Value):Prop :=
 (env.kindOf x=some .local/\m x=some u)\/((env.kindOf x=some .cell\/env.kindOf x=some .free)/\∃c,env.cells.lookup x=some c/\h.IsCell c (some u))
structure Cx.Ok (X:Cx):Prop where
 mod:Mod X.K X.mg X.base
 kind:X.env.scope.kind=.function
 glob:X.env.globals=mainGlobals
 blt:X.env.builtins=builtinsNs
 above:X.s₀.heap.objs.size<=X.env.locals
 inj:∀x y c,X.env.cells.lookup x=some c->X.env.cells.lookup y=some c->x=y
 has:∀x,(X.env.kindOf x=some .cell\/X.env.kindOf x=some .free)->∃c,X.env.cells.lookup x=some c
 cab:∀x c,X.fn x=true->X.env.cells.lookup x=some c->X.s₀.heap.objs.size<=c
 hd:X.calm=true->X.A.handled=none
 frames:X.A.frames=some X.stack
 stk:X.stack=X.outer\/(X.stack=X.env::X.outer/\X.env.frame=some X.env.locals)
 exf:∀b∈X.ex,b≠X.env.locals/\∀x c,X.env.cells.lookup x=some c->c≠b
 bs:∀b o,X.base.get? b=some o->X.s₀.heap.get? b=some o/\X.H₀ b=none
 bsz:X.base.objs.size<=X.s₀.heap.objs.size
 noex:∀b o,X.base.get? b=some o->b∉X.ex
 exfs:∀b∈X.ex,b∉X.fs
 funs:X.s₀.heap.FunFrames X.base X.outer
 frf:∀b∈X.fs,X.H₀ b=none
structure Inv (X:Cx) (pins:List (Addr×Obj)) (σ:List (Option V)) (H:Hp) (s:Shared):Prop where
 ok:X.Ok
 os:s.os=X.s₀.os
 bare:AllBare s.gens
 base:Un X.fs X.ex X.H₀ H X.s₀.heap s.heap
 loc:∃m,s.heap.Ns X.env.locals m/\∀(i:Nat) (x:Str) (v:V),X.N[i]?=some x->σ[i]?=some (some v)->Vis X.env.scope x->∃u,RelV v u/\Look X.env s.heap m x u
 cell:∀x c,X.env.cells.lookup x=some c->∃v,s.heap.IsCell c v
 free:H X.env.locals=none
 freeC:∀x c,X.env.cells.lookup x=some c->H c=none
 pin:∀p∈X.pn++pins,s.heap.get? p.1=some p.2/\H p.1=none/\p.1≠X.env.locals/\p.1∉X.fs/\∀v,p.2.data≠.cell v
 hok:HOk X.prog X.w H s.heap
 len:σ.length=X.N.length
section
variable {X:Cx}{pins:List (Addr×Obj)}{σ:List (Option V)}{H H':Hp}{s:Shared}{h':Heap}
theorem Cx.Ok.nofr (ok:X.Ok) {b:Addr}{o:Obj} (e:X.base.get? b=some o):b∉X.fs:=fun hb=>by
 have:=(ok.funs.mem hb).1
 rw [e] at this;cases this
theorem Inv.bs (I:Inv X pins σ H s):∀b o,X.base.get? b=some o->s.heap.get? b=some o/\H b=none:=fun b o e =>
 ⟨I.base.keep b o (I.ok.bs b o e).1 (I.ok.bs b o e).2 (I.ok.nofr e) (I.ok.noex b o e),I.base.free b o (I.ok.bs b o e).1 (I.ok.bs b o e).2 (I.ok.noex b o e)⟩
theorem Inv.bk (I:Inv X pins σ H s):∀b o,X.base.get? b=some o->s.heap.get? b=some o:=fun b o e=>(I.bs b o e).1
theorem Inv.mod (I:Inv X pins σ H s):Mod X.K X.mg X.base:=I.ok.mod
theorem Inv.kIn (I:Inv X pins σ H s):X.K.In s.heap:=I.ok.mod.kin.keeps I.bk
theorem Inv.lt (I:Inv X pins σ H s):X.env.locals < s.heap.objs.size:=let ⟨_,hn,_⟩:=I.loc;hn.lt
theorem Inv.sz (I:Inv X pins σ H s):X.s₀.heap.objs.size<=s.heap.objs.size:=Nat.le_trans I.ok.above (Nat.le_of_lt I.lt)
theorem Inv.nofs (I:Inv X pins σ H s) {a:Addr} (h:s.heap.objs.size<=a):a∉X.fs:=fun hb=>by
 obtain⟨_,o,ho,_⟩:=I.ok.funs.mem hb
 exact absurd (Nat.lt_of_lt_of_le (Heap.lt_size ho) (Nat.le_trans I.sz h)) (Nat.lt_irrefl _)
theorem Inv.cne (I:Inv X pins σ H s):∀x c,X.env.cells.lookup x=some c->c≠X.env.locals:=fun x c e z=>by
 obtain⟨v,o,ho,hd⟩:=I.cell x c e
 obtain⟨m,⟨o',es,ep,ho',hd',_⟩,_⟩:=I.loc
 rw [z,ho'] at ho;cases ho;rw [hd'] at hd;cases hd
theorem Inv.funs (I:Inv X pins σ H s):s.heap.FunFrames X.base X.outer:=by
 have all:∀(l:List Env),(∀b∈frs l,b∈X.fs)->X.s₀.heap.FunFrames X.base l->s.heap.FunFrames X.base l:=by
  intro l
  induction l with
  | nil=>intro _ _;trivial
  | cons env r ih =>
   intro hs hl
   obtain⟨hk,⟨L,o,hf,hn,ho,hd⟩,hr⟩:=hl
   have hL:L∈X.fs:=hs L (by unfold frs;rw [List.filterMap_cons,hf];exact List.mem_cons_self)
   obtain⟨sl,e⟩:=I.base.slot L o ho (I.ok.frf L hL) hL fun z=>I.ok.exfs L z hL
   exact⟨hk,⟨L,_,hf,hn,e,hd⟩,ih (fun b hb=>hs b (by unfold frs;rw [List.filterMap_cons,hf];exact List.mem_cons_of_mem _ hb)) hr⟩
 exact all X.outer (fun _ hb=>hb) I.ok.funs
theorem Inv.stack (I:Inv X pins σ H s):s.heap.FunFrames X.base X.stack:=by
 rcases I.ok.stk with e | ⟨e,hf⟩
 ·rw [e];exact I.funs
 ·rw [e]
  obtain⟨m,hn,_⟩:=I.loc
  refine .cons (by rw [I.ok.kind];decide) hf hn ?_ I.funs
  exact Heap.get?_none_of_le (Nat.le_trans I.ok.bsz I.ok.above)
theorem Inv.stkSub (I:Inv X pins σ H s):∀b∈frs X.stack,b∈X.env.locals::X.fs:=fun b hb=>by
 rcases I.ok.stk with e | ⟨e,hf⟩
 ·rw [e] at hb;exact List.mem_cons_of_mem _ hb
 ·rw [e] at hb
  unfold frs at hb
  rw [List.filterMap_cons,hf] at hb
  exact hb
theorem Inv.stkFree (I:Inv X pins σ H s):∀b∈frs X.stack,H b=none:=fun b hb=>by
 rcases List.mem_cons.mp (I.stkSub b hb) with e | hb
 ·rw [e];exact I.free
 ·obtain⟨_,o,ho,_⟩:=I.ok.funs.mem hb
  exact I.base.free b o ho (I.ok.frf b hb) fun z=>I.ok.exfs b z hb
theorem Inv.step {g':Array GenState}{t':Nat}{d':Drawn}{ch:List Addr} (I:Inv X pins σ H s)
  (hch:∀b∈ch,(b∈X.ex\/X.s₀.heap.objs.size<=b)/\b≠X.env.locals/\(∀x c,X.env.cells.lookup x=some c->c≠b)/\∀p∈X.pn++pins,p.1≠b)
  (keep:∀b o,b≠X.env.locals->b∉X.fs->b∉ch->s.heap.get? b=some o->H b=none->h'.get? b=some o)
  (slot:∀b o,b≠X.env.locals->b∈X.fs->b∉ch->s.heap.get? b=some o->H b=none->∃sl,h'.get? b=some { o with slots:=sl }) (free:∀b o,b∉ch->s.heap.get? b=some o->H b=none->H' b=none)
  (there:∀b o,b∉ch->s.heap.get? b=some o->∃o',h'.get? b=some o')
  (tups:∀b xs,H b=some (.tup xs)->H' b=some (.tup xs)) (frzs:∀b o u,H b=some (.frz o u)->H' b=some (.frz o u)) (tbls:∀b ps,H b=some (.tbl ps)->∃more,H' b=some (.tbl (ps++more)))
  (ns:∀m,s.heap.Ns X.env.locals m->h'.Ns X.env.locals m) (hok:HOk X.prog X.w H' h') (hg:AllBare g') :
  Inv X pins σ H' { s with heap:=h',gens:=g',drawn:=d',toks:=t' }:=by
 have neL:∀b o,X.s₀.heap.get? b=some o->b≠X.env.locals:=fun b o e=>Nat.ne_of_lt (Nat.lt_of_lt_of_le (Heap.lt_size e) I.ok.above)
 have neC:∀b o,X.s₀.heap.get? b=some o->b∉X.ex->b∉ch:=fun b o e hx hb=>by
  rcases (hch b hb).1 with z | z
  ·exact hx z
  ·exact absurd (Nat.lt_of_lt_of_le (Heap.lt_size e) z) (Nat.lt_irrefl _)
 have cellK:∀x c,X.env.cells.lookup x=some c->∀v,s.heap.IsCell c v->h'.IsCell c v:=fun x c e v ⟨o,ho,hd⟩=>by
  have nch:c∉ch:=fun z=>(hch c z).2.2.1 x c e rfl
  by_cases hc:c∈X.fs
  ·obtain⟨sl,q⟩:=slot c o (I.cne x c e) hc nch ho (I.freeC x c e)
   exact⟨_,q,hd⟩
  ·exact⟨o,keep c o (I.cne x c e) hc nch ho (I.freeC x c e),hd⟩
 refine⟨I.ok,I.os,hg,⟨fun b o e n hb hx=>?_,fun b o e n hb hx=>?_,fun b o e n hx=>?_,fun b o e hx=>?_,fun b xs e=>tups b xs (I.base.tups b xs e),fun b o xs e=>frzs b o xs (I.base.frzs b o xs e),fun b ps e=>?_⟩,?_,fun x c e=>?_,?_,fun x c e=>?_,fun p hp=>?_,hok,I.len⟩
 ·exact keep b o (neL b o e) hb (neC b o e hx) (I.base.keep b o e n hb hx) (I.base.free b o e n hx)
 ·obtain⟨sl,e1⟩:=I.base.slot b o e n hb hx
  obtain⟨sl',e2⟩:=slot b _ (neL b o e) hb (neC b o e hx) e1 (I.base.free b o e n hx)
  exact⟨sl',e2⟩
 ·obtain⟨o',e1⟩:=I.base.there b o e hx
  exact free b o' (neC b o e hx) e1 (I.base.free b o e n hx)
 ·obtain⟨o',e1⟩:=I.base.there b o e hx
  exact there b o' (neC b o e hx) e1
 ·obtain⟨m1,e1⟩:=I.base.tbls b ps e
  obtain⟨m2,e2⟩:=tbls b _ e1
  exact⟨m1++m2,by rw [e2,Array.append_assoc]⟩
 ·obtain⟨m,hn,hl⟩:=I.loc
  refine⟨m,ns m hn,fun i x v e1 e2 e3=>?_⟩
  obtain⟨u,r,l⟩:=hl i x v e1 e2 e3
  refine⟨u,r,?_⟩
  rcases l with l | ⟨k,c,e,z⟩
  ·exact .inl l
  ·exact .inr ⟨k,c,e,cellK x c e _ z⟩
 ·obtain⟨v,z⟩:=I.cell x c e
  exact⟨v,cellK x c e v z⟩
 ·obtain⟨m,⟨o,_,_,ho,_⟩,_⟩:=I.loc
  exact free _ o (fun z=>(hch _ z).2.1 rfl) ho I.free
 ·obtain⟨v,o,ho,hd⟩:=I.cell x c e
  exact free c o (fun z=>(hch c z).2.2.1 x c e rfl) ho (I.freeC x c e)
 ·obtain⟨e,n,ne,nf,d⟩:=I.pin p hp
  have nch:p.1∉ch:=fun z=>(hch p.1 z).2.2.2 p hp rfl
  exact⟨keep p.1 p.2 ne nf nch e n,free p.1 p.2 nch e n,ne,nf,d⟩
theorem Inv.un {t':Nat} (I:Inv X pins σ H s) (u:Un X.fs [] H H' s.heap h') (hok:HOk X.prog X.w H' h'):Inv X pins σ H' { s with heap:=h',toks:=t' }:=by
 obtain⟨m,⟨o,es,ep,ho,r⟩,_⟩:=id I.loc
 obtain⟨sl,hL⟩:=u.any ho I.free (by simp)
 exact I.step (g':=s.gens) (d':=s.drawn) (ch:=[]) (fun _ z=>nomatch z) (fun b o _ hb _ e n=>u.keep b o e n hb (by simp)) (fun b o _ hb _ e n=>u.slot b o e n hb (by simp)) (fun b o _ e n=>u.free b o e n (by simp)) (fun b o _ e=>u.there b o e (by simp)) u.tups u.frzs u.tbls (fun m' hm=>by
  obtain⟨o',es',ep',ho',r'⟩:=hm
  rw [ho] at ho';cases ho'
  exact⟨_,es',ep',hL,r'⟩) hok I.bare
theorem Inv.call {g':Array GenState}{t':Nat}{d':Drawn}{ch:List Addr} (I:Inv X pins σ H s) (u:Un (frs X.stack) ch H H' s.heap h') (hok:HOk X.prog X.w H' h') (hg:AllBare g')
  (hch:∀b∈ch,(b∈X.ex\/X.s₀.heap.objs.size<=b)/\b≠X.env.locals/\(∀x c,X.env.cells.lookup x=some c->c≠b)/\∀p∈X.pn++pins,p.1≠b) :
  Inv X pins σ H' { s with heap:=h',gens:=g',drawn:=d',toks:=t' }:=by
 obtain⟨m,⟨o,es,ep,ho,r⟩,_⟩:=id I.loc
 obtain⟨sl,hL⟩:=u.any ho I.free fun z=>(hch _ z).2.1 rfl
 exact I.step (ch:=ch) hch (fun b o hL hb hc e n=>u.keep b o e n (fun z=>(List.mem_cons.mp (I.stkSub b z)).elim hL hb) hc) (fun b o _ _ hc e n=>u.any e n hc) (fun b o hc e n=>u.free b o e n hc) (fun b o hc e=>u.there b o e hc) u.tups u.frzs u.tbls (fun m' hm=>by
  obtain⟨o',es',ep',ho',r'⟩:=hm
  rw [ho] at ho';cases ho'
  exact⟨_,es',ep',hL,r'⟩) hok hg
theorem Inv.turned {t':Nat}{it:Addr} (I:Inv X pins σ H s) (k:∀b o,b≠it->s.heap.get? b=some o->h'.get? b=some o) (hn:H it=none) (hL:it≠X.env.locals)
  (h1:it∈X.ex\/X.s₀.heap.objs.size<=it) (h2:∀x c,X.env.cells.lookup x=some c->c≠it) (h3:∀p∈X.pn++pins,p.1≠it):Inv X pins σ H { s with heap:=h',toks:=t' }:=by
 have nit:∀b u,H b=some u->b≠it:=fun b u e z=>by rw [z,hn] at e;cases e
 refine I.step (g':=s.gens) (d':=s.drawn) (ch:=[it]) (fun b hb=>?_) (fun b o _ _ hc e _=>k b o (fun z=>hc (by simp [z])) e) (fun b o _ _ hc e _=>⟨o.slots,k b o (fun z=>hc (by simp [z])) e⟩) (fun _ _ _ _ n=>n)
  (fun b o hc e=>⟨o,k b o (fun z=>hc (by simp [z])) e⟩) (fun _ _ e=>e) (fun _ _ _ e=>e) (fun b ps e=>⟨#[],by rw [e];simp⟩) (fun m hm=>?_) (fun b u e=>?_) I.bare
 ·have e:b=it:=by simpa using hb
  subst e
  exact⟨h1,hL,h2,h3⟩
 ·obtain⟨o,es,ep,ho,r⟩:=hm
  exact⟨o,es,ep,k _ o (Ne.symm hL) ho,r⟩
 ·refine (I.hok b u e).stay (fun c v hc q=>k c v ?_ q) (fun _ q=>q) fun _ _ q=>q
  rcases hc with z | z
  ·rw [z];exact nit b u e
  ·exact nit c _ z
theorem Inv.tok (I:Inv X pins σ H s) (t:Nat):Inv X pins σ H { s with toks:=t }:=I.un (h':=s.heap) (t':=t) Un.refl I.hok
theorem Inv.kept {t':Nat} (I:Inv X pins σ H s) (k:∀b u,s.heap.get? b=some u->h'.get? b=some u):Inv X pins σ H { s with heap:=h',toks:=t' }:=I.un (Un.kept k) (I.hok.kept k)
theorem Inv.laid {a:Addr}{o:HO}{t':Nat} (I:Inv X pins σ H s) (k:∀b u,s.heap.get? b=some u->h'.get? b=some u) (hp:s.heap.objs.size<=a) (new:aX X.prog X.w (upd H a o) h' a o) :
  Inv X pins σ (upd H a o) { s with heap:=h',toks:=t' }:=I.un (Un.laid k hp (I.hok.fresh hp)) (I.hok.laid k hp new)
theorem Inv.write {x e:Addr}{o:HO}{t':Nat} (I:Inv X pins σ H s) (mu:Mut (H x)) (he:e=x\/H e=some (.own x)) (k:∀b u,b≠e->s.heap.get? b=some u->h'.get? b=some u) (heo:∃u,h'.get? e=some u)
  (new:aX X.prog X.w (upd H x o) h' x o):Inv X pins σ (upd H x o) { s with heap:=h',toks:=t' }:=I.un (Un.write mu he k heo) (I.hok.write mu he k heo new)
theorem Inv.pins_of {pins':List (Addr×Obj)} (I:Inv X pins σ H s) (h:∀p∈pins',s.heap.get? p.1=some p.2/\H p.1=none/\p.1≠X.env.locals/\p.1∉X.fs/\∀v,p.2.data≠.cell v):Inv X pins' σ H s :=
 ⟨I.ok,I.os,I.bare,I.base,I.loc,I.cell,I.free,I.freeC,fun p hp=>(List.mem_append.mp hp).elim (fun z=>I.pin p (List.mem_append_left _ z)) (h p),I.hok,I.len⟩
theorem iI {N:List Str} (hN:N.Nodup) {i j:Nat}{x:Str} (a:N[i]?=some x) (b:N[j]?=some x):i=j:=by
 obtain⟨h1,e1⟩:=List.getElem?_eq_some_iff.mp a
 obtain⟨h2,e2⟩:=List.getElem?_eq_some_iff.mp b
 exact (List.getElem_inj hN).mp (e1.trans e2.symm)
theorem kj {M:Model}{A:Around}{E:Value->Shared->Prop}{i:Nat}{x:Str}{v:V}{u:Value}{Q:Unit->Shared->Prop} (I:Inv X pins σ H s) (hN:X.N.Nodup) (hi:X.N[i]?=some x) (hx:Loc X.env.scope x) (r:RelV v u)
  (h:∀s',Inv X pins (σ.set i (some v)) H s'->(∃a,Heap.SameBut a s.heap s'.heap/\(a=X.env.locals\/X.env.cells.lookup x=some a))->Q () s') (hf:X.fn x=true\/X.env.scope.names.lookup x=some .local:=by first | exact .inl rfl | exact .inr rfl | assumption):wpAny M A (storeName X.env x u) Q E s:=by
 obtain⟨m,hn,hl⟩:=id I.loc
 have hcls:(X.env.scope.kind == .class || (X.env.scope.kind == .module && X.env.locals != X.env.globals))=false:=by rw [I.ok.kind];rfl
 have hiσ:i < σ.length:=by rw [I.len];exact (List.getElem?_eq_some_iff.mp hi).1
 have cne:=I.cne
 have tracked:∀{a:Addr}{h':Heap},(∃o,s.heap.get? a=some o/\H a=none)->Heap.SameBut a s.heap h'->HOk X.prog X.w H h':=fun {a h'} ha hs b ob e=>by
  obtain⟨_,_,hfree⟩:=ha
  refine (I.hok b ob e).stay (fun c w' hc q=>(hs.2 c ?_).trans q) (fun _ q=>q) fun _ _ q=>q
  rintro rfl
  rcases hc with rfl | hc
  ·rw [hfree] at e;cases e
  ·rw [hfree] at hc;cases hc
 rcases hx with hk | hk
 ·refine wpAny_storeName_local hk hn (fun h' hn' hs=>?_) hcls
  obtain⟨oL,_,_,hoL,_⟩:=id hn
  refine h _ ⟨I.ok,I.os,I.bare,⟨fun b o e n hb hx=>?_,fun b o e n hb hx=>?_,I.base.free,fun b o e hx=>?_,I.base.tups,I.base.frzs,I.base.tbls⟩,⟨_,hn',fun j y v' e1 e2 e3=>?_⟩,fun y c e=>?_,I.free,I.freeC,fun p hp=>?_,tracked ⟨oL,hoL,I.free⟩ hs,by simpa using I.len⟩ ⟨_,hs,.inl rfl⟩
  ·exact (hs.2 b (Nat.ne_of_lt (Nat.lt_of_lt_of_le (Heap.lt_size e) I.ok.above))).trans (I.base.keep b o e n hb hx)
  ·obtain⟨sl,e1⟩:=I.base.slot b o e n hb hx
   exact⟨sl,(hs.2 b (Nat.ne_of_lt (Nat.lt_of_lt_of_le (Heap.lt_size e) I.ok.above))).trans e1⟩
  ·obtain⟨o',e1⟩:=I.base.there b o e hx
   exact⟨o',(hs.2 b (Nat.ne_of_lt (Nat.lt_of_lt_of_le (Heap.lt_size e) I.ok.above))).trans e1⟩
  ·by_cases hj:j=i
   ·subst hj
    rw [hi] at e1;cases e1
    rw [List.getElem?_set_self hiσ] at e2
    cases e2
    exact⟨u,r,.inl ⟨hk,by simp⟩⟩
   ·rw [List.getElem?_set_ne (Ne.symm hj)] at e2
    obtain⟨u',r',q⟩:=hl j y v' e1 e2 e3
    refine⟨u',r',?_⟩
    rcases q with ⟨k,e⟩ | ⟨k,c,e,z⟩
    ·refine .inl ⟨k,?_⟩
     have:y≠x:=fun e=>hj (iI hN e1 (e ▸ hi))
     simp [this,e]
    ·exact .inr ⟨k,c,e,z.sameBut hs (cne y c e)⟩
  ·obtain⟨w',z⟩:=I.cell y c e
   exact⟨w',z.sameBut hs (cne y c e)⟩
  ·obtain⟨e,n,ne,nf,d⟩:=I.pin p hp
   exact⟨(hs.2 p.1 ne).trans e,n,ne,nf,d⟩
 ·have hfn:X.fn x=true:=by
   rcases hf with z | z
   ·exact z
   ·rw [z] at hk;cases hk
  obtain⟨c,hc⟩:=I.ok.has x (.inl hk)
  obtain⟨w',z⟩:=I.cell x c hc
  refine wpAny_storeName_cell I.ok.kind hk hc z (fun h' hc' hs=>?_)
  obtain⟨oc,hoc,hocd⟩:=id z
  refine h { s with heap:=h' } ⟨I.ok,I.os,I.bare,⟨fun b o e n hb hx=>?_,fun b o e n hb hx=>?_,I.base.free,fun b o e hx=>?_,I.base.tups,I.base.frzs,I.base.tbls⟩,⟨m,hn.sameBut hs (Ne.symm (cne x c hc)),fun j y v' e1 e2 e3=>?_⟩,fun y c' e=>?_,I.free,I.freeC,fun p hp=>?_,tracked ⟨oc,hoc,I.freeC x c hc⟩ hs,by simpa using I.len⟩ ⟨c,hs,.inr hc⟩
  ·exact (hs.2 b (Nat.ne_of_lt (Nat.lt_of_lt_of_le (Heap.lt_size e) (I.ok.cab x c hfn hc)))).trans (I.base.keep b o e n hb hx)
  ·obtain⟨sl,e1⟩:=I.base.slot b o e n hb hx
   exact⟨sl,(hs.2 b (Nat.ne_of_lt (Nat.lt_of_lt_of_le (Heap.lt_size e) (I.ok.cab x c hfn hc)))).trans e1⟩
  ·obtain⟨o',e1⟩:=I.base.there b o e hx
   exact⟨o',(hs.2 b (Nat.ne_of_lt (Nat.lt_of_lt_of_le (Heap.lt_size e) (I.ok.cab x c hfn hc)))).trans e1⟩
  ·by_cases hj:j=i
   ·subst hj
    rw [hi] at e1;cases e1
    rw [List.getElem?_set_self hiσ] at e2
    cases e2
    exact⟨u,r,.inr ⟨.inl hk,c,hc,hc'⟩⟩
   ·rw [List.getElem?_set_ne (Ne.symm hj)] at e2
    obtain⟨u',r',q⟩:=hl j y v' e1 e2 e3
    refine⟨u',r',?_⟩
    rcases q with q | ⟨k,c',e,z'⟩
    ·exact .inl q
    ·refine .inr ⟨k,c',e,z'.sameBut hs ?_⟩
     rintro rfl
     exact hj (iI hN e1 (I.ok.inj _ _ _ e hc ▸ hi))
  ·by_cases hcc:c'=c
   ·subst hcc;exact⟨_,hc'⟩
   ·obtain⟨w2,z2⟩:=I.cell y c' e
    exact⟨w2,z2.sameBut hs hcc⟩
  ·obtain⟨e,n,ne,nf,d⟩:=I.pin p hp
   refine⟨(hs.2 p.1 ?_).trans e,n,ne,nf,d⟩
   intro q
   rw [q,hoc] at e
   have q':oc=p.2:=Option.some.inj e
   exact d w' (by rw [<- q'];exact hocd)
theorem fL {M:Model}{A:Around}{E:Value->Shared->Prop}{i:Nat}{x:Str}{v:V}{u:Value}{Q:Unit->Shared->Prop} (I:Inv X pins σ H s) (hN:X.N.Nodup) (hi:X.N[i]?=some x) (hx:Loc X.env.scope x) (r:RelV v u)
  (h:∀s',Inv X pins (σ.set i (some v)) H s'->Q () s') (hf:X.fn x=true\/X.env.scope.names.lookup x=some .local:=by first | exact .inl rfl | exact .inr rfl | assumption):wpAny M A (storeName X.env x u) Q E s :=
 kj I hN hi hx r (fun s' I' _=>h s' I') hf
theorem Inv.call' {s':Shared}{ch:List Addr} (I:Inv X pins σ H s) (ho:s'.os=s.os) (u:Un (frs X.stack) ch H H' s.heap s'.heap) (hok:HOk X.prog X.w H' s'.heap) (hg:AllBare s'.gens)
  (hch:∀b∈ch,(b∈X.ex\/X.s₀.heap.objs.size<=b)/\b≠X.env.locals/\(∀x c,X.env.cells.lookup x=some c->c≠b)/\∀p∈X.pn++pins,p.1≠b):Inv X pins σ H' s':=by
 obtain⟨h',g',d',t',o'⟩:=s'
 have e:o'=s.os:=ho
 subst e
 exact I.call (g':=g') (t':=t') (d':=d') u hok hg hch
end
noncomputable abbrev XK:=Value->Option Addr->Hp->Prop
noncomputable abbrev St:=List (Option V)
noncomputable abbrev VK:=V->Hp->Prop
noncomputable abbrev TE:=St->Hp->VK->Prop
noncomputable abbrev TT:=St->Hp->(Bool->Hp->Prop)->Prop
noncomputable abbrev TA:=St->Hp->(List V->Hp->Prop)->Prop
structure Ends where
 nx:St->Hp->Prop
 rt:VK
 bk:St->Hp->Prop:=fun _ _=>False
 ct:St->Hp->Prop:=fun _ _=>False
noncomputable abbrev TS:=Ends->St->Hp->Prop
noncomputable def EP (X:Cx) (pins:List (Addr×Obj)) (σ:St) (Q:VK) (u:Value) (s':Shared):Prop:=∃v H',Inv X pins σ H' s'/\RelV v u/\Q v H'
noncomputable def TP (X:Cx) (pins:List (Addr×Obj)) (σ:St) (Q:Bool->Hp->Prop) (b:Bool) (s':Shared):Prop:=∃H',Inv X pins σ H' s'/\Q b H'
noncomputable def AP (X:Cx) (pins:List (Addr×Obj)) (σ:St) (Q:List V->Hp->Prop) (us:List Value) (s':Shared):Prop:=∃vs H',Inv X pins σ H' s'/\ar vs us/\Q vs H'
noncomputable def SP (X:Cx) (pins:List (Addr×Obj)) (D:Ends) (f:Flow) (s':Shared):Prop :=
 match f with
 | .next=>∃σ' H',Inv X pins σ' H' s'/\D.nx σ' H'
 | .brk=>∃σ' H',Inv X pins σ' H' s'/\D.bk σ' H'
 | .cont=>∃σ' H',Inv X pins σ' H' s'/\D.ct σ' H'
 | .ret u=>∃v σ' H',Inv X pins σ' H' s'/\RelV v u/\D.rt v H'
noncomputable def PE (X:Cx) (e:Expr) (t:TE):Prop :=
 ∀(pins:List (Addr×Obj)) (s:Shared) (σ:St) (H:Hp) (Q:VK),Inv X pins σ H s->t σ H Q->wpAny (model X.prog X.w) X.A (eval e X.env) (EP X pins σ Q) X.xe s
noncomputable def PT (X:Cx) (e:Expr) (t:TT):Prop :=
 ∀(pins:List (Addr×Obj)) (s:Shared) (σ:St) (H:Hp) (Q:Bool->Hp->Prop),Inv X pins σ H s->t σ H Q->wpAny (model X.prog X.w) X.A (isTrue e X.env (eval e X.env)) (TP X pins σ Q) X.xe s
noncomputable def PW (X:Cx) (e:Expr) (t:TT):Prop :=
 ∀(whole:Sem Value) (pins:List (Addr×Obj)) (s:Shared) (σ:St) (H:Hp) (Q:Bool->Hp->Prop),Inv X pins σ H s->t σ H Q->wpAny (model X.prog X.w) X.A (isTrue e X.env whole) (TP X pins σ Q) X.xe s
theorem PW.pt {X:Cx}{e:Expr}{t:TT} (h:PW X e t):PT X e t:=h _
noncomputable def PA (X:Cx) (es:List Expr) (t:TA):Prop :=
 ∀(pos:Pos) (pins:List (Addr×Obj)) (s:Shared) (σ:St) (H:Hp) (Q:List V->Hp->Prop),Inv X pins σ H s->t σ H Q->wpAny (model X.prog X.w) X.A (spliced (backTo pos (starEach es X.env))) (AP X pins σ Q) X.xe s
noncomputable def PS (X:Cx) (st:Stmt) (t:TS):Prop :=
 ∀(pins:List (Addr×Obj)) (s:Shared) (σ:St) (H:Hp) (D:Ends),Inv X pins σ H s->t D σ H->wpAny (model X.prog X.w) X.A (exec st X.env) (SP X pins D) X.xe s
noncomputable def PSs (X:Cx) (st:List Stmt) (t:TS):Prop :=
 ∀(pins:List (Addr×Obj)) (s:Shared) (σ:St) (H:Hp) (D:Ends),Inv X pins σ H s->t D σ H->wpAny (model X.prog X.w) X.A (execs st X.env) (SP X pins D) X.xe s
theorem thn {α:Type}{t:Sem α}{Q Q':α->Shared->Prop}{M:Model}{A:Around}{E:Value->Shared->Prop}{s:Shared} (h:wpAny M A t Q E s) (hQ:∀a s,Q a s->Q' a s):wpAny M A t Q' E s:=wpAny_mono h hQ fun _ _ x=>x
section
variable {X:Cx}
noncomputable def ba (i:Nat):TE:=fun σ H Q=>∃v,σ[i]?=some (some v)/\Q v H
noncomputable def tC (v:V):TE:=fun _ H Q=>Q v H
theorem sV {i:Nat}{x:Str}{pos:Pos} (hN:X.N[i]?=some x) (hv:Vis X.env.scope x) (hd:(x == ("__debug__":Str))=false:=by decide) (hcd:(x == ("__classdict__":Str))=false:=by decide):PE X (.Name x pos) (ba i):=by
 intro pins s σ H Q I h
 obtain⟨v,e,h⟩:=h
 obtain⟨m,hn,hl⟩:=I.loc
 obtain⟨u,r,l⟩:=hl i x v hN e hv
 have fin:EP X pins σ Q u s:=⟨v,H,I,r,h⟩
 rcases l with ⟨hk,hm⟩ | ⟨hk,c,hc,hcell⟩
 ·exact wpAny_Name (wpAny_loadName_local I.ok.kind hk hn hm fin) hd
 ·rcases hk with hk | hk
  ·exact wpAny_Name (wpAny_loadName_cell I.ok.kind hk hc hcell fin) hd
  ·exact wpAny_Name (wpAny_loadName_free I.ok.kind hk hc hcell fin hcd) hd
theorem ai {i j pos}:PE X (.Constant (.int i) j pos) (tC (.int i)):=fun _ _ _ H _ I h=>wpAny_Constant_int ⟨.int i,H,I.tok _,⟨_,rfl⟩,h⟩
theorem cZ {b j pos}:PE X (.Constant (.bool b) j pos) (tC (.bl b)):=fun _ _ _ H _ I h=>Constant_bool ⟨.bl b,H,I,rfl,h⟩
theorem eV {j pos}:PE X (.Constant .none j pos) (tC .non):=fun _ _ _ H _ I h=>Constant_none ⟨.non,H,I,rfl,h⟩
theorem bF {x j pos}:PE X (.Constant (.str x) j pos) (tC (.str x)):=fun _ _ _ H _ I h=>Calls.Constant_str ⟨.str x,H,I.tok _,⟨_,rfl⟩,h⟩
noncomputable def Gl (X:Cx) (x:Str):Prop:=X.env.kindOf x=some .globalImplicit
theorem eR {E:Value->Shared->Prop}{pins:List (Addr×Obj)}{s:Shared}{σ:St}{H:Hp}{x:Str}{u:Value}{pos:Pos}{Q:Value->Shared->Prop} (I:Inv X pins σ H s) (hg:Gl X x) (hm:X.mg x=some u) (h:Q u s)
  (hd:(x == ("__debug__":Str))=false:=by decide):wpAny (model X.prog X.w) X.A (eval (.Name x pos) X.env) Q E s :=
 Calls.Name_function_global I.ok.kind hg (Calls.loadGlobal_global (by rw [I.ok.glob];exact I.mod.glob.keeps I.bk) hm h) hd
theorem eT {E:Value->Shared->Prop}{pins:List (Addr×Obj)}{s:Shared}{σ:St}{H:Hp}{x:Str}{u:Value}{pos:Pos}{Q:Value->Shared->Prop} (I:Inv X pins σ H s) (hg:Gl X x) (hm:X.mg x=none) (hv:bootBuiltins x=some u) (h:Q u s)
  (hn:x≠"__name__":=by decide) (hd:(x == ("__debug__":Str))=false:=by decide):wpAny (model X.prog X.w) X.A (eval (.Name x pos) X.env) Q E s:=by
 obtain⟨mb,h1,h2⟩:=I.mod.blt
 exact Calls.Name_function_global I.ok.kind hg (Calls.loadGlobal_builtin (by rw [I.ok.glob];exact I.mod.glob.keeps I.bk) hm (by rw [I.ok.blt];exact h1.keeps I.bk) ((h2 x hn).trans hv) h) hd
theorem cJ {x:Str}{v:V}{u:Value}{pos:Pos} (hg:Gl X x) (hm:X.mg x=some u) (r:RelV v u) (hd:(x == ("__debug__":Str))=false:=by decide):PE X (.Name x pos) (tC v) :=
 fun _ _ _ H _ I h=>eR I hg hm ⟨v,H,I,r,h⟩ hd
theorem cA {x:Str}{v:V}{u:Value}{pos:Pos} (hg:Gl X x) (hm:X.mg x=none) (hv:bootBuiltins x=some u) (r:RelV v u) (hn:x≠"__name__":=by decide) (hd:(x == ("__debug__":Str))=false:=by decide):PE X (.Name x pos) (tC v) :=
 fun _ _ _ H _ I h=>eT I hg hm hv ⟨v,H,I,r,h⟩ hn hd
variable {a b:Expr}{ta tb:TE}{pos:Pos}
noncomputable def tB (t:TE):TT:=fun σ H Q=>t σ H fun x H1=>∃c,x=.bl c/\Q c H1
theorem bO {e:Expr}{t:TE} (h:PE X e t) (he:∀whole,isTrue e X.env whole=(do let v <- whole;standAt e.pos;holding [v] (truthy v)):=by intro _;rfl):PT X e (tB t):=by
 intro pins s σ H Q I hw
 refine isTrue_plain (thn (h pins s σ H _ I hw) fun v s1 ⟨x,H1,I1,r1,q1⟩=>?_) (he _)
 obtain⟨d,rfl,q⟩:=q1
 cases r1
 exact wpAny_truthy_bool ⟨H1,I1,q⟩
variable {tA tB':TT}{rest:List Expr}
noncomputable def uv (t u:TT):TT:=fun σ H Q=>t σ H fun c H1=>if c=true then u σ H1 Q else Q false H1
noncomputable def tOr (t u:TT):TT:=fun σ H Q=>t σ H fun c H1=>if c=true then Q true H1 else u σ H1 Q
noncomputable def ui (t:TT):TT:=fun σ H Q=>t σ H fun c H1=>Q (!c) H1
theorem fR (ha:PT X a tA):PW X (.BoolOp .And [a] pos) tA:=by
 intro wh pins s σ H Q I h
 refine isTrue_and (thn (ha pins s σ H Q I h) fun c s1 e=>?_)
 cases c with
 | true=>exact isTrue_and_nil e
 | false=>exact e
theorem dF (ha:PT X a tA):PW X (.BoolOp .Or [a] pos) tA:=by
 intro wh pins s σ H Q I h
 refine isTrue_or (thn (ha pins s σ H Q I h) fun c s1 e=>?_)
 cases c with
 | false=>exact isTrue_or_nil e
 | true=>exact e
theorem fZ (ha:PT X a tA) (hb:PW X (.BoolOp .And (b::rest) pos) tB'):PW X (.BoolOp .And (a::b::rest) pos) (uv tA tB'):=by
 intro wh pins s σ H Q I h
 refine isTrue_and (thn (ha pins s σ H _ I h) fun c s1 ⟨H1,I1,q1⟩=>?_)
 cases c with
 | true=>exact hb wh pins s1 σ H1 Q I1 q1
 | false=>exact⟨H1,I1,q1⟩
theorem df (ha:PT X a tA) (hb:PW X (.BoolOp .Or (b::rest) pos) tB'):PW X (.BoolOp .Or (a::b::rest) pos) (tOr tA tB'):=by
 intro wh pins s σ H Q I h
 refine isTrue_or (thn (ha pins s σ H _ I h) fun c s1 ⟨H1,I1,q1⟩=>?_)
 cases c with
 | true=>exact⟨H1,I1,q1⟩
 | false=>exact hb wh pins s1 σ H1 Q I1 q1
theorem bN (ha:PT X a tA):PT X (.UnaryOp .Not a pos) (ui tA):=by
 intro pins s σ H Q I h
 exact isTrue_not (ha pins s σ H (fun c H1=>Q (!c) H1) I h)
noncomputable def tR (ta tb:TE):TE:=fun σ H Q=>ta σ H fun x H1=>∃c,x=.bl c/\if c=true then tb σ H1 Q else Q (.bl false) H1
theorem du {op}{t:TE} (h:PE X a t):PE X (.BoolOp op [a] pos) t:=fun pins s σ H Q I hw=>BoolOp_one (h pins s σ H Q I hw)
theorem cw (ha:PE X a ta) (hb:PE X (.BoolOp .And (b::rest) pos) tb):PE X (.BoolOp .And (a::b::rest) pos) (tR ta tb):=by
 intro pins s σ H Q I h
 refine BoolOp_and (thn (ha pins s σ H _ I h) fun v s1 ⟨x,H1,I1,r1,q1⟩=>?_)
 obtain⟨c,rfl,q1⟩:=q1
 cases r1
 refine wpAny_truthy_bool ?_
 cases c with
 | true=>exact hb pins s1 σ H1 Q I1 q1
 | false=>exact⟨.bl false,H1,I1,rfl,q1⟩
end
noncomputable def SqL (K:PySem.W.Frag) (H:Hp) (a:Addr) (xs:List V):Prop :=
 Rd H a (.lst xs) \/
  ∃(o:Obj) (its:Array Value) (n:Nat),K.lookup a=some o/\o.cls=.type "list"/\o.dict=none/\o.data=.seq its n/\its.size<=sizeLine/\ar xs its.toList
noncomputable def SqT (K:PySem.W.Frag) (H:Hp) (a:Addr) (xs:List V):Prop :=
 Rd H a (.tup xs) \/
  ∃(o:Obj) (its:Array Value) (n:Nat),K.lookup a=some o/\o.cls=.type "tuple"/\o.data=.seq its n/\its.size<=sizeLine/\ar xs its.toList
noncomputable def uC:Value->Option V
 | .none=>some .non
 | .bool b=>some (.bl b)
 | .int i _=>some (.int i)
 | .str x _=>some (.str x)
 | .bytes b _=>some (.byt b)
 | .float b _=>some (.flt b)
 | .ref a=>some (.ref a)
 | .type n=>some (.ty n)
 | _=>none
theorem RelV.abs {x:V}{u:Value} (r:RelV x u):uC u=some x:=by
 cases x with
 | non=>cases r;rfl
 | bl _=>cases r;rfl
 | int _=>obtain⟨t,rfl⟩:=r;rfl
 | str _=>obtain⟨t,rfl⟩:=r;rfl
 | byt _=>obtain⟨t,rfl⟩:=r;rfl
 | flt _=>obtain⟨t,rfl⟩:=r;rfl
 | ref _=>cases r;rfl
 | ty _=>cases r;rfl
theorem RelV.inj {x y:V}{u:Value} (r:RelV x u) (q:RelV y u):x=y:=Option.some.inj (r.abs.symm.trans q.abs)
theorem ar.inj:∀{xs ys:List V}{us:List Value},ar xs us->ar ys us->xs=ys
 | _,_,_,.nil,.nil=>rfl
 | _,_,_,.cons r t,.cons r' t'=>by rw [r.inj r',ar.inj t t']
section
variable {X:Cx}{pins:List (Addr×Obj)}{σ:St}{H:Hp}{s:Shared}{a:Addr}{xs ys:List V}
theorem SqL.of {K:PySem.W.Frag} (h:H a=some (.lst xs)):SqL K H a xs:=.inl (.inl h)
theorem SqT.of {K:PySem.W.Frag} (h:H a=some (.tup xs)):SqT K H a xs:=.inl (.inl h)
theorem Inv.list (I:Inv X pins σ H s) (h:SqL X.K H a xs):∃its:List Value,ar xs its/\PlainL s.heap a its.toArray/\xs.length<=sizeLine:=by
 rcases h with h | ⟨o,its,n,hk,hc,hd,hs,hz,r⟩
 ·obtain⟨z,its,n,r,e⟩:=h.ok I.hok
  exact⟨its,r,⟨_,n,e,rfl,rfl,rfl⟩,z⟩
 ·refine⟨its.toList,r,⟨o,n,I.kIn a o hk,hc,hd,by simpa using hs⟩,?_⟩
  have e:=r.length
  simp only [Array.length_toList] at e
  omega
theorem Inv.tuple (I:Inv X pins σ H s) (h:SqT X.K H a xs):∃its:List Value,ar xs its/\IsTup s.heap a its.toArray/\xs.length<=sizeLine:=by
 rcases h with h | ⟨o,its,n,hk,hc,hs,hz,r⟩
 ·obtain⟨z,its,r,p⟩:=h.ok I.hok
  exact⟨its,r,p,z⟩
 ·refine⟨its.toList,r,⟨o,I.kIn a o hk,hc,n,by simpa using hs⟩,?_⟩
  have e:=r.length
  simp only [Array.length_toList] at e
  omega
theorem Inv.list_inj (I:Inv X pins σ H s) (h:SqL X.K H a xs) (h':SqL X.K H a ys):xs=ys:=by
 obtain⟨its,r,⟨o,n,e,_,_,d⟩,_⟩:=I.list h
 obtain⟨its',r',⟨o',n',e',_,_,d'⟩,_⟩:=I.list h'
 rw [e] at e';cases e'
 rw [d] at d'
 injection d' with d1 _
 have:its=its':=by simpa using congrArg Array.toList d1
 subst this
 exact r.inj r'
theorem Inv.tuple_inj (I:Inv X pins σ H s) (h:SqT X.K H a xs) (h':SqT X.K H a ys):xs=ys:=by
 obtain⟨its,r,⟨o,e,_,n,d⟩,_⟩:=I.tuple h
 obtain⟨its',r',⟨o',e',_,n',d'⟩,_⟩:=I.tuple h'
 rw [e] at e';cases e'
 rw [d] at d'
 injection d' with d1 _
 have:its=its':=by simpa using congrArg Array.toList d1
 subst this
 exact r.inj r'
end
noncomputable abbrev Cx.wish (X:Cx) (E:Value->Shared->Prop):Cx:={ X with xe:=E }
noncomputable abbrev Cx.nox (X:Cx):Cx:=X.wish fun _ _=>False
theorem Cx.Ok.wish {X:Cx} (ok:X.Ok) (E:Value->Shared->Prop):(X.wish E).Ok :=
 ⟨ok.mod,ok.kind,ok.glob,ok.blt,ok.above,ok.inj,ok.has,ok.cab,ok.hd,ok.frames,ok.stk,ok.exf,ok.bs,ok.bsz,ok.noex,ok.exfs,ok.funs,ok.frf⟩
theorem Cx.Ok.unwish {X:Cx}{E:Value->Shared->Prop} (ok:(X.wish E).Ok):X.Ok :=
 ⟨ok.mod,ok.kind,ok.glob,ok.blt,ok.above,ok.inj,ok.has,ok.cab,ok.hd,ok.frames,ok.stk,ok.exf,ok.bs,ok.bsz,ok.noex,ok.exfs,ok.funs,ok.frf⟩
section
variable {X:Cx}{pins:List (Addr×Obj)}{σ:St}{H:Hp}{s:Shared}{E:Value->Shared->Prop}
theorem Inv.wish (I:Inv X pins σ H s) (E:Value->Shared->Prop):Inv (X.wish E) pins σ H s:=⟨I.ok.wish E,I.os,I.bare,I.base,I.loc,I.cell,I.free,I.freeC,I.pin,I.hok,I.len⟩
theorem Inv.unwish (I:Inv (X.wish E) pins σ H s):Inv X pins σ H s:=⟨I.ok.unwish,I.os,I.bare,I.base,I.loc,I.cell,I.free,I.freeC,I.pin,I.hok,I.len⟩
theorem SP.unwish {D:Ends}{f:Flow}{s':Shared} (h:SP (X.wish E) pins D f s'):SP X pins D f s':=by
 cases f with
 | next=>obtain⟨σ',H',I,q⟩:=h;exact⟨σ',H',I.unwish,q⟩
 | brk=>obtain⟨σ',H',I,q⟩:=h;exact⟨σ',H',I.unwish,q⟩
 | cont=>obtain⟨σ',H',I,q⟩:=h;exact⟨σ',H',I.unwish,q⟩
 | ret u=>obtain⟨v,σ',H',I,r,q⟩:=h;exact⟨v,σ',H',I.unwish,r,q⟩
theorem PE.nox {e:Expr}{t:TE} (h:PE X.nox e t):PE X e t:=fun pins s σ H Q I hw =>
 wpAny_mono (h pins s σ H Q (I.wish _) hw) (fun _ _ ⟨v,H',I',r,q⟩=>⟨v,H',I'.unwish,r,q⟩) fun _ _ z=>False.elim z
theorem PSs.nox {st:List Stmt}{t:TS} (h:PSs X.nox st t):PSs X st t:=fun pins s σ H D I hw =>
 wpAny_mono (h pins s σ H D (I.wish _) hw) (fun _ _ q=>q.unwish) fun _ _ z=>False.elim z
end
section
variable {X:Cx}{st:Stmt}{rest:List Stmt}{t u:TS}{e:Expr}{te:TE}{pos:Pos}
noncomputable def mK:TS:=fun D σ H=>D.nx σ H
noncomputable def fB (t u:TS):TS:=fun D σ H=>t { D with nx:=u D } σ H
theorem bc:PSs X [] mK:=fun _ _ σ H _ I h=>wpAny_execs_nil ⟨σ,H,I,h⟩
theorem ak (h1:PS X st t) (h2:PSs X rest u):PSs X (st::rest) (fB t u):=by
 intro pins s σ H D I h
 refine wpAny_execs_cons (thn (h1 pins s σ H { D with nx:=u D } I h) fun f s1 q=>?_)
 cases f with
 | next =>
  obtain⟨σ',H',I',q⟩:=q
  exact h2 pins s1 σ' H' D I' q
 | ret v=>exact q
 | brk=>exact q
 | cont=>exact q
theorem av (h1:PS X st t):PSs X [st] t:=by
 intro pins s σ H D I h
 refine wpAny_execs_cons (thn (h1 pins s σ H D I h) fun f s1 q=>?_)
 cases f with
 | next=>exact wpAny_execs_nil q
 | ret v=>exact q
 | brk=>exact q
 | cont=>exact q
theorem Inv.quiet {pins:List (Addr×Obj)}{σ:St}{H:Hp}{s:Shared} (I:Inv X pins σ H s):interactive X.env=false:=by simp [interactive,I.ok.kind]
noncomputable def ua (te:TE):TS:=fun D σ H=>te σ H fun _ H1=>D.nx σ H1
theorem bj (he:PE X e te) (hs:swapsWith e none pos.line X.env=pure false:=by rfl):PS X (.Expr e pos) (ua te):=by
 intro pins s σ H D I h
 exact wpAny_Expr_any (thn (he pins s σ H _ I h) fun v s1 ⟨x,H1,I1,r1,q1⟩=>⟨σ,H1,I1,q1⟩) I.quiet hs
noncomputable def jq (te:TE):TS:=fun D σ H=>te σ H D.rt
theorem aI (he:PE X e te):PS X (.Return (some e) pos) (jq te):=by
 intro pins s σ H D I h
 exact wpAny_Return_some (thn (he pins s σ H _ I h) fun v s1 ⟨x,H1,I1,r1,q1⟩=>⟨x,σ,H1,I1,r1,q1⟩)
noncomputable def jr (c:TT) (t u:TS):TS:=fun D σ H=>c σ H fun b H1=>if b=true then t D σ H1 else u D σ H1
theorem bq {c:Expr}{a b:List Stmt}{tc:TT} (hc:PT X c tc) (ha:PSs X a t) (hb:PSs X b u):PS X (.If c a b pos) (jr tc t u):=by
 intro pins s σ H D I h
 refine wpAny_If (thn (hc pins s σ H _ I h) fun d s1 ⟨H1,I1,q1⟩=>?_)
 cases d with
 | true=>exact ha pins s1 σ H1 D I1 q1
 | false=>exact hb pins s1 σ H1 D I1 q1
noncomputable def tL:TS:=fun _ _ _=>False
theorem dk {sts:List Stmt}:PSs X sts tL:=fun _ _ _ _ _ _ h=>h.elim
end
noncomputable abbrev TG:=V->St->Hp->(St->Hp->Prop)->Prop
noncomputable abbrev TGs:=List V->St->Hp->(St->Hp->Prop)->Prop
noncomputable def PG (X:Cx) (target:Expr) (t:TG):Prop :=
 ∀(pins:List (Addr×Obj)) (s:Shared) (σ:St) (H:Hp) (v:V) (u:Value) (Q:St->Hp->Prop),Inv X pins σ H s->RelV v u->t v σ H Q ->
  wpAny (model X.prog X.w) X.A (assign target X.env u) (fun _ s'=>∃σ' H',Inv X pins σ' H' s'/\Q σ' H') X.xe s
noncomputable def PGs (X:Cx) (ts:List Expr) (t:TGs):Prop :=
 ∀(pins:List (Addr×Obj)) (s:Shared) (σ:St) (H:Hp) (vs:List V) (us:List Value) (Q:St->Hp->Prop),Inv X pins σ H s->ar vs us->t vs σ H Q ->
  wpAny (model X.prog X.w) X.A (assignInOrder ((assignEach ts X.env).map (·.2)) us) (fun _ s'=>∃σ' H',Inv X pins σ' H' s'/\Q σ' H') X.xe s
noncomputable abbrev jv:=V->V->V->Hp->(Hp->Prop)->Prop
noncomputable def ng (X:Cx) (t:jv):Prop :=
 ∀(pins:List (Addr×Obj)) (s:Shared) (σ:St) (H:Hp) (o i v:V) (ov iv u:Value) (Q:Hp->Prop),Inv X pins σ H s->RelV o ov->RelV i iv->RelV v u->t o i v H Q ->
  wpAny (model X.prog X.w) X.A (setItem ov iv u) (fun _ s'=>∃H',Inv X pins σ H' s'/\Q H') X.xe s
noncomputable abbrev TIp:=V->V->Hp->VK->Prop
noncomputable def PIp (X:Cx) (op:Operator) (t:TIp):Prop :=
 ∀(pins:List (Addr×Obj)) (s:Shared) (σ:St) (H:Hp) (x y:V) (v u:Value) (Q:VK),Inv X pins σ H s->RelV x v->RelV y u->t x y H Q ->
  wpAny (model X.prog X.w) X.A (inplaceOp op v u) (EP X pins σ Q) X.xe s
section
variable {X:Cx}{pos:Pos}
noncomputable def bV (i:Nat):TG:=fun v σ H Q=>Q (σ.set i (some v)) H
theorem bv {i:Nat}{x:Str} (hN:X.N.Nodup) (hi:X.N[i]?=some x) (hx:Loc X.env.scope x) (hf:X.fn x=true\/X.env.scope.names.lookup x=some .local:=by first | exact .inl rfl | exact .inr rfl | assumption):PG X (.Name x pos) (bV i):=by
 intro pins s σ H v u Q I r h
 exact wpAny_assign_Name (fL I hN hi hx r (fun s' I'=>⟨_,H,I',h⟩) hf)
noncomputable def uq:TGs:=fun vs σ H Q=>vs=[]/\Q σ H
noncomputable def uc (t:TG) (u:TGs):TGs:=fun vs σ H Q=>∃v r,vs=v::r/\t v σ H fun σ' H'=>u r σ' H' Q
theorem dn:PGs X [] uq:=by
 intro pins s σ H vs us Q I r h
 obtain⟨e,h⟩:=h
 subst e
 cases r
 exact assignInOrder_nil ⟨σ,H,I,h⟩
theorem bt {e:Expr}{es:List Expr}{t:TG}{u:TGs} (h1:PG X e t) (h2:PGs X es u)
  (hs:(assignEach (e::es) X.env).map (·.2)=assign e X.env::(assignEach es X.env).map (·.2):=by rfl):PGs X (e::es) (uc t u):=by
 intro pins s σ H vs us Q I r h
 obtain⟨v,vr,e1,h⟩:=h
 subst e1
 cases r with
 | cons r rr =>
  rw [hs]
  refine assignInOrder_cons (thn (h1 pins s σ H _ _ _ I r h) fun _ s1 ⟨σ1,H1,I1,q1⟩=>?_)
  exact h2 pins s1 σ1 H1 _ _ Q I1 rr q1
noncomputable def nH (K:PySem.W.Frag) (n:Nat) (t:TGs):TG:=fun v σ H Q=>∃a xs,v=.ref a/\SqT K H a xs/\xs.length=n/\t xs σ H Q
theorem d9 {es:List Expr}{k:Nat}{t:TGs}{n:Nat} (hc:X.calm=true) (h:PGs X es t)
  (hn:(assignEach es X.env).length=n:=by rfl) (hst:(assignEach es X.env).findIdx? (·.1)=none:=by rfl):PG X (.Tuple es k pos) (nH X.K n t):=by
 intro pins s σ H v u Q I r hw
 obtain⟨a,xs,e1,hq,hl,hw⟩:=hw
 subst e1
 cases r
 obtain⟨its,rv,ht,hz⟩:=I.tuple hq
 refine assign_Tuple_tuple (I.ok.hd hc) ht (by simp [hn,<- hl,rv.length]) hst fun h' hx=>?_
 have I1:Inv X pins σ H { s with heap:=h' }:=I.kept (t':=s.toks) fun b o e=>hx b o (Nat.ne_of_lt (Heap.lt_size e)) e
 exact h pins _ σ H xs _ Q I1 (by simpa using rv) hw
noncomputable def uy (to ti:TE) (t:jv):TG:=fun v σ H Q=>to σ H fun o H1=>ti σ H1 fun i H2=>t o i v H2 fun H3=>Q σ H3
theorem me {o i:Expr}{to ti:TE}{t:jv} (ho:PE X o to) (hi:PE X i ti) (hs:ng X t)
  (ha:∀v,assign (.Subscript o i pos) X.env v=(do
   let ov <- holding [v] (eval o X.env)
   let iv <- holding [v,ov] (eval i X.env)
   standAt pos
   holding [v,ov,iv] (setItem ov iv v)
   release [v,ov,iv] []):=by intro _;rfl):PG X (.Subscript o i pos) (uy to ti t):=by
 intro pins s σ H v u Q I r h
 rw [ha]
 refine wpAny_bind (wpAny_holding (thn (ho pins s σ H _ I h) fun ov s1 ⟨x,H1,I1,r1,q1⟩=>?_))
 refine wpAny_bind (wpAny_holding (thn (hi pins s1 σ H1 _ I1 q1) fun iv s2 ⟨y,H2,I2,r2,q2⟩=>?_))
 refine wpAny_bind (wpAny_standAt (wpAny_bind (wpAny_holding (thn (hs pins s2 σ H2 x y v ov iv u _ I2 r1 r2 r q2) fun _ s3 ⟨H3,I3,q3⟩=>?_))))
 exact wpAny_release ⟨σ,H3,I3,q3⟩
noncomputable def fC (te:TE) (g:TG):TS:=fun D σ H=>te σ H fun x H1=>g x σ H1 D.nx
theorem dZ {tg e:Expr}{te:TE}{g:TG} (he:PE X e te) (hg:PG X tg g) (hs:swapsWithSole [tg] e pos.line X.env=pure false:=by rfl) (hw:swappedStores [tg] e X.env=pure none:=by rfl)
  (h1:(assignEach [tg] X.env).map (·.2)=[assign tg X.env]:=by rfl):PS X (.Assign [tg] e pos) (fC te g):=by
 intro pins s σ H D I h
 refine wpAny_Assign_stores (thn (he pins s σ H _ I h) fun v s1 ⟨x,H1,I1,r1,q1⟩=>?_) hs hw
 rw [h1]
 exact thn (hg pins s1 σ H1 x v _ I1 r1 q1) fun _ s2 q=>q
theorem aG {i:Nat}{x:Str}{e:Expr}{te:TE}{pos':Pos} (hN:X.N.Nodup) (hi:X.N[i]?=some x) (hx:Loc X.env.scope x) (he:PE X e te) (hs:swapsWith e (some (.Name x pos')) pos.line X.env=pure false:=by rfl) (hf:X.fn x=true\/X.env.scope.names.lookup x=some .local:=by first | exact .inl rfl | exact .inr rfl | assumption) :
  PS X (.Assign [.Name x pos'] e pos) (fC te (bV i)):=by
 intro pins s σ H D I h
 refine wpAny_Assign_Name (thn (he pins s σ H _ I h) fun v s1 ⟨y,H1,I1,r1,q1⟩=>?_) hs
 exact fL I1 hN hi hx r1 (fun s2 I2=>⟨_,H1,I2,q1⟩) hf
noncomputable def uA (i:Nat) (te:TE) (ti:TIp):TS:=fun D σ H=>∃x,σ[i]?=some (some x)/\te σ H fun y H1=>ti x y H1 fun z H2=>D.nx (σ.set i (some z)) H2
theorem mw {i:Nat}{x:Str}{e:Expr}{te:TE}{op:Operator}{ti:TIp}{pos':Pos} (hN:X.N.Nodup) (hi:X.N[i]?=some x) (hx:Loc X.env.scope x) (he:PE X e te) (ho:PIp X op ti) (hf:X.fn x=true\/X.env.scope.names.lookup x=some .local:=by first | exact .inl rfl | exact .inr rfl | assumption) :
  PS X (.AugAssign (.Name x pos') op e pos) (uA i te ti):=by
 intro pins s σ H D I h
 obtain⟨v,e1,h⟩:=h
 obtain⟨m,hn,hl⟩:=I.loc
 have vis:Vis X.env.scope x:=by rcases hx with k | k;exact .inl k;exact .inr (.inl k)
 obtain⟨u,r,l⟩:=hl i x v hi e1 vis
 refine wpAny_AugAssign_Name ?_
 have go:wpAny (model X.prog X.w) X.A (eval e X.env) (fun w s₂=>wpAny (model X.prog X.w) X.A (inplaceOp op u w) (fun r s₃=>wpAny (model X.prog X.w) X.A (storeName X.env x r) (fun _=>SP X pins D .next) X.xe s₃) X.xe s₂) X.xe s:=by
  refine thn (he pins s σ H _ I h) fun w s1 ⟨y,H1,I1,r1,q1⟩=>?_
  refine thn (ho pins s1 σ H1 v y u w _ I1 r r1 q1) fun z s2 ⟨zv,H2,I2,r2,q2⟩=>?_
  exact fL I2 hN hi hx r2 (fun s3 I3=>⟨_,H2,I3,q2⟩) hf
 rcases l with ⟨hk,hm⟩ | ⟨hk,c,hc,hcell⟩
 ·exact wpAny_loadName_local I.ok.kind hk hn hm go
 ·rcases hk with hk | hk
  ·exact wpAny_loadName_cell I.ok.kind hk hc hcell go
  ·rcases hx with k | k
   ·have:X.env.scope.names.lookup x=some .free:=hk
    rw [k] at this;cases this
   ·have:X.env.scope.names.lookup x=some .free:=hk
    rw [k] at this;cases this
noncomputable def ipI (f:Int->Int->Int):TIp:=fun x y H Q=>∃i j,x=.int i/\y=.int j/\Q (.int (f i j)) H
theorem lT:PIp X .Add (ipI fun i j=>i + j):=by
 intro pins s σ H x y v u Q I r1 r2 h
 obtain⟨i,j,e1,e2,q⟩:=h
 subst e1;subst e2
 obtain⟨t,rfl⟩:=r1
 obtain⟨t',rfl⟩:=r2
 exact iadd_int ⟨.int _,H,I.tok _,⟨_,rfl⟩,q⟩
end
section
variable {X:Cx}{pos:Pos}
noncomputable def mf (c:TT) (tb:TS):TS:=fun D σ H=>∃W:Nat->St->Hp->Prop,(∃m,W m σ H)/\∀m σ H,W m σ H ->
 c σ H fun b H1=>if b=true then ∃N:St->Hp->Prop,(∀σ' H',N σ' H'->∃m',m' < m/\W m' σ' H')/\tb { D with nx:=N,ct:=N,bk:=D.nx } σ H1 else D.nx σ H1
theorem fh {c:Expr}{body:List Stmt}{tc:TT}{tb:TS} (hp:PassesOwn (model X.prog X.w) X.A X.env X.xe) (hc:PT X c tc) (hb:PSs X body tb):PS X (.While c body [] pos) (mf tc tb):=by
 intro pins s σ H D I h
 obtain⟨W,⟨m0,w0⟩,turn⟩:=h
 refine wpAny_While (codeAny_whileLoop (fun n s'=>∃σ' H',Inv X pins σ' H' s'/\W n σ' H') ?_ m0 ⟨σ,H,I,w0⟩)
 rintro n s1 ⟨σ1,H1,I1,w1⟩
 refine wpAny_passesOwn hp (thn (hc pins s1 σ1 H1 _ I1 (turn n σ1 H1 w1)) fun b s2 ⟨H2,I2,q2⟩=>?_)
 cases b with
 | true =>
  obtain⟨N,hN,q2⟩:=q2
  rw [if_pos rfl]
  refine wpAny_passesOwn hp (thn (hb pins s2 σ1 H2 _ I2 q2) fun f s3 q3=>?_)
  cases f with
  | next =>
   obtain⟨σ3,H3,I3,n3⟩:=q3
   obtain⟨m',hm,w3⟩:=hN σ3 H3 n3
   exact⟨m',hm,σ3,H3,I3,w3⟩
  | cont =>
   obtain⟨σ3,H3,I3,n3⟩:=q3
   obtain⟨m',hm,w3⟩:=hN σ3 H3 n3
   exact⟨m',hm,σ3,H3,I3,w3⟩
  | brk=>exact q3
  | ret v=>exact q3
 | false =>
  rw [if_neg Bool.false_ne_true]
  exact wpAny_execs_nil ⟨σ1,H2,I2,q2⟩
end
structure It where
 go:Nat->Hp->Prop
 yld:Nat->Hp->V->Hp->Prop
 stop:Nat->Hp->Prop
noncomputable def bR (X:Cx) (pins:List (Addr×Obj)) (H:Hp) (b:Addr):Prop :=
 H b=none/\b≠X.env.locals/\b∉X.fs/\(b∈X.ex\/X.s₀.heap.objs.size<=b)/\(∀x c,X.env.cells.lookup x=some c->c≠b)/\∀p∈X.pn++pins,p.1≠b
theorem Inv.fpOk {X:Cx}{pins:List (Addr×Obj)}{σ:St}{H H':Hp}{s:Shared}{b:Addr} (I:Inv X pins σ H s) (hb:s.heap.objs.size<=b) (hn:H' b=none):bR X pins H' b:=by
 refine⟨hn,Nat.ne_of_gt (Nat.lt_of_lt_of_le I.lt hb),I.nofs hb,.inr (Nat.le_trans I.sz hb),fun x c e z=>?_,fun p hp z=>?_⟩
 ·obtain⟨v,q⟩:=I.cell x c e
  exact absurd (Nat.lt_of_lt_of_le q.lt (by rw [z];exact hb)) (Nat.lt_irrefl _)
 ·exact absurd (Nat.lt_of_lt_of_le (Heap.lt_size (I.pin p hp).1) (by rw [z];exact hb)) (Nat.lt_irrefl _)
structure Turn (P:Program) (w:World) (K:PySem.W.Frag) (tg:Expr) (J:It) (fp:List Addr) (it:Addr) (tn:Nat->Heap->Prop):Prop where
 mem:it∈fp
 obj:∀i h,tn i h->∀b∈fp,∃o,h.get? b=some o/\∀v,o.data≠.cell v
 keep:∀i h h',tn i h->(∀b∈fp,∀o,h.get? b=some o->h'.get? b=some o)->tn i h'
 item:∀(X:Cx),X.prog=P->X.w=w->X.K=K->X.calm=true->∀(i:Nat) (pins:List (Addr×Obj)) (s:Shared) (σ:St) (H:Hp) (E:Value->Shared->Prop),Inv X pins σ H s->(∀b∈fp,bR X pins H b)->tn i s.heap->J.go i H ->
  wpAny (model P w) X.A (pyNext (.ref it)) (fun r s1=>∃u,r=some u /\
   wpAny (model P w) X.A (letOwnedTupleGo tg (.ref it) u) (fun _ s2=>∃x H',Inv X pins σ H' s2/\RelV x u/\J.yld i H x H'/\tn (i + 1) s2.heap/\∀b∈fp,H' b=none) E s1) E s
 done:∀(X:Cx),X.prog=P->X.w=w->X.K=K->X.calm=true->∀(i:Nat) (pins:List (Addr×Obj)) (s:Shared) (σ:St) (H:Hp) (E:Value->Shared->Prop),Inv X pins σ H s->(∀b∈fp,bR X pins H b)->tn i s.heap->J.stop i H ->
  wpAny (model P w) X.A (pyNext (.ref it)) (fun r s1=>r=none/\Inv X pins σ H s1) E s
 self:∀(A:Around) (i:Nat) (s:Shared) (Q:Value->Shared->Prop) (E:Value->Shared->Prop),tn i s.heap->Q (.ref it) s->wpAny (model P w) A (pyIter (.ref it)) Q E s
noncomputable abbrev TI:=St->Hp->(It->Hp->Prop)->Prop
noncomputable def PIE (X:Cx) (pins:List (Addr×Obj)) (σ:St) (tg:Expr) (R:It->Hp->Prop) (itv:Value) (s2:Shared):Prop :=
 ∃(it:Addr) (fp:List Addr) (tn:Nat->Heap->Prop) (J:It) (H':Hp),itv=.ref it/\Inv X pins σ H' s2/\Turn X.prog X.w X.K tg J fp it tn/\tn 0 s2.heap/\(∀b∈fp,bR X pins H' b)/\R J H'
noncomputable def PI (X:Cx) (tg iter:Expr) (wi:TI):Prop :=
 ∀(pins:List (Addr×Obj)) (s:Shared) (σ:St) (H:Hp) (R:It->Hp->Prop),Inv X pins σ H s->wi σ H R ->
  wpAny (model X.prog X.w) X.A (eval iter X.env) (fun v s1=>wpAny (model X.prog X.w) X.A (pyIter v) (PIE X pins σ tg R) X.xe s1) X.xe s
theorem gg {M:Model}{A:Around}{E:Value->Shared->Prop}{s:Shared}{tg:Expr}{it:Addr}{u:Value}{o:Obj}{n:String}{vs:Array Value}{Q:Unit->Shared->Prop} (ho:s.heap.get? it=some o) (hc:o.cls=.type n) (hd:o.data=.fields vs)
  (hn:["enumerate","zip","dict_itemiterator","dict_reverseitemiterator","odict_iterator","itertools.zip_longest","itertools.pairwise"].contains n=false) (hQ:Q () s):wpAny M A (letOwnedTupleGo tg (.ref it) u) Q E s:=by
 unfold letOwnedTupleGo
 cases tg <;> first
  | exact wpAny_pure hQ
  | (cases u <;> first
    | exact wpAny_pure hQ
    | (refine wpAny_bind (wpAny_load ho ?_)
       rw [hc,hd]
       show wpAny M A (if (["enumerate","zip","dict_itemiterator","dict_reverseitemiterator","odict_iterator","itertools.zip_longest","itertools.pairwise"].contains n && vs[0]? == some (rawInt _))=true then _ else _) Q E s
       rw [if_neg (by intro h;rw [hn,Bool.false_and] at h;cases h)]
       exact wpAny_pure hQ))
noncomputable def Itl (K:PySem.W.Frag) (a:Addr):It :=
 ⟨fun i H=>∃xs x,SqL K H a xs/\xs[i]?=some x,fun i H x H'=>H'=H/\∀xs,SqL K H a xs->xs[i]?=some x,fun i H=>∃xs,SqL K H a xs/\xs.length<=i⟩
noncomputable def Itt (K:PySem.W.Frag) (a:Addr):It :=
 ⟨fun i H=>∃xs x,SqT K H a xs/\xs[i]?=some x,fun i H x H'=>H'=H/\∀xs,SqT K H a xs->xs[i]?=some x,fun i H=>∃xs,SqT K H a xs/\xs.length<=i⟩
noncomputable def Itr (lo:Int) (n:Nat):It:=⟨fun i _=>i < n,fun i H x H'=>H'=H/\x=.int (lo + i),fun i _=>n<=i⟩
theorem pV {P:Program}{w:World}{K:PySem.W.Frag}{tg:Expr} (a it:Addr):Turn P w K tg (Itl K a) [it] it (fun i h=>h.IsListIter it a i) where
 mem:=by simp
 obj:=fun i h st b hb=>by
  have e:b=it:=by simpa using hb
  subst e
  obtain⟨o,e,c,d⟩:=st
  exact⟨o,e,fun v z=>by rw [d] at z;cases z⟩
 keep:=fun i h h' st k=>st.at fun o e=>k it (by simp) o e
 item:=by
  intro X hP hw hK hc i pins s σ H E I hf st hg
  subst hP hw hK
  obtain⟨xs,x,hq,hx⟩:=hg
  obtain⟨its,rv,p,hz⟩:=I.list hq
  obtain⟨u,hu,ru⟩:=rv.get hx
  obtain⟨f0,f1,f2,f3,f4,f5⟩:=hf it (by simp)
  refine wpAny_pyNext_list_item st p.isList (x:=u) (by simpa using hu) fun h' st' sb=>?_
  have I1:Inv X pins σ H { s with heap:=h' }:=I.turned (t':=s.toks) (fun b o hb e=>(sb.2 b hb).trans e) f0 f1 f3 f4 f5
  obtain⟨o,e,c,d⟩:=id st'
  exact⟨u,rfl,gg (s:={ s with heap:=h' }) e c d (by decide) ⟨x,H,I1,ru,⟨rfl,fun ys hy=>by rw [I.list_inj hy hq];exact hx⟩,st',fun b hb=>(hf b hb).1⟩⟩
 done:=by
  intro X hP hw hK hc i pins s σ H E I hf st hg
  subst hP hw hK
  obtain⟨xs,hq,hx⟩:=hg
  obtain⟨its,rv,p,hz⟩:=I.list hq
  obtain⟨f0,f1,f2,f3,f4,f5⟩:=hf it (by simp)
  have hl:=rv.length
  exact wpAny_pyNext_list_end (I.ok.hd hc) st p.isList (by simp;omega) fun h' eb=>⟨rfl,I.turned (t':=s.toks) (fun b o hb e=>eb b o hb e) f0 f1 f3 f4 f5⟩
 self:=fun _ _ _ _ _ st h=>wpAny_pyIter_listiter st h
theorem pe {P:Program}{w:World}{K:PySem.W.Frag}{tg:Expr} (a it:Addr):Turn P w K tg (Itt K a) [it] it (fun i h=>h.IsTupleIter it a i) where
 mem:=by simp
 obj:=fun i h st b hb=>by
  have e:b=it:=by simpa using hb
  subst e
  obtain⟨o,e,c,d⟩:=st
  exact⟨o,e,fun v z=>by rw [d] at z;cases z⟩
 keep:=fun i h h' st k=>st.at fun o e=>k it (by simp) o e
 item:=by
  intro X hP hw hK hc i pins s σ H E I hf st hg
  subst hP hw hK
  obtain⟨xs,x,hq,hx⟩:=hg
  obtain⟨its,rv,p,hz⟩:=I.tuple hq
  obtain⟨u,hu,ru⟩:=rv.get hx
  obtain⟨f0,f1,f2,f3,f4,f5⟩:=hf it (by simp)
  refine wpAny_pyNext_tuple_item st (show s.heap.IsTuple a its.toArray from p) (x:=u) (by simpa using hu) fun h' st' sb=>?_
  have I1:Inv X pins σ H { s with heap:=h' }:=I.turned (t':=s.toks) (fun b o hb e=>(sb.2 b hb).trans e) f0 f1 f3 f4 f5
  obtain⟨o,e,c,d⟩:=id st'
  exact⟨u,rfl,gg (s:={ s with heap:=h' }) e c d (by decide) ⟨x,H,I1,ru,⟨rfl,fun ys hy=>by rw [I.tuple_inj hy hq];exact hx⟩,st',fun b hb=>(hf b hb).1⟩⟩
 done:=by
  intro X hP hw hK hc i pins s σ H E I hf st hg
  subst hP hw hK
  obtain⟨xs,hq,hx⟩:=hg
  obtain⟨its,rv,p,hz⟩:=I.tuple hq
  obtain⟨f0,f1,f2,f3,f4,f5⟩:=hf it (by simp)
  have hl:=rv.length
  exact wpAny_pyNext_tuple_end (I.ok.hd hc) st (show s.heap.IsTuple a its.toArray from p) (by simp;omega) fun h' eb=>⟨rfl,I.turned (t':=s.toks) (fun b o hb e=>eb b o hb e) f0 f1 f3 f4 f5⟩
 self:=fun _ _ _ _ _ st h=>wpAny_pyIter_tupleiter st h
theorem oV {P:Program}{w:World}{K:PySem.W.Frag}{tg:Expr} (it:Addr) (lo:Int) (n:Nat):Turn P w K tg (Itr lo n) [it] it (fun i h=>IsRangeIter h it (lo + (i:Nat) * 1) ((n:Int) - (i:Nat)) 1) where
 mem:=by simp
 obj:=fun i h st b hb=>by
  have e:b=it:=by simpa using hb
  subst e
  exact⟨_,st,fun v z=>by
   have z':Data.fields _=Data.cell v:=z
   cases z'⟩
 keep:=fun i h h' st k=>k it (by simp) _ st
 item:=by
  intro X hP hw hK hc i pins s σ H E I hf st hg
  subst hP hw hK
  obtain⟨f0,f1,f2,f3,f4,f5⟩:=hf it (by simp)
  have W:=Walks.range (prog:=X.prog) (w:=X.w) (I.ok.hd hc) it lo 1 n
  refine W.item i s _ _ hg st fun v h' tk hv st' kk=>?_
  obtain⟨t,rfl⟩:=hv
  have I1:Inv X pins σ H { s with heap:=h',toks:=tk }:=I.turned (fun b o hb e=>kk b o (by simpa using hb) e) f0 f1 f3 f4 f5
  refine⟨_,rfl,gg (s:={ s with heap:=h',toks:=tk }) (n:="range_iterator") st' rfl rfl (by decide) ⟨.int (lo + i),H,I1,⟨t,?_⟩,⟨rfl,rfl⟩,st',fun b hb=>(hf b hb).1⟩⟩
  rw [Int.mul_one]
 done:=by
  intro X hP hw hK hc i pins s σ H E I hf st hg
  subst hP hw hK
  obtain⟨f0,f1,f2,f3,f4,f5⟩:=hf it (by simp)
  exact wpAny_pyNext_range_end (I.ok.hd hc) st (by have:n<=i:=hg;omega) fun h' eb=>⟨rfl,I.turned (t':=s.toks) (fun b o hb e=>eb b o hb e) f0 f1 f3 f4 f5⟩
 self:=fun _ _ _ _ _ st h=>wpAny_pyIter_rangeiter st h
section
variable {X:Cx}{tg:Expr}
noncomputable def tZ (K:PySem.W.Frag) (tl:TE):TI:=fun σ H R=>tl σ H fun x H1=>∃a,x=.ref a/\(∃xs,SqL K H1 a xs)/\R (Itl K a) H1
noncomputable def uu (K:PySem.W.Frag) (tl:TE):TI:=fun σ H R=>tl σ H fun x H1=>∃a,x=.ref a/\(∃xs,SqT K H1 a xs)/\R (Itt K a) H1
theorem dE {l:Expr}{tl:TE} (hl:PE X l tl):PI X tg l (tZ X.K tl):=by
 intro pins s σ H R I h
 refine thn (hl pins s σ H _ I h) fun v s1 ⟨x,H1,I1,r1,q1⟩=>?_
 obtain⟨a,e,⟨xs,hq⟩,q⟩:=q1
 subst e
 cases r1
 obtain⟨its,rv,p,hz⟩:=I1.list hq
 refine wpAny_pyIter_list p.isList ?_
 refine⟨s1.heap.objs.size,[s1.heap.objs.size],_,_,H1,rfl,I1.kept (t':=s1.toks) fun b o e=>Heap.get?_push_of_some _ e,pV a _,⟨_,Heap.get?_push_size _ rfl,rfl,rfl⟩,fun b hb=>?_,q⟩
 have e:b=s1.heap.objs.size:=by simpa using hb
 subst e
 exact I1.fpOk (Nat.le_refl _) (I1.hok.fresh (Nat.le_refl _))
theorem cK {l:Expr}{tl:TE} (hl:PE X l tl):PI X tg l (uu X.K tl):=by
 intro pins s σ H R I h
 refine thn (hl pins s σ H _ I h) fun v s1 ⟨x,H1,I1,r1,q1⟩=>?_
 obtain⟨a,e,⟨xs,hq⟩,q⟩:=q1
 subst e
 cases r1
 obtain⟨its,rv,p,hz⟩:=I1.tuple hq
 refine wpAny_pyIter_tuple (show s1.heap.IsTuple a its.toArray from p) ?_
 refine⟨s1.heap.objs.size,[s1.heap.objs.size],_,_,H1,rfl,I1.kept (t':=s1.toks) fun b o e=>Heap.get?_push_of_some _ e,pe a _,⟨_,Heap.get?_push_size _ rfl,rfl,rfl⟩,fun b hb=>?_,q⟩
 have e:b=s1.heap.objs.size:=by simpa using hb
 subst e
 exact I1.fpOk (Nat.le_refl _) (I1.hok.fresh (Nat.le_refl _))
theorem kE {pins:List (Addr×Obj)}{σ:St}{H:Hp}{s:Shared}{R:It->Hp->Prop}{E:Value->Shared->Prop}{lo hi:Int}{t u v:Tok}{tk:Nat} (I:Inv X pins σ H s) (h1:-(2 ^ 62)<=lo) (h2:lo < 2 ^ 62) (h3:-(2 ^ 62)<=hi) (h4:hi < 2 ^ 62)
  (q:R (Itr lo (hi - lo).toNat) H):wpAny (model X.prog X.w) X.A (pyIter (.ref s.heap.objs.size)) (PIE X pins σ tg R) E { s with heap:=s.heap.push { cls:=.type "range",data:=.fields #[.int lo t,.int hi u,.int 1 v] },toks:=tk }:=by
 refine wpAny_pyIter_range (IsRange.new ..) (small_one h1 h2 h3 h4) ?_
 have I1:Inv X pins σ H { s with heap:=s.heap.push { cls:=.type "range",data:=.fields #[.int lo t,.int hi u,.int 1 v] },toks:=tk }:=I.kept fun b o e=>Heap.get?_push_of_some _ e
 refine⟨(s.heap.push { cls:=.type "range",data:=.fields #[.int lo t,.int hi u,.int 1 v] }).objs.size,[(s.heap.push { cls:=.type "range",data:=.fields #[.int lo t,.int hi u,.int 1 v] }).objs.size],_,_,H,rfl,
  I1.kept (t':=tk) fun b o e=>Heap.get?_push_of_some _ e,oV _ lo (hi - lo).toNat,?_,fun b hb=>?_,q⟩
 ·have e1:lo + ((0:Nat):Int) * 1=lo:=by simp
  have e2:(((hi - lo).toNat:Nat):Int) - ((0:Nat):Int)=Builtin.Range.rangeSize lo hi 1:=by rw [rangeSize_one];split <;> omega
  show IsRangeIter _ _ (lo + ((0:Nat):Int) * 1) ((((hi - lo).toNat:Nat):Int) - ((0:Nat):Int)) 1
  rw [e1,e2]
  exact Heap.get?_push_size _ rfl
 ·have e:b=(s.heap.push { cls:=.type "range",data:=.fields #[.int lo t,.int hi u,.int 1 v] }).objs.size:=by simpa using hb
  subst e
  exact I1.fpOk (Nat.le_refl _) (I1.hok.fresh (Nat.le_refl _))
noncomputable def uf (ta:TA):TI:=fun σ H R=>ta σ H fun vs H1=>∃j:Int,vs=[.int j]/\-(2 ^ 62)<=j/\j < 2 ^ 62/\R (Itr 0 j.toNat) H1
noncomputable def ub (ta:TA):TI:=fun σ H R=>ta σ H fun vs H1=>∃i j:Int,vs=[.int i,.int j]/\(-(2 ^ 62)<=i/\i < 2 ^ 62/\-(2 ^ 62)<=j/\j < 2 ^ 62)/\R (Itr i (j - i).toNat) H1
theorem fe {a:Expr}{ta:TA}{p pos:Pos} (hg:Gl X "range") (hm:X.mg "range"=none) (ha:PA X [a] ta) (hs:starEach [a] X.env=[(false,eval a X.env)]:=by rfl):PI X tg (.Call (.Name "range" p) [a] [] pos) (uf ta):=by
 intro pins s σ H R I h
 refine Call_ (eT I hg hm boot_range (PyProof.Rows.callWith_type1 (thn (ha pos pins s σ H _ I h) fun us s1 ⟨vs,H1,I1,r1,q1⟩=>?_) hs rfl))
 obtain⟨j,e,q1,q2,q⟩:=q1
 subst e
 cases r1 with
 | cons r rr =>
  cases rr
  obtain⟨t,rfl⟩:=r
  exact call_range_1 (kE I1 (by omega) (by omega) q1 q2 (by simpa using q))
theorem jY {a b:Expr}{ta:TA}{p pos:Pos} (hg:Gl X "range") (hm:X.mg "range"=none) (ha:PA X [a,b] ta) (hs:starEach [a,b] X.env=[(false,eval a X.env),(false,eval b X.env)]:=by rfl) (hs2:starEach [b] X.env=[(false,eval b X.env)]:=by rfl) :
  PI X tg (.Call (.Name "range" p) [a,b] [] pos) (ub ta):=by
 intro pins s σ H R I h
 refine Call_ (eT I hg hm boot_range (PyProof.Rows.callWith_type1 (thn (ha pos pins s σ H _ I h) fun us s1 ⟨vs,H1,I1,r1,q1⟩=>?_) (by rw [hs,hs2]) (by rw [hs2];rfl)))
 obtain⟨i,j,e,⟨q1,q2,q3,q4⟩,q⟩:=q1
 subst e
 cases r1 with
 | cons r rr =>
  cases rr with
  | cons r' rr =>
   cases rr
   obtain⟨t,rfl⟩:=r
   obtain⟨t',rfl⟩:=r'
   exact call_range_2 (kE I1 q1 q2 q3 q4 q)
noncomputable def uD (wi:TI) (g:TG) (tb:TS):TS:=fun D σ H=>wi σ H fun J H1=>∃W:Nat->Nat->St->Hp->Prop,(∃m,W 0 m σ H1)/\∀i m σ H,W i m σ H ->
 (J.stop i H/\D.nx σ H)\/(J.go i H/\∃N:St->Hp->Prop,(∀σ' H',N σ' H'->∃m',m' < m/\W (i + 1) m' σ' H')/\∀x H',J.yld i H x H'->g x σ H' fun σ2 H2=>tb { D with nx:=N,ct:=N,bk:=D.nx } σ2 H2)
noncomputable def fm (fp:List Addr) (h:Heap):List (Addr×Obj):=fp.filterMap fun b=>(h.get? b).map fun o=>(b,o)
theorem fb {fp:List Addr}{h:Heap}{b:Addr}{o:Obj} (hb:b∈fp) (e:h.get? b=some o):(b,o)∈fm fp h:=List.mem_filterMap.mpr ⟨b,hb,by rw [e];rfl⟩
theorem qb {fp:List Addr}{h:Heap}{p:Addr×Obj} (hp:p∈fm fp h):p.1∈fp/\h.get? p.1=some p.2:=by
 obtain⟨b,hb,e⟩:=List.mem_filterMap.mp hp
 cases q:h.get? b with
 | none=>rw [q] at e;cases e
 | some o =>
  rw [q] at e
  have e':(b,o)=p:=Option.some.inj e
  subst e'
  exact⟨hb,q⟩
theorem Inv.pinned {pins:List (Addr×Obj)}{σ:St}{H:Hp}{s:Shared}{fp:List Addr} (I:Inv X pins σ H s) (hf:∀b∈fp,bR X pins H b) (ho:∀b∈fp,∃o,s.heap.get? b=some o/\∀v,o.data≠.cell v):Inv X (pins++fm fp s.heap) σ H s :=
 I.pins_of fun p hp=>(List.mem_append.mp hp).elim (fun z=>I.pin p (List.mem_append_right _ z)) fun z=>by
  obtain⟨hb,e⟩:=qb z
  obtain⟨f0,f1,f2,_⟩:=hf p.1 hb
  obtain⟨o,e',d⟩:=ho p.1 hb
  rw [e] at e';cases e'
  exact⟨e,f0,f1,f2,d⟩
theorem Inv.unpinned {pins pl:List (Addr×Obj)}{σ:St}{H:Hp}{s:Shared} (I:Inv X (pins++pl) σ H s):Inv X pins σ H s:=I.pins_of fun p hp=>I.pin p (List.mem_append_right _ (List.mem_append_left _ hp))
theorem eS {iter:Expr}{body:List Stmt}{wi:TI}{g:TG}{tb:TS}{pos:Pos} (hp:PassesOwn (model X.prog X.w) X.A X.env X.xe) (hc:X.calm=true) (hi:PI X tg iter wi) (hg:PG X tg g) (hb:PSs X body tb)
  (hs:∀x,foldedSetIterable iter X.env x=pure x:=by intro _;rfl):PS X (.For tg iter body [] pos) (uD wi g tb):=by
 intro pins s σ H D I h
 refine wpAny_For (thn (hi pins s σ H _ I h) fun v s1 h1=>thn h1 fun itv s2 h2=>?_) hs
 obtain⟨it,fp,tn,J,H2,e,I2,T,st2,f2,W,⟨m0,w0⟩,turn⟩:=h2
 subst e
 have stat:∀{H':Hp},(∀b∈fp,H' b=none)->∀b∈fp,bR X pins H' b:=fun hn b hb=>⟨hn b hb,(f2 b hb).2⟩
 refine codeAny_forLoop_any (fun n s'=>∃i σ' H',Inv X pins σ' H' s'/\tn i s'.heap/\(∀b∈fp,H' b=none)/\W i n σ' H') ?_ m0 ⟨0,σ,H2,I2,st2,fun b hb=>(f2 b hb).1,w0⟩
 rintro n s3 ⟨i,σ3,H3,I3,st3,fr3,w3⟩
 rcases turn i n σ3 H3 w3 with ⟨stop,qn⟩ | ⟨go,N,hN,step⟩
 ·refine wpAny_passesOwn hp (thn (T.done X rfl rfl rfl hc i pins s3 σ3 H3 X.xe I3 (stat fr3) st3 stop) fun r s4 ⟨hr,I4⟩=>?_)
  subst hr
  exact wpAny_execs_nil ⟨σ3,H3,I4,qn⟩
 ·refine wpAny_passesOwn hp (thn (T.item X rfl rfl rfl hc i pins s3 σ3 H3 X.xe I3 (stat fr3) st3 go) fun r s4 ⟨u,hr,h4⟩=>?_)
  subst hr
  refine wpAny_passesOwn hp (thn h4 fun _ s5 ⟨x,H5,I5,r5,y5,st5,fr5⟩=>?_)
  have I5':=I5.pinned (stat fr5) (T.obj _ _ st5)
  refine wpAny_passesOwn hp (thn (hg _ s5 σ3 H5 x u _ I5' r5 (step x H5 y5)) fun _ s6 ⟨σ6,H6,I6,q6⟩=>?_)
  refine wpAny_passesOwn hp (thn (hb _ s6 σ6 H6 _ I6 q6) fun f s7 q7=>?_)
  have again:∀{σ7:St}{H7:Hp},Inv X (pins++fm fp s5.heap) σ7 H7 s7->N σ7 H7->∃m,m < n/\∃i σ' H',Inv X pins σ' H' s7/\tn i s7.heap/\(∀b∈fp,H' b=none)/\W i m σ' H':=fun {σ7 H7} I7 n7=>by
   obtain⟨m',hm,w7⟩:=hN σ7 H7 n7
   refine⟨m',hm,i + 1,σ7,H7,I7.unpinned,T.keep _ _ _ st5 fun b hb o e=>(I7.pin (b,o) (List.mem_append_right _ (List.mem_append_right _ (fb hb e)))).1,fun b hb=>?_,w7⟩
   obtain⟨o,e,d⟩:=T.obj _ _ st5 b hb
   exact (I7.pin (b,o) (List.mem_append_right _ (List.mem_append_right _ (fb hb e)))).2.1
  cases f with
  | next=>obtain⟨σ7,H7,I7,n7⟩:=q7;exact again I7 n7
  | cont=>obtain⟨σ7,H7,I7,n7⟩:=q7;exact again I7 n7
  | brk=>obtain⟨σ7,H7,I7,q7⟩:=q7;exact⟨σ7,H7,I7.unpinned,q7⟩
  | ret v=>obtain⟨x7,σ7,H7,I7,r7,q7⟩:=q7;exact⟨x7,σ7,H7,I7.unpinned,r7,q7⟩
end
theorem qT {K:PySem.W.Frag}{a:Addr}{xs:List V}{g:TG}{tb:TS}{D:Ends}{σ:St}{H:Hp} (Pv:Nat->St->Hp->Prop) (h0:Pv 0 σ H) (hl:∀i σ H,i<=xs.length->Pv i σ H->SqL K H a xs)
  (hs:∀i x σ H,xs[i]?=some x->Pv i σ H->g x σ H fun σ2 H2=>tb { D with nx:=Pv (i + 1),ct:=Pv (i + 1),bk:=D.nx } σ2 H2) (hd:∀σ H,Pv xs.length σ H->D.nx σ H) :
  ∃W:Nat->Nat->St->Hp->Prop,(∃m,W 0 m σ H)/\∀i m σ H,W i m σ H ->
   ((Itl K a).stop i H/\D.nx σ H)\/((Itl K a).go i H/\∃N:St->Hp->Prop,(∀σ' H',N σ' H'->∃m',m' < m/\W (i + 1) m' σ' H')/\∀x H',(Itl K a).yld i H x H'->g x σ H' fun σ2 H2=>tb { D with nx:=N,ct:=N,bk:=D.nx } σ2 H2):=by
 refine⟨fun i m σ H=>m=xs.length - i/\i<=xs.length/\Pv i σ H,⟨xs.length,by simp,Nat.zero_le _,h0⟩,?_⟩
 rintro i m σ H ⟨rfl,hi,p⟩
 have q:=hl i σ H hi p
 by_cases hlt:i < xs.length
 ·refine .inr ⟨⟨xs,xs[i],q,by simp [hlt]⟩,Pv (i + 1),fun σ' H' p'=>⟨xs.length - (i + 1),by omega,rfl,hlt,p'⟩,fun x H' y=>?_⟩
  obtain⟨e,y⟩:=y
  subst e
  exact hs i x σ _ (y xs q) p
 ·have e:i=xs.length:=by omega
  subst e
  exact .inl ⟨⟨xs,q,Nat.le_refl _⟩,hd σ H p⟩
theorem rC {K:PySem.W.Frag}{a:Addr}{xs:List V}{g:TG}{tb:TS}{D:Ends}{σ:St}{H:Hp} (Pv:Nat->St->Hp->Prop) (h0:Pv 0 σ H) (hl:∀i σ H,i<=xs.length->Pv i σ H->SqT K H a xs)
  (hs:∀i x σ H,xs[i]?=some x->Pv i σ H->g x σ H fun σ2 H2=>tb { D with nx:=Pv (i + 1),ct:=Pv (i + 1),bk:=D.nx } σ2 H2) (hd:∀σ H,Pv xs.length σ H->D.nx σ H) :
  ∃W:Nat->Nat->St->Hp->Prop,(∃m,W 0 m σ H)/\∀i m σ H,W i m σ H ->
   ((Itt K a).stop i H/\D.nx σ H)\/((Itt K a).go i H/\∃N:St->Hp->Prop,(∀σ' H',N σ' H'->∃m',m' < m/\W (i + 1) m' σ' H')/\∀x H',(Itt K a).yld i H x H'->g x σ H' fun σ2 H2=>tb { D with nx:=N,ct:=N,bk:=D.nx } σ2 H2):=by
 refine⟨fun i m σ H=>m=xs.length - i/\i<=xs.length/\Pv i σ H,⟨xs.length,by simp,Nat.zero_le _,h0⟩,?_⟩
 rintro i m σ H ⟨rfl,hi,p⟩
 have q:=hl i σ H hi p
 by_cases hlt:i < xs.length
 ·refine .inr ⟨⟨xs,xs[i],q,by simp [hlt]⟩,Pv (i + 1),fun σ' H' p'=>⟨xs.length - (i + 1),by omega,rfl,hlt,p'⟩,fun x H' y=>?_⟩
  obtain⟨e,y⟩:=y
  subst e
  exact hs i x σ _ (y xs q) p
 ·have e:i=xs.length:=by omega
  subst e
  exact .inl ⟨⟨xs,q,Nat.le_refl _⟩,hd σ H p⟩
theorem fK {lo:Int}{n:Nat}{g:TG}{tb:TS}{D:Ends}{σ:St}{H:Hp} (Pv:Nat->St->Hp->Prop) (h0:Pv 0 σ H)
  (hs:∀i σ H,i < n->Pv i σ H->g (.int (lo + i)) σ H fun σ2 H2=>tb { D with nx:=Pv (i + 1),ct:=Pv (i + 1),bk:=D.nx } σ2 H2) (hd:∀σ H,Pv n σ H->D.nx σ H) :
  ∃W:Nat->Nat->St->Hp->Prop,(∃m,W 0 m σ H)/\∀i m σ H,W i m σ H ->
   ((Itr lo n).stop i H/\D.nx σ H)\/((Itr lo n).go i H/\∃N:St->Hp->Prop,(∀σ' H',N σ' H'->∃m',m' < m/\W (i + 1) m' σ' H')/\∀x H',(Itr lo n).yld i H x H'->g x σ H' fun σ2 H2=>tb { D with nx:=N,ct:=N,bk:=D.nx } σ2 H2):=by
 refine⟨fun i m σ H=>m=n - i/\i<=n/\Pv i σ H,⟨n,by simp,Nat.zero_le _,h0⟩,?_⟩
 rintro i m σ H ⟨rfl,hi,p⟩
 by_cases hlt:i < n
 ·refine .inr ⟨hlt,Pv (i + 1),fun σ' H' p'=>⟨n - (i + 1),by omega,rfl,hlt,p'⟩,fun x H' y=>?_⟩
  obtain⟨e,y⟩:=y
  subst e y
  exact hs i σ _ hlt p
 ·have e:i=n:=by omega
  subst e
  exact .inl ⟨Nat.le_refl _,hd σ H p⟩
noncomputable abbrev R2:=V->V->Hp->VK->Prop
noncomputable def OpR (X:Cx) (f:Value->Value->Sem Value) (r:R2):Prop :=
 ∀(pins:List (Addr×Obj)) (s:Shared) (σ:St) (H:Hp) (x y:V) (v u:Value) (Q:VK),Inv X pins σ H s->RelV x v->RelV y u->r x y H Q ->
  wpAny (model X.prog X.w) X.A (f v u) (EP X pins σ Q) X.xe s
noncomputable def UnR (X:Cx) (f:Value->Sem Value) (r:V->Hp->VK->Prop):Prop :=
 ∀(pins:List (Addr×Obj)) (s:Shared) (σ:St) (H:Hp) (x:V) (v:Value) (Q:VK),Inv X pins σ H s->RelV x v->r x H Q ->
  wpAny (model X.prog X.w) X.A (f v) (EP X pins σ Q) X.xe s
noncomputable def cf (X:Cx) (f:Value) (r:List V->Hp->VK->Prop):Prop :=
 ∀(pins:List (Addr×Obj)) (s:Shared) (σ:St) (H:Hp) (xs:List V) (us:List Value) (Q:VK),Inv X pins σ H s->ar xs us->r xs H Q ->
  wpAny (model X.prog X.w) X.A (call f us) (EP X pins σ Q) X.xe s
noncomputable def tOp (r:R2) (ta tb:TE):TE:=fun σ H Q=>ta σ H fun x H1=>tb σ H1 fun y H2=>r x y H2 Q
noncomputable def tUn (r:V->Hp->VK->Prop) (ta:TE):TE:=fun σ H Q=>ta σ H fun x H1=>r x H1 Q
noncomputable def rI (C:Int->Int->Prop) (g:Int->Int->V):R2:=fun x y H Q=>∃i j,x=.int i/\y=.int j/\C i j/\Q (g i j) H
noncomputable def rI0 (g:Int->Int->V):R2:=fun x y H Q=>∃i j,x=.int i/\y=.int j/\Q (g i j) H
noncomputable def rU (g:Int->V):V->Hp->VK->Prop:=fun x H Q=>∃i,x=.int i/\Q (g i) H
section
variable {X:Cx}{a b c:Expr}{ta tb tc:TE}{pos:Pos}
theorem jy (ha:PE X a ta) (hb:PE X b tb) {pins:List (Addr×Obj)}{s:Shared}{σ:St}{H:Hp}{R:V->V->Hp->Prop} (I:Inv X pins σ H s)
  (h:ta σ H fun x H1=>tb σ H1 fun y H2=>R x y H2) {Q:Value->Shared->Prop}{f:Value->Value->Sem Value}
  (hf:∀v u s2 x y H2,Inv X pins σ H2 s2->RelV x v->RelV y u->R x y H2->wpAny (model X.prog X.w) X.A (f v u) Q X.xe s2) :
  wpAny (model X.prog X.w) X.A (eval a X.env) (fun v s₁=>wpAny (model X.prog X.w) X.A (eval b X.env) (fun u s₂=>wpAny (model X.prog X.w) X.A (f v u) Q X.xe s₂) X.xe s₁) X.xe s:=by
 refine thn (ha pins s σ H _ I h) fun v s1 ⟨x,H1,I1,r1,q1⟩=>?_
 refine thn (hb pins s1 σ H1 _ I1 q1) fun u s2 ⟨y,H2,I2,r2,q2⟩=>?_
 exact hf v u s2 x y H2 I2 r1 r2 q2
theorem aE {op:Operator}{r:R2} (ho:OpR X (binaryOp op) r) (ha:PE X a ta) (hb:PE X b tb):PE X (.BinOp a op b pos) (tOp r ta tb):=by
 intro pins s σ H Q I h
 exact wpAny_BinOp (jy ha hb I h fun v u s2 x y H2 I2 rx ry q=>ho pins s2 σ H2 x y v u Q I2 rx ry q)
theorem dw {op:UnaryOp}{r:V->Hp->VK->Prop} (ho:UnR X (unaryOp op) r) (ha:PE X a ta):PE X (.UnaryOp op a pos) (tUn r ta):=by
 intro pins s σ H Q I h
 exact UnaryOp_ (thn (ha pins s σ H _ I h) fun v s1 ⟨x,H1,I1,r1,q1⟩=>ho pins s1 σ H1 x v Q I1 r1 q1)
theorem opI {f:Value->Value->Sem Value}{C:Int->Int->Prop}{g:Int->Int->Int}
  (rule:∀(i j:Int) (t u:Tok) (s:Shared) (Q:Value->Shared->Prop) (E:Value->Shared->Prop),C i j->Q (.int (g i j) s.toks) { s with toks:=s.toks + 1 }->wpAny (model X.prog X.w) X.A (f (.int i t) (.int j u)) Q E s) :
  OpR X f (rI C fun i j=>.int (g i j)):=by
 intro pins s σ H x y v u Q I rx ry h
 obtain⟨i,j,rfl,rfl,hc,q⟩:=h
 obtain⟨t,rfl⟩:=rx
 obtain⟨t',rfl⟩:=ry
 exact rule i j t t' s _ _ hc ⟨.int (g i j),H,I.tok _,⟨_,rfl⟩,q⟩
theorem mU {f:Value->Value->Sem Value}{g:Int->Int->Int}
  (rule:∀(i j:Int) (t u:Tok) (s:Shared) (Q:Value->Shared->Prop) (E:Value->Shared->Prop),Q (.int (g i j) s.toks) { s with toks:=s.toks + 1 }->wpAny (model X.prog X.w) X.A (f (.int i t) (.int j u)) Q E s) :
  OpR X f (rI0 fun i j=>.int (g i j)):=by
 intro pins s σ H x y v u Q I rx ry h
 obtain⟨i,j,rfl,rfl,q⟩:=h
 obtain⟨t,rfl⟩:=rx
 obtain⟨t',rfl⟩:=ry
 exact rule i j t t' s _ _ ⟨.int (g i j),H,I.tok _,⟨_,rfl⟩,q⟩
theorem jt {f:Value->Value->Sem Value}{g:Int->Int->Bool}
  (rule:∀(i j:Int) (t u:Tok) (s:Shared) (Q:Value->Shared->Prop) (E:Value->Shared->Prop),Q (.bool (g i j)) s->wpAny (model X.prog X.w) X.A (f (.int i t) (.int j u)) Q E s) :
  OpR X f (rI0 fun i j=>.bl (g i j)):=by
 intro pins s σ H x y v u Q I rx ry h
 obtain⟨i,j,rfl,rfl,q⟩:=h
 obtain⟨t,rfl⟩:=rx
 obtain⟨t',rfl⟩:=ry
 exact rule i j t t' s _ _ ⟨.bl (g i j),H,I,rfl,q⟩
noncomputable def nk (i j:Int):Prop:=0 < j/\j < 1073741824
noncomputable def um (i j:Int):Prop:=0<=j/\j<=1000000/\i.natAbs < 2 ^ 64
noncomputable def jx (i j:Int):Prop:=(-(2 ^ 64) < i/\i < 2 ^ 64)\/(-(2 ^ 64) < j/\j < 2 ^ 64)
theorem jx.ok {i j:Int} (h:jx i j):IntMulOk i j:=by
 rcases h with ⟨h1,h2⟩ | ⟨h1,h2⟩
 ·exact .of_left (intBits_le_64 h1 h2)
 ·exact .of_right (intBits_le_64 h1 h2)
theorem dG:OpR X (binaryOp .Add) (rI0 fun i j=>.int (i + j)):=mU fun _ _ _ _ _ _ _ q=>add_int q
theorem fY:OpR X (binaryOp .Sub) (rI0 fun i j=>.int (i - j)):=mU fun _ _ _ _ _ _ _ q=>sub_int q
theorem gQ:OpR X (binaryOp .Mult) (rI jx fun i j=>.int (i * j)):=opI fun _ _ _ _ _ _ _ hc q=>mul_int q hc.ok
theorem lM:OpR X (binaryOp .FloorDiv) (rI nk fun i j=>.int (i / j)):=opI fun i j _ _ _ _ _ hc q=>by
 have h1:(0:Int) < j:=hc.1
 have h2:j < 1073741824:=hc.2
 exact floordiv_int (by omega) (by rw [Int.fdiv_eq_ediv_of_nonneg i (by omega)];exact q) (.inl (PyProof.noPylong_small (by omega)))
theorem eY:OpR X (binaryOp .Mod) (rI (fun _ j=>0 < j) fun i j=>.int (i % j)):=opI fun i j _ _ _ _ _ hc q=>by
 have h1:(0:Int) < j:=hc
 exact mod_int' (by omega) (by rw [Int.fmod_eq_emod_of_nonneg i (by omega)];exact q)
theorem sJ:OpR X (binaryOp .Pow) (rI um fun i j=>.int (i ^ j.toNat)):=opI fun _ _ _ _ _ _ _ hc q=>pow_int_small hc.1 hc.2.1 hc.2.2 q
theorem unI {f:Value->Sem Value}{g:Int->Int}
  (rule:∀(i:Int) (t:Tok) (s:Shared) (Q:Value->Shared->Prop) (E:Value->Shared->Prop),Q (.int (g i) s.toks) { s with toks:=s.toks + 1 }->wpAny (model X.prog X.w) X.A (f (.int i t)) Q E s) :
  UnR X f (rU fun i=>.int (g i)):=by
 intro pins s σ H x v Q I rx h
 obtain⟨i,rfl,q⟩:=h
 obtain⟨t,rfl⟩:=rx
 exact rule i t s _ _ ⟨.int (g i),H,I.tok _,⟨_,rfl⟩,q⟩
theorem dr:UnR X (unaryOp .USub) (rU fun i=>.int (-i)):=unI fun _ _ _ _ _ q=>neg_int q
end
noncomputable def mT:V->V->Bool
 | .non,.non=>true | .non,.int _=>true | .int _,.non=>true | .non,.bl _=>true | .bl _,.non=>true | .non,.str _=>true | .str _,.non=>true
 | .int _,.int _=>true | .bl _,.bl _=>true | .str _,.str _=>true | .byt _,.byt _=>true
 | .int _,.str _=>true | .str _,.int _=>true | .bl _,.str _=>true | .str _,.bl _=>true
 | _,_=>false
noncomputable def rEq:R2:=fun x y H Q=>mT x y=true/\Q (.bl (decide (x=y))) H
noncomputable def rNe:R2:=fun x y H Q=>mT x y=true/\Q (.bl (!decide (x=y))) H
theorem lR {i j:Int}:decide (V.int i=V.int j)=(i == j):=by
 rw [Bool.eq_iff_iff]
 simp
theorem mC {i j:Bool}:decide (V.bl i=V.bl j)=(i == j):=by
 rw [Bool.eq_iff_iff]
 simp
theorem lN {i j:Str}:decide (V.str i=V.str j)=(i == j):=by
 rw [Bool.eq_iff_iff]
 simp
theorem lJ {i j:Array UInt8}:decide (V.byt i=V.byt j)=(i.toList == j.toList):=by
 rw [Bool.eq_iff_iff]
 cases i
 cases j
 simp
section
variable {X:Cx}{a b c:Expr}{ta tb tc:TE}{pos:Pos}
theorem bo {pins:List (Addr×Obj)}{σ:St}{H:Hp}{s:Shared}{Q:VK}{k k':Bool} (I:Inv X pins σ H s) (q:Q (.bl k) H) (e:k=k'):EP X pins σ Q (.bool k') s:=by
 subst e
 exact⟨.bl k,H,I,rfl,q⟩
theorem cX:OpR X (compareOp .Eq) rEq:=by
 intro pins s σ H x y v u Q I rx ry h
 obtain⟨hs,q⟩:=h
 cases x with
 | non =>
  cases rx
  cases y with
  | non=>cases ry;exact PySem.EqNone.eq_none_none (bo I q (by simp))
  | bl j=>cases ry;exact PySem.EqNone.eq_none_bool (bo I q (by simp))
  | int j=>obtain⟨t',rfl⟩:=ry;exact PySem.EqNone.eq_none_int (bo I q (by simp))
  | str j=>obtain⟨t',rfl⟩:=ry;exact PySem.EqNone.eq_none_str (bo I q (by simp))
  | _=>exact absurd (show false=true from hs) Bool.false_ne_true
 | bl i =>
  cases rx
  cases y with
  | non=>cases ry;exact PySem.EqNone.eq_bool_none (bo I q (by simp))
  | bl j=>cases ry;exact eq_bool (bo I q mC)
  | str j=>obtain⟨t',rfl⟩:=ry;exact PySem.EqMixed.eq_bool_str (bo I q (by simp))
  | _=>exact absurd (show false=true from hs) Bool.false_ne_true
 | int i =>
  obtain⟨t,rfl⟩:=rx
  cases y with
  | non=>cases ry;exact PySem.EqNone.eq_int_none (bo I q (by simp))
  | int j=>obtain⟨t',rfl⟩:=ry;exact eq_int (bo I q lR)
  | str j=>obtain⟨t',rfl⟩:=ry;exact PySem.EqMixed.eq_int_str (bo I q (by simp))
  | _=>exact absurd (show false=true from hs) Bool.false_ne_true
 | str i =>
  obtain⟨t,rfl⟩:=rx
  cases y with
  | non=>cases ry;exact PySem.EqNone.eq_str_none (bo I q (by simp))
  | bl j=>cases ry;exact PySem.EqMixed.eq_str_bool (bo I q (by simp))
  | int j=>obtain⟨t',rfl⟩:=ry;exact PySem.EqMixed.eq_str_int (bo I q (by simp))
  | str j=>obtain⟨t',rfl⟩:=ry;exact eq_str (bo I q lN)
  | _=>exact absurd (show false=true from hs) Bool.false_ne_true
 | byt i =>
  obtain⟨t,rfl⟩:=rx
  cases y with
  | byt j=>obtain⟨t',rfl⟩:=ry;exact PySem.W.eq_bytes (bo I q lJ)
  | _=>exact absurd (show false=true from hs) Bool.false_ne_true
 | _=>cases y <;> exact absurd (show false=true from hs) Bool.false_ne_true
theorem dI:OpR X (compareOp .NotEq) rNe:=by
 intro pins s σ H x y v u Q I rx ry h
 obtain⟨hs,q⟩:=h
 cases x with
 | non =>
  cases rx
  cases y with
  | non=>cases ry;exact PySem.EqNone.ne_none_none (bo I q (by simp))
  | bl j=>cases ry;exact PySem.EqNone.ne_none_bool (bo I q (by simp))
  | int j=>obtain⟨t',rfl⟩:=ry;exact PySem.EqNone.ne_none_int (bo I q (by simp))
  | str j=>obtain⟨t',rfl⟩:=ry;exact PySem.EqNone.ne_none_str (bo I q (by simp))
  | _=>exact absurd (show false=true from hs) Bool.false_ne_true
 | bl i =>
  cases rx
  cases y with
  | non=>cases ry;exact PySem.EqNone.ne_bool_none (bo I q (by simp))
  | bl j=>cases ry;exact ne_bool (bo I q (congrArg not mC))
  | str j=>obtain⟨t',rfl⟩:=ry;exact PySem.EqMixed.ne_bool_str (bo I q (by simp))
  | _=>exact absurd (show false=true from hs) Bool.false_ne_true
 | int i =>
  obtain⟨t,rfl⟩:=rx
  cases y with
  | non=>cases ry;exact PySem.EqNone.ne_int_none (bo I q (by simp))
  | int j=>obtain⟨t',rfl⟩:=ry;exact ne_int (bo I q (congrArg not lR))
  | str j=>obtain⟨t',rfl⟩:=ry;exact PySem.EqMixed.ne_int_str (bo I q (by simp))
  | _=>exact absurd (show false=true from hs) Bool.false_ne_true
 | str i =>
  obtain⟨t,rfl⟩:=rx
  cases y with
  | non=>cases ry;exact PySem.EqNone.ne_str_none (bo I q (by simp))
  | bl j=>cases ry;exact PySem.EqMixed.ne_str_bool (bo I q (by simp))
  | int j=>obtain⟨t',rfl⟩:=ry;exact PySem.EqMixed.ne_str_int (bo I q (by simp))
  | str j=>obtain⟨t',rfl⟩:=ry;exact ne_str (bo I q (congrArg not lN))
  | _=>exact absurd (show false=true from hs) Bool.false_ne_true
 | byt i =>
  obtain⟨t,rfl⟩:=rx
  cases y with
  | byt j=>obtain⟨t',rfl⟩:=ry;exact PySem.W.ne_bytes (bo I q (congrArg not lJ))
  | _=>exact absurd (show false=true from hs) Bool.false_ne_true
 | _=>cases y <;> exact absurd (show false=true from hs) Bool.false_ne_true
theorem gT:OpR X (compareOp .Lt) (rI0 fun i j=>.bl (decide (i < j))):=jt fun _ _ _ _ _ _ _ q=>lt_int q
theorem gY:OpR X (compareOp .LtE) (rI0 fun i j=>.bl (decide (i<=j))):=jt fun _ _ _ _ _ _ _ q=>le_int q
theorem f6:OpR X (compareOp .Gt) (rI0 fun i j=>.bl (decide (j < i))):=jt fun _ _ _ _ _ _ _ q=>gt_int q
theorem kg:OpR X (compareOp .Lt) (fun x y H Q=>∃i j,x=.str i/\y=.str j/\Q (.bl (decide (i.cps.toList < j.cps.toList))) H):=by
 intro pins s σ H x y v u Q I rx ry h
 obtain⟨i,j,rfl,rfl,q⟩:=h
 obtain⟨t,rfl⟩:=rx
 obtain⟨t',rfl⟩:=ry
 exact lt_str (bo I q rfl)
theorem lO:OpR X (compareOp .IsNot) (fun x y H Q=>y=.non/\Q (.bl (!decide (x=.non))) H):=by
 intro pins s σ H x y v u Q I rx ry h
 obtain⟨rfl,q⟩:=h
 cases ry
 refine isnot_none_gen (bo I q ?_)
 cases x <;> first
  | (cases rx;rfl)
  | (obtain⟨t,rfl⟩:=rx;rfl)
theorem aQ (b:Expr) {op:CmpOp} (h:op≠.In:=by decide) (h2:op≠.NotIn:=by decide):behindInMarks op b=false:=by
 have e1:(op == CmpOp.In)=false:=by cases op <;> first | rfl | exact absurd rfl h
 have e2:(op == CmpOp.NotIn)=false:=by cases op <;> first | rfl | exact absurd rfl h2
 cases b <;> simp [behindInMarks,e1,e2]
theorem cV {op:CmpOp}{r:R2} (ho:OpR X (compareOp op) r) (ha:PE X a ta) (hb:PE X b tb) (hm:behindInMarks op b=false):PE X (.Compare a [op] [b] pos) (tOp r ta tb):=by
 intro pins s σ H Q I h
 exact wpAny_Compare1 (jy ha hb I h fun v u s2 x y H2 I2 rx ry q=>ho pins s2 σ H2 x y v u Q I2 rx ry q) hm
noncomputable def jf (t:TE):TT:=fun σ H Q=>t σ H fun x H'=>∃k,x=.bl k/\Q k H'
theorem aM {op:CmpOp}{r:R2} (ho:OpR X (compareOp op) r) (ha:PE X a ta) (hb:PE X b tb) (hm:behindInMarks op b=false):PT X (.Compare a [op] [b] pos) (jf (tOp r ta tb)):=by
 intro pins s σ H Q I h
 refine wpAny_isTrue_Compare1 (thn (ha pins s σ H _ I h) fun v s1 ⟨x,H1,I1,r1,q1⟩=>thn (hb pins s1 σ H1 _ I1 q1) fun u s2 ⟨y,H2,I2,r2,q2⟩ =>
  thn (ho pins s2 σ H2 x y v u _ I2 r1 r2 q2) fun c s3 ⟨z,H3,I3,r3,k,e,q3⟩=>?_) hm
 subst e
 cases r3
 exact wpAny_truthy_bool ⟨H3,I3,q3⟩
noncomputable def md (r r':R2) (ta tb tc:TE):TE:=fun σ H Q=>ta σ H fun x H1=>tb σ H1 fun y H2=>r x y H2 fun z H3=>∃k,z=.bl k /\
 (if k=true then tc σ H3 fun w' H4=>r' y w' H4 Q else Q (.bl false) H3)
theorem ku {op op':CmpOp}{r r':R2} (ho:OpR X (compareOp op) r) (ho':OpR X (compareOp op') r') (ha:PE X a ta) (hb:PE X b tb) (hc:PE X c tc)
  (hm:lastMarks [op,op'] [b,c]=false:=by with_unfolding_all rfl):PE X (.Compare a [op,op'] [b,c] pos) (md r r' ta tb tc):=by
 intro pins s σ H Q I h
 refine Compare_chain (thn (ha pins s σ H _ I h) fun v s1 ⟨x,H1,I1,r1,q1⟩=>chain_link (thn (hb pins s1 σ H1 _ I1 q1) fun u s2 ⟨y,H2,I2,r2,q2⟩ =>
  thn (ho pins s2 σ H2 x y v u _ I2 r1 r2 q2) fun d s3 ⟨z,H3,I3,r3,k,e,q3⟩=>?_)) hm
 subst e
 cases r3
 refine wpAny_truthy_bool ?_
 cases k with
 | false=>exact ite_ff ⟨.bl false,H3,I3,rfl,q3⟩
 | true=>exact ite_tt (chain_last (thn (hc pins s3 σ H3 _ I3 q3) fun w' s4 ⟨z',H4,I4,r4,q4⟩=>ho' pins s4 σ H4 y z' u w' Q I4 r2 r4 q4))
theorem kJ {op op':CmpOp}{r r':R2} (ho:OpR X (compareOp op) r) (ho':OpR X (compareOp op') r') (ha:PE X a ta) (hb:PE X b tb) (hc:PE X c tc)
  (hm:lastMarks [op,op'] [b,c]=false:=by with_unfolding_all rfl):PT X (.Compare a [op,op'] [b,c] pos) (jf (md r r' ta tb tc)):=by
 intro pins s σ H Q I h
 refine isTrue_chain (thn (ha pins s σ H _ I h) fun v s1 ⟨x,H1,I1,r1,q1⟩=>test_link (thn (hb pins s1 σ H1 _ I1 q1) fun u s2 ⟨y,H2,I2,r2,q2⟩ =>
  thn (ho pins s2 σ H2 x y v u _ I2 r1 r2 q2) fun d s3 ⟨z,H3,I3,r3,k,e,q3⟩=>?_)) hm
 subst e
 cases r3
 refine wpAny_truthy_bool ?_
 cases k with
 | false =>
  obtain⟨k',e',q'⟩:=q3
  cases e'
  exact ite_ff ⟨H3,I3,q'⟩
 | true =>
  refine ite_tt (test_last (thn (hc pins s3 σ H3 _ I3 q3) fun w' s4 ⟨z',H4,I4,r4,q4⟩=>thn (ho' pins s4 σ H4 y z' u w' _ I4 r2 r4 q4) fun d' s5 ⟨z2,H5,I5,r5,k2,e2,q5⟩=>?_))
  subst e2
  cases r5
  exact wpAny_truthy_bool ⟨H5,I5,q5⟩
theorem fk:(sizeLine:Nat) < 2 ^ 63:=by rw [sizeLine_eq];decide
theorem ig:OpR X (binaryOp .Add) (fun x y H Q=>∃i j,x=.str i/\y=.str j/\i.length + j.length<=sizeLine/\Q (.str (i++j)) H):=by
 intro pins s σ H x y v u Q I rx ry h
 obtain⟨i,j,rfl,rfl,hz,q⟩:=h
 obtain⟨t,rfl⟩:=rx
 obtain⟨t',rfl⟩:=ry
 exact add_str (fun t' tk=>⟨.str (i++j),H,I.tok _,⟨_,rfl⟩,q⟩) hz
theorem vals1 {x:V}{us:List Value} (r:ar [x] us):∃u,us=[u]/\RelV x u:=by
 cases r with
 | cons r1 r2=>cases r2;exact⟨_,rfl,r1⟩
theorem vals2 {x y:V}{us:List Value} (r:ar [x,y] us):∃u w',us=[u,w']/\RelV x u/\RelV y w':=by
 cases r with
 | cons r1 r2 =>
  cases r2 with
  | cons r3 r4=>cases r4;exact⟨_,_,rfl,r1,r3⟩
theorem j4 (hc:X.calm=true):cf X (.builtin "max") (fun xs H Q=>∃i j,xs=[.int i,.int j]/\Q (.int (if j > i then j else i)) H):=by
 intro pins s σ H xs us Q I r h
 obtain⟨i,j,rfl,q⟩:=h
 obtain⟨u,w',rfl,⟨t,rfl⟩,⟨t',rfl⟩⟩:=vals2 r
 refine max_two_ints (I.ok.hd hc) fun h' tk k=>⟨_,H,I.kept k,?_,q⟩
 by_cases hj:j > i
 ·rw [if_pos hj,if_pos hj];exact⟨_,rfl⟩
 ·rw [if_neg hj,if_neg hj];exact⟨_,rfl⟩
theorem pF (hc:X.calm=true):cf X (.builtin "min") (fun xs H Q=>∃i j,xs=[.int i,.int j]/\Q (.int (if j < i then j else i)) H):=by
 intro pins s σ H xs us Q I r h
 obtain⟨i,j,rfl,q⟩:=h
 obtain⟨u,w',rfl,⟨t,rfl⟩,⟨t',rfl⟩⟩:=vals2 r
 refine min_two_ints (I.ok.hd hc) fun h' tk k=>⟨_,H,I.kept k,?_,q⟩
 by_cases hj:j < i
 ·rw [if_pos hj,if_pos hj];exact⟨_,rfl⟩
 ·rw [if_neg hj,if_neg hj];exact⟨_,rfl⟩
theorem qg:cf X (.type "int") (fun xs H Q=>(∃i,xs=[.int i]/\Q (.int i) H)\/∃k,xs=[.bl k]/\Q (.int (if k then 1 else 0)) H):=by
 intro pins s σ H xs us Q I r h
 rcases h with ⟨i,rfl,q⟩ | ⟨k,rfl,q⟩
 ·obtain⟨u,rfl,t,rfl⟩:=vals1 r
  exact call_int_int ⟨.int i,H,I,⟨_,rfl⟩,q⟩
 ·obtain⟨u,rfl,r1⟩:=vals1 r
  cases r1
  exact call_int_bool ⟨.int (if k then 1 else 0),H,I.tok _,⟨_,rfl⟩,q⟩
theorem oA:cf X (.builtin "divmod") (fun xs H Q=>∃i j,xs=[.int i,.int j]/\nk i j/\∀p,H p=none->Q (.ref p) (upd H p (.tup [.int (i / j),.int (i % j)]))):=by
 intro pins s σ H xs us Q I r h
 obtain⟨i,j,rfl,⟨h1,h2⟩,q⟩:=h
 obtain⟨u,w',rfl,⟨t,rfl⟩,⟨t',rfl⟩⟩:=vals2 r
 refine divmod_int (by omega) ?_ (.inl (PyProof.noPylong_small (by omega)))
 rw [Int.fdiv_eq_ediv_of_nonneg i (by omega),Int.fmod_eq_emod_of_nonneg i (by omega)]
 have hn:H s.heap.objs.size=none:=I.hok.fresh (Nat.le_refl _)
 refine⟨.ref s.heap.objs.size,_,?_,rfl,q _ hn⟩
 refine I.laid (fun b o e=>Heap.get?_push_of_some _ e) (Nat.le_refl _) ⟨by simp only [List.length_cons,List.length_nil];rw [sizeLine_eq];decide,[.int (i / j) s.toks,.int (i % j) (s.toks + 1)],.cons ⟨_,rfl⟩ (.cons ⟨_,rfl⟩ .nil),?_⟩
 exact⟨_,Heap.get?_push_size s.heap rfl,rfl,0,rfl⟩
end
structure jB (h:Heap) (x dx C:Addr) (mA:Str->Option Value):Prop where
 obj:h.get? x=some (PySem.W.instObj C dx)
 ns:h.Ns1 dx mA
 ne:dx≠x
theorem qc {h:Heap}{dx:Addr}{mA:Str->Option Value} (n:h.Ns1 dx mA):∃od,h.get? dx=some od/\∀name,PySem.W.lookIn name od=some (mA name):=by
 obtain⟨o,es,ep,ho,hd,hk,_,hm⟩:=n
 refine⟨o,ho,fun name=>?_⟩
 have e:=hm name
 unfold nsFind findBy at e
 rw [<- Array.find?_toList] at e
 unfold PySem.W.lookIn
 rw [hd]
 dsimp only
 split
 ·rename_i y q
  rw [q] at e
  exact congrArg some e
 ·rename_i q
  rw [q] at e
  have a:es.toList.any (·.refKey)=false:=by
   rw [List.any_eq_false]
   intro y hy
   obtain⟨z,t,hkey⟩:=hk y (Array.mem_toList_iff.mp hy)
   simp [DictEntry.refKey,hkey]
  have a':¬ es.toList.any (·.refKey)=true:=by rw [a];exact Bool.false_ne_true
  rw [if_neg a']
  exact congrArg some e
theorem jB.look {h:Heap}{x dx C:Addr}{mA:Str->Option Value} (I:jB h x dx C mA):∃od,PySem.W.InstAt h x (PySem.W.instObj C dx) C (some od)/\∀name,PySem.W.lookIn name od=some (mA name) :=
 let ⟨od,ho,hl⟩:=qc I.ns
 ⟨od,⟨I.obj,rfl,rfl,ho⟩,hl⟩
section
variable {prog:Program}{w:World}{A:Around}{E:Value->Shared->Prop}{s:Shared}{K:PySem.W.Frag}{x dx C f:Addr}{mA:Str->Option Value}{name:Str}{v:Value}
end
section
variable {P:Program}{w:World}{H H':Hp}{h h':Heap}{a C dx:Addr}{fs fs':List (Str×V)}
theorem rF (hok:HOk P w H h) (e:H a=some (.ins C dx fs)):∃mA,jB h a dx C mA/\(∀f,hZ (fs.lookup f) (mA f))/\PySem.Within mA (fs.map (·.1))/\fs.length<=1000/\H dx=some (.own a):=by
 obtain⟨d,z,ne,ob,mA,n,r,q⟩:=(show aX P w H h a (.ins C dx fs) from hok a _ e)
 exact⟨mA,⟨ob,n,ne⟩,r,q,z,d⟩
end
structure Cls (K:PySem.W.Frag) (C:Addr):Prop where
 pg:PySem.W.plainGet K C Str.empty=true
 hd:PySem.W.hasDictIn K C=true
 po:PySem.W.plainOver K C=true
 sa:PySem.W.findIn K (.ref C) "__setattr__"=some (some (.builtin "object.__setattr__"))
theorem Cls.get {K:PySem.W.Frag}{C:Addr} (c:Cls K C) (f:Str):PySem.W.plainGet K C f=true:=c.pg
structure Con (K:PySem.W.Frag) (C:Addr) (f:Str) (v:V) (u:Value):Prop where
 at_:PySem.W.findIn K (.ref C) f=some (some u)
 rel:RelV v u
 get:PySem.W.specialIn K u "__get__"=some none
 cp:PySem.W.copiedNames.contains f=false
structure vc (K:PySem.W.Frag) (C:Addr) (m:Str) (f:Addr):Prop where
 at_:PySem.W.findIn K (.ref C) m=some (some (.ref f))
 fn:PySem.W.isFn K (.ref f)=true
 kp:PySem.W.keepIn K (.ref f)=true
section
variable {X:Cx}{pins:List (Addr×Obj)}{σ:St}{H:Hp}{s:Shared}{a C dx:Addr}{fs:List (Str×V)}{f:Str}{v:V}{A:Around}{E:Value->Shared->Prop}
end
section
variable {X:Cx}{o e value:Expr}{f:Str}{pos pos' tpos:Pos}{ta tv:TE}
end
section
variable {X:Cx}{pins:List (Addr×Obj)}{σ:St}{H:Hp}{s:Shared}{A:Around}{E:Value->Shared->Prop}{Q:Value->Shared->Prop}{c:Value}{b:Bool}
inductive cS (K:PySem.W.Frag) (H:Hp):V->Value->Prop where
 | non:cS K H .non (.type "NoneType")
 | bl (x:Bool):cS K H (.bl x) (.type "bool")
 | int (i:Int):cS K H (.int i) (.type "int")
 | str (x:Str):cS K H (.str x) (.type "str")
 | flt (x:UInt64):cS K H (.flt x) (.type "float")
 | lst {a:Addr}{xs:List V} (e:H a=some (.lst xs)):cS K H (.ref a) (.type "list")
 | frz {a:Addr}{o:Obj}{xs:List V} (e:H a=some (.frz o (.lst xs))):cS K H (.ref a) (.type "list")
 | tup {a:Addr}{xs:List V} (e:H a=some (.tup xs)):cS K H (.ref a) (.type "tuple")
 | dK {a:Addr}{kvs:List (Key×V)} (e:H a=some (.dK kvs)):cS K H (.ref a) (.type "dict")
 | dT {a:Addr}{kvs:List (List Key×V)} (e:H a=some (.dT kvs)):cS K H (.ref a) (.type "dict")
 | ins {a C dx:Addr}{fs:List (Str×V)} (e:H a=some (.ins C dx fs)) (cl:Cls K C) (ha:PySem.W.findIn K (.ref C) "__class__"=some (some (.builtin "object.__class__")))
   (hn:PySem.W.specialIn K (.builtin "object.__class__") "__get__"=some (some (.builtin "getset_descriptor.__get__"))) (htk:PySem.W.takesIn K (.builtin "object.__class__")=some true)
   (hm:PySem.W.mroIn K C (.type "object")=some true):cS K H (.ref a) (.ref C)
theorem qa {x:V}{u t:Value} (I:Inv X pins σ H s) (rx:RelV x u) (ty:cS X.K H x t) (e:PySem.W.kitOne X.K t c=some b) (h:∀tk,Q (.bool b) { s with toks:=tk }) :
  wpAny (model X.prog X.w) A (call (.builtin "isinstance") [u,c]) Q E s:=by
 cases ty with
 | non=>cases (show u=Value.none from rx);exact PySem.W.kia_one PySem.W.kitx_none I.kIn True.intro e (fun z=>nomatch z) h
 | bl y=>cases (show u=Value.bool y from rx);exact PySem.W.kia_one PySem.W.kitx_bool I.kIn True.intro e (fun z=>nomatch z) h
 | int i=>obtain⟨t,q⟩:=(show ∃t,u=Value.int i t from rx);cases q;exact PySem.W.kia_one PySem.W.kitx_int I.kIn True.intro e (fun z=>nomatch z) h
 | str y=>obtain⟨t,q⟩:=(show ∃t,u=Value.str y t from rx);cases q;exact PySem.W.kia_one PySem.W.kitx_str I.kIn True.intro e (fun z=>nomatch z) h
 | flt y=>obtain⟨t,q⟩:=(show ∃t,u=Value.float y t from rx);cases q;exact PySem.W.kia_one PySem.W.kitx_float I.kIn True.intro e (fun z=>nomatch z) h
 | @lst a xs ea =>
  cases (show u=Value.ref a from rx)
  obtain⟨_,_,n,_,h1⟩:=(show aX X.prog X.w H s.heap a (.lst xs) from I.hok a _ ea)
  exact PySem.W.kia_one PySem.W.kitx_list I.kIn ⟨_,h1,rfl⟩ e (fun z=>nomatch z) h
 | @frz a ob xs ea =>
  cases (show u=Value.ref a from rx)
  obtain⟨_,_,_,n,_,h1⟩:=(show aX X.prog X.w H s.heap a (.frz ob (.lst xs)) from I.hok a _ ea)
  exact PySem.W.kia_one PySem.W.kitx_list I.kIn ⟨_,h1,rfl⟩ e (fun z=>nomatch z) h
 | @tup a xs ea =>
  cases (show u=Value.ref a from rx)
  obtain⟨_,_,_,p⟩:=(show aX X.prog X.w H s.heap a (.tup xs) from I.hok a _ ea)
  obtain⟨o,h1,h2,_⟩:=p
  exact PySem.W.kia_one PySem.W.kitx_tuple I.kIn ⟨o,h1,h2⟩ e (fun z=>nomatch z) h
 | @dK a kvs ea =>
  cases (show u=Value.ref a from rx)
  obtain⟨_,_,vs,_,p⟩:=(show aX X.prog X.w H s.heap a (.dK kvs) from I.hok a _ ea)
  obtain⟨o,es,ep,h1,h2,_⟩:=p
  exact PySem.W.kia_one PySem.W.kitx_dict I.kIn ⟨o,h1,h2.1⟩ e (fun z=>nomatch z) h
 | @dT a kvs ea =>
  cases (show u=Value.ref a from rx)
  obtain⟨_,_,xs,_,o,es,ep,h1,h2,_⟩:=(show aX X.prog X.w H s.heap a (.dT kvs) from I.hok a _ ea)
  exact PySem.W.kia_one PySem.W.kitx_dict I.kIn ⟨o,h1,h2.1⟩ e (fun z=>nomatch z) h
 | @ins a C dx fs ea cl ha hn htk hm =>
  cases (show u=Value.ref a from rx)
  obtain⟨mA,O,_⟩:=rF I.hok ea
  obtain⟨od,J,_⟩:=O.look
  exact PySem.W.kia_one (PySem.W.kitx_own (cl.get _) cl.hd ha hn htk hm) I.kIn J e (fun z=>nomatch z) h
end
structure aK (k:Nat) (A:Around):Prop where
 hd:A.handled=none
 dp:A.depth + 3 * k + 5 < recursionLimit
 un:A.units + 16 * k + 200 < cLine
 gd:A.guards=some []
theorem aK.mono {j k:Nat}{A:Around} (r:aK k A) (h:j<=k):aK j A:=⟨r.hd,by have:=r.dp;omega,by have:=r.un;omega,r.gd⟩
theorem aK.deeper {k:Nat}{A:Around} (r:aK (k + 1) A) (env:Env):aK k (A.deeper env) :=
 ⟨r.hd,by have:=r.dp;show A.depth + 1 + 3 * k + 5 < _;omega,by have:=r.un;show A.units + 3 + 16 * k + 200 < _;omega,r.gd⟩
theorem pA {A:Around}{C:Addr}{us:List Value}{kw:List (Str×Value)}:(A.under (.builtin "type.__call__" ⟨.ref C::us,kw⟩)).depth=A.depth + 1:=by
 first | rfl | simp [Around.under,Code.weight,Code.isCreation,Code.isGuard,Code.isCaller,Code.frames,Code.isFrame,guardIds]
theorem px {A:Around}{C:Addr}{us:List Value}{kw:List (Str×Value)}:(A.under (.builtin "type.__call__" ⟨.ref C::us,kw⟩)).units=A.units + 1:=by
 first | rfl | simp [Around.under,Code.cUnits,Code.frames,Code.isFrame]
theorem aK.make {k:Nat}{A:Around} (r:aK (k + 1) A) (C:Addr) (us:List Value) (kw:List (Str×Value)):aK k (A.under (.builtin "type.__call__" ⟨.ref C::us,kw⟩)) :=
 ⟨r.hd,by have:=r.dp;rw [pA];omega,by have:=r.un;rw [px];omega,by first | exact r.gd | simpa [Around.under,Code.isGuard,guardIds] using r.gd⟩
theorem aK.depth {k:Nat}{A:Around} (r:aK k A):A.depth < recursionLimit:=by have:=r.dp;omega
theorem aK.units {k:Nat}{A:Around} (r:aK k A):A.units + 64 < cLine:=by have:=r.un;omega
noncomputable def bG:TA:=fun _ H Q=>Q [] H
noncomputable def bK (ta:TE) (tr:TA):TA:=fun σ H Q=>ta σ H fun x H1=>tr σ H1 fun xs H2=>Q (x::xs) H2
section
variable {X:Cx}{e:Expr}{es:List Expr}{te:TE}{t:TA}{pos:Pos}
theorem ag:PA X [] bG:=fun _ _ _ _ H Q I h=>Calls.spliced_nil ⟨[],H,I,.nil,h⟩
theorem ae (ha:PE X e te) (hr:PA X es t) (hs:starEach (e::es) X.env=(false,eval e X.env)::starEach es X.env:=by rfl):PA X (e::es) (bK te t):=by
 intro pos pins s σ H Q I h
 rw [hs]
 show wpAny _ _ (spliced ((false,eval e X.env)::backTo pos (starEach es X.env))) _ _ s
 refine Calls.spliced_cons (thn (ha pins s σ H _ I h) fun u s1 ⟨x,H1,I1,r1,q1⟩=>?_)
 exact thn (hr pos pins s1 σ H1 _ I1 q1) fun us s2 ⟨xs,H2,I2,r2,q2⟩=>⟨x::xs,H2,I2,.cons r1 r2,q2⟩
noncomputable def nh (t:TA):TE:=fun σ H Q=>t σ H fun xs H1=>xs.length<=sizeLine/\∀p,H1 p=none->Q (.ref p) (upd H1 p (.tup xs))
noncomputable def gk (t:TA):TE:=fun σ H Q=>t σ H fun xs H1=>xs.length<=sizeLine/\∀p,H1 p=none->Q (.ref p) (upd H1 p (.lst xs))
theorem aH {x1} (h:PA X es t):PE X (.Tuple es x1 pos) (nh t):=by
 intro pins s σ H Q I hq
 refine wpAny_Tuple_spliced (thn (h pos pins s σ H _ I hq) fun us s1 ⟨xs,H1,I1,r,z,q⟩=>⟨by rw [<- r.length];exact z,?_⟩)
 have hf:H1 s1.heap.objs.size=none:=I1.hok.fresh (Nat.le_refl _)
 refine⟨.ref s1.heap.objs.size,upd H1 s1.heap.objs.size (.tup xs),I1.laid (t':=s1.toks) (fun b u e=>Heap.get?_push_of_some _ e) (Nat.le_refl _) ?_,rfl,q _ hf⟩
 exact⟨z,us,r,⟨_,Heap.get?_push_size _ rfl,rfl,_,rfl⟩⟩
theorem aN (h:PA X es t):PE X (.List es pos) (gk t):=by
 intro pins s σ H Q I hq
 refine wpAny_List_spliced (thn (h pos pins s σ H _ I hq) fun us s1 ⟨xs,H1,I1,r,z,q⟩=>⟨by rw [<- r.length];exact z,?_⟩)
 have hf:H1 s1.heap.objs.size=none:=I1.hok.fresh (Nat.le_refl _)
 refine⟨.ref s1.heap.objs.size,upd H1 s1.heap.objs.size (.lst xs),I1.laid (t':=s1.toks) (fun b u e=>Heap.get?_push_of_some _ e) (Nat.le_refl _) ?_,rfl,q _ hf⟩
 exact⟨z,us,0,r,Heap.get?_push_size _ rfl⟩
end
noncomputable abbrev Sp:=List V->Hp->VK->XK->Prop
noncomputable abbrev CXT:=List Env->Hp->Shared->XK->Value->Shared->Prop
structure dN (P:Program) (w:World) (K:PySem.W.Frag) (mg:Str->Option Value) (base:Heap) (A:Around) (outer:List Env) (s:Shared) (H:Hp):Prop where
 frames:A.frames=some outer
 mod:Mod K mg base
 bs:∀b o,base.get? b=some o->s.heap.get? b=some o/\H b=none
 bsz:base.objs.size<=s.heap.objs.size
 funs:s.heap.FunFrames base outer
 frf:∀b∈frs outer,H b=none
 hok:HOk P w H s.heap
 bare:AllBare s.gens
noncomputable def CE (outer:List Env) (P:Program) (w:World) (H:Hp) (s:Shared) (Q:VK) (u:Value) (s':Shared):Prop :=
 ∃v H',s'.os=s.os/\AllBare s'.gens/\Un (frs outer) [] H H' s.heap s'.heap/\HOk P w H' s'.heap/\RelV v u/\Q v H'
noncomputable def CR (CX:CXT) (outer:List Env) (P:Program) (w:World) (H:Hp) (s:Shared) (Q:VK) (E:XK) (r:Result) (s':Shared):Prop :=
 match r with
 | .ok (.ret u)=>CE outer P w H s Q u s'
 | .ok _=>False
 | .error e=>CX outer H s E e s'
structure ax (P:Program) (w:World) (K:PySem.W.Frag) (mg:Str->Option Value) (base:Heap) (CX:CXT) (k:Nat) (f:Addr) (fd:FuncData) (ps:List Str) (sp:Sp):Prop where
 len:∀vs H Q E,sp vs H Q E->vs.length=ps.length
 run:∀(A:Around) (outer:List Env) (s:Shared) (H:Hp) (args:Args) (us:List Value) (vs:List V) (Q:VK) (E:XK),aK k A->dN P w K mg base A outer s H->BindsTo s fd args (ps.zip us)->ar vs us->sp vs H Q E ->
  codeAny (model P w) A (.call (.ref f) args) (CR CX outer P w H s Q E) s
theorem ax.imp {P:Program}{w:World}{K:PySem.W.Frag}{mg:Str->Option Value}{base:Heap}{CX:CXT}{k:Nat}{f:Addr}{fd:FuncData}{ps:List Str}{sp sp':Sp} (F:ax P w K mg base CX k f fd ps sp)
  (h:∀vs H Q E,sp' vs H Q E->sp vs H Q E):ax P w K mg base CX k f fd ps sp' :=
 ⟨fun vs H Q E q=>F.len vs H Q E (h _ _ _ _ q),fun A outer s H args us vs Q E hr he hb hv hs=>F.run A outer s H args us vs Q E hr he hb hv (h _ _ _ _ hs)⟩
theorem dN.make {P:Program}{w:World}{K:PySem.W.Frag}{mg:Str->Option Value}{base:Heap}{A:Around}{outer:List Env}{s:Shared}{H:Hp} (e:dN P w K mg base A outer s H) (C:Addr) (us:List Value) (kw:List (Str×Value)) :
  dN P w K mg base (A.under (.builtin "type.__call__" ⟨.ref C::us,kw⟩)) outer s H:=⟨by first | exact e.frames | (simpa [Around.under,Code.envs,Code.isFrame,pushEnvs] using e.frames),e.mod,e.bs,e.bsz,e.funs,e.frf,e.hok,e.bare⟩
section
variable {X:Cx}{pins:List (Addr×Obj)}{σ:St}{H:Hp}{s s':Shared}
theorem Inv.env0 (I:Inv X pins σ H s):dN X.prog X.w X.K X.mg X.base X.A X.stack s H :=
 ⟨I.ok.frames,I.ok.mod,I.bs,Nat.le_trans I.ok.bsz I.sz,I.stack,I.stkFree,I.hok,I.bare⟩
theorem Inv.after {Q:VK}{u:Value} (I:Inv X pins σ H s) (h:CE X.stack X.prog X.w H s Q u s'):EP X pins σ Q u s':=by
 obtain⟨v,H',os,bare,un,hok,r,q⟩:=h
 obtain⟨hh,g,d,t,os'⟩:=s'
 obtain rfl:os'=s.os:=os
 exact⟨v,H',I.call (h':=hh) (g':=g) (d':=d) (t':=t) (ch:=[]) un hok bare (fun b z=>absurd z (by simp)),r,q⟩
end
noncomputable def dM (sp:Sp) (dvs:List V) (E:XK) (t:TA):TE:=fun σ H Q=>t σ H fun vs H1=>sp (vs++dvs) H1 Q E
noncomputable def Binds (K:PySem.W.Frag) (fd:FuncData) (ps:List Str) (ds:List Value):Prop :=
 ∀(s:Shared) (us:List Value),K.In s.heap->(us++ds).length=ps.length->BindsTo s fd ⟨us,[]⟩ (ps.zip (us++ds))
theorem Binds.all {K:PySem.W.Frag}{fd:FuncData}{ps:List Str} (h:∀us:List Value,us.length=ps.length->bindArgs fd ⟨us,[]⟩=pure (ps.zip us)):Binds K fd ps []:=fun s us _ hl=>by
 rw [List.append_nil] at hl ⊢
 exact .of_eq (h us hl)
noncomputable def eU (CX:CXT) (X:Cx) (E:XK):Prop:=∀(pins:List (Addr×Obj)) (σ:St) (H:Hp) (s:Shared) (e:Value) (s':Shared),Inv X pins σ H s->CX X.stack H s E e s'->X.xe e s'
section
variable {X:Cx}{CX:CXT}{k:Nat}{f C:Addr}{fd:FuncData}{ps:List Str}{sp:Sp}{dvs:List V}{ds:List Value}{E:XK}{x m:Str}{p pos apos:Pos}{e o:Expr}{es:List Expr}{ta:TE}{t:TA}
theorem tu {pins:List (Addr×Obj)}{σ:St}{H:Hp}{s:Shared}{Q:VK}{us:List Value}{vs:List V} (F:ax X.prog X.w X.K X.mg X.base CX k f fd ps sp) (hr:aK k X.A) (hb:Binds X.K fd ps ds) (hd:ar dvs ds) (hx:eU CX X E)
  (I:Inv X pins σ H s) (r:ar vs us) (h:sp (vs++dvs) H Q E):wpAny (model X.prog X.w) X.A (call (.ref f) us) (EP X pins σ Q) X.xe s:=by
 have r2:ar (vs++dvs) (us++ds):=r.append hd
 have hl:(us++ds).length=ps.length:=by rw [<- r2.length];exact F.len _ _ _ _ h
 refine wpAny_call (codeAny_mono (F.run X.A X.stack s H ⟨us,[]⟩ (us++ds) (vs++dvs) Q E hr I.env0 (hb s us I.kIn hl) r2 h) fun r s' hq=>?_)
 cases r with
 | error e=>exact hx pins σ H s e s' I hq
 | ok fl =>
  cases fl with
  | ret u=>exact I.after hq
  | next=>exact False.elim hq
  | brk=>exact False.elim hq
  | cont=>exact False.elim hq
theorem lP (F:ax X.prog X.w X.K X.mg X.base CX k f fd ps sp) (hr:aK k X.A) (hg:Gl X x) (hm:X.mg x=some (.ref f)) (hk:PySem.W.keepIn X.K (.ref f)=true) (hb:Binds X.K fd ps ds) (hd:ar dvs ds) (hx:eU CX X E)
  (ha:PA X (e::es) t) (hdb:(x == ("__debug__":Str))=false:=by decide) (he:starEach (e::es) X.env=(false,eval e X.env)::starEach es X.env:=by rfl) (hpl:(backTo pos (starEach es X.env)).any (·.1)=false:=by rfl) :
  PE X (.Call (.Name x p) (e::es) [] pos) (dM sp dvs E t):=by
 intro pins s σ H Q I h
 refine wpAny_Call_Name_kw (eR I hg hm ?_ hdb)
 refine PySem.W.callWith_K (h₀:=X.base) I.ok.mod.kin hk (thn (ha pos pins s σ H _ I h) fun us s1 ⟨vs,H1,I1,r,q⟩=>⟨I1.kIn,?_⟩) he hpl
 exact tu F hr hb hd hx I1 r q
structure Mk (K:PySem.W.Frag) (C f:Addr):Prop where
 makes:PySem.W.makesIn K C=true
 init:PySem.W.findIn K (.ref C) "__init__"=some (some (.ref f))
 fn:PySem.W.isFn K (.ref f)=true
 kp:PySem.W.keepIn K (.ref C)=true
end
section
variable {X:Cx}{CX:CXT}{k:Nat}{f C:Addr}{fd:FuncData}{ps ks:List Str}{sp:Sp}{E:XK}{x m:Str}{p pos apos kpos:Pos}{e o:Expr}{es:List Expr}{kws:List Keyword}{te ta:TE}{t tk:TA}{nm:Option Str}
structure uS (K:PySem.W.Frag) (fd:FuncData) (ps ks:List Str) (g:List Value->List Value->List Value) (gV:List V->List V->List V):Prop where
 to:∀(s:Shared) (us ws:List Value),K.In s.heap->(g us ws).length=ps.length->BindsTo s fd ⟨us,ks.zip ws⟩ (ps.zip (g us ws))
 rel:∀{vs:List V}{us:List Value}{zs:List V}{ws:List Value},ar vs us->ar zs ws->ar (gV vs zs) (g us ws)
variable {g:List Value->List Value->List Value}{gV:List V->List V->List V}
end
structure aP (N P:List Str) (sc:Scope):Prop where
 kind:sc.kind=.function
 co:sc.isCoroutine=false
 gen:sc.isGenerator=false
 nd:N.Nodup
 pre:N.take P.length=P
 par:∀x∈P,sc.names.lookup x=some .local\/sc.names.lookup x=some .cell
 nofree:∀y∈sc.names,y.2≠.free
theorem j6 {kindOf:Str->Option NameKind}{x:Str}:∀{binds:List (Str×Value)}{m:Str->Option Value},(∀v,(x,v)∉binds)->bindL kindOf binds m x=m x
 | [],_,_=>rfl
 | (n,v)::r,m,h=>by
  unfold bindL
  rw [j6 fun w hw=>h w (List.mem_cons_of_mem _ hw)]
  split
  ·have:x≠n:=by rintro rfl;exact h v List.mem_cons_self
   simp [this]
  ·rfl
theorem jS {kindOf:Str->Option NameKind}{x:Str}:∀{binds:List (Str×Value)}{m:Str->Option Value},(∀v,(x,v)∉binds)->bindC kindOf binds m x=m x
 | [],_,_=>rfl
 | (n,v)::r,m,h=>by
  unfold bindC
  rw [jS fun w hw=>h w (List.mem_cons_of_mem _ hw)]
  split
  ·rfl
  ·have:x≠n:=by rintro rfl;exact h v List.mem_cons_self
   simp [this]
theorem ip {kindOf:Str->Option NameKind}{x:Str}{v:Value}:∀{P:List Str}{vs:List Value}{i:Nat}{m:Str->Option Value},P.Nodup->P[i]?=some x->vs[i]?=some v->kindOf x=some .local ->
  bindL kindOf (P.zip vs) m x=some v
 | [],_,_,_,_,h,_,_=>by simp at h
 | _::_,[],_,_,_,_,h,_=>by simp at h
 | p::P,w::vs,0,m,nd,h1,h2,hk=>by
  simp at h1 h2;subst h1;subst h2
  show bindL kindOf ((p,w)::P.zip vs) m p=_
  unfold bindL
  rw [j6 fun v hv=>(List.nodup_cons.mp nd).1 (List.of_mem_zip hv).1,if_pos hk]
  simp
 | p::P,w::vs,i + 1,m,nd,h1,h2,hk=>by
  show bindL kindOf ((p,w)::P.zip vs) m x=_
  unfold bindL
  exact ip (i:=i) (List.nodup_cons.mp nd).2 (by simpa using h1) (by simpa using h2) hk
theorem iu {kindOf:Str->Option NameKind}{x:Str}{v:Value}:∀{P:List Str}{vs:List Value}{i:Nat}{m:Str->Option Value},P.Nodup->P[i]?=some x->vs[i]?=some v->kindOf x≠some .local ->
  bindC kindOf (P.zip vs) m x=some v
 | [],_,_,_,_,h,_,_=>by simp at h
 | _::_,[],_,_,_,_,h,_=>by simp at h
 | p::P,w::vs,0,m,nd,h1,h2,hk=>by
  simp at h1 h2;subst h1;subst h2
  show bindC kindOf ((p,w)::P.zip vs) m p=_
  unfold bindC
  rw [jS fun v hv=>(List.nodup_cons.mp nd).1 (List.of_mem_zip hv).1,if_neg hk]
  simp
 | p::P,w::vs,i + 1,m,nd,h1,h2,hk=>by
  show bindC kindOf ((p,w)::P.zip vs) m x=_
  unfold bindC
  exact iu (i:=i) (List.nodup_cons.mp nd).2 (by simpa using h1) (by simpa using h2) hk
noncomputable def start (N:List Str) (vs:List V):St:=vs.map some++List.replicate (N.length - vs.length) none
noncomputable def aJ (CX:CXT) (P:Program) (w:World) (K:PySem.W.Frag) (mg:Str->Option Value) (base:Heap) (N:List Str) (qual:Str) (scope:Scope) (f:Addr) (cd:Value) (A:Around) (outer:List Env) (s:Shared) (H:Hp) (E:XK):Cx where
 prog:=P
 w:=w
 K:=K
 mg:=mg
 base:=base
 A:=A.deeper (envOfC qual scope s.heap.objs.size f cd)
 N:=N
 s₀:=s
 H₀:=H
 env:=envOfC qual scope s.heap.objs.size f cd
 outer:=outer
 stack:=envOfC qual scope s.heap.objs.size f cd::outer
 ex:=[]
 calm:=true
 fn:=fun _=>true
 pn:=[]
 xe:=fun e s'=>wpAny (model P w) (A.deeper (envOfC qual scope s.heap.objs.size f cd)) (leaving (envOfC qual scope s.heap.objs.size f cd) e) (fun _ s''=>CX outer H s E e s'') (fun e' s''=>CX outer H s E e' s'') s'
theorem gy {sc:Scope}{n:Nat}{x:Str} (h:sc.names.lookup x=some .cell):∃c,(cellsFrom n sc.names []).lookup x=some c:=by
 have q:=PySem.W.cellsFrom_some sc.names n [] (.inl h)
 exact Option.isSome_iff_exists.mp q
theorem pH {CX:CXT}{P:Program}{w:World}{K:PySem.W.Frag}{mg:Str->Option Value}{base:Heap}{N ps:List Str}{qual:Str}{scope:Scope}{f:Addr}{cd:Value}{A:Around}{outer:List Env}{s s1:Shared}{H:Hp}{E:XK}{us:List Value}{vs:List V}
  (S:aP N ps scope) (hd:A.handled=none) (e0:dN P w K mg base A outer s H) (hl:vs.length=ps.length) (r:ar vs us)
  (x:InCallC s s.heap.objs.size (bindL (envOfC qual scope s.heap.objs.size f cd).kindOf (ps.zip us) fun _=>none) (cellsFrom (s.heap.objs.size + 1) scope.names []) (bindC (envOfC qual scope s.heap.objs.size f cd).kindOf (ps.zip us) fun _=>none) s1) :
  Inv (aJ CX P w K mg base N qual scope f cd A outer s H E) [] (start N vs) H s1:=by
 have hpl:ps.length<=N.length:=by have:=congrArg List.length S.pre;rw [List.length_take] at this;omega
 obtain⟨h1,tk,rfl,hk⟩:=x.done
 have noA:∀b:Addr,b∉(aJ CX P w K mg base N qual scope f cd A outer s H E).ex:=fun b z=>absurd (show b∈([]:List Addr) from z) (by simp)
 refine⟨⟨e0.mod,S.kind,rfl,rfl,Nat.le_refl _,fun y z c h1 h2=>?_,fun y hy=>?_,fun y c _ h=>?_,fun _=>hd,Around.frames_deeper e0.frames,.inr ⟨rfl,rfl⟩,fun b z=>absurd z (noA b),e0.bs,e0.bsz,fun b _ _=>noA b,fun b z=>absurd z (noA b),e0.funs,e0.frf⟩,
  rfl,e0.bare,Un.kept hk,⟨_,x.toInCall.ns,fun i y v h1 h2 h3=>?_⟩,fun y c h=>⟨_,x.cell y c h⟩,e0.hok.fresh (Nat.le_refl _),fun y c h=>?_,fun p hp=>absurd (show p∈([]:List (Addr×Obj)) from hp) (by simp),e0.hok.kept hk,?_⟩
 ·exact name_of_addr x.apart (PySem.mem_of_lookup h1) (PySem.mem_of_lookup h2)
 ·have hy:scope.names.lookup y=some .cell\/scope.names.lookup y=some .free:=hy
  rcases hy with hy | hy
  ·exact gy hy
  ·exact absurd rfl (S.nofree _ (PySem.mem_of_lookup hy))
 ·exact Nat.le_of_lt (x.above y c (PySem.mem_of_lookup h))
 ·have hi:i < vs.length:=by
   unfold start at h2
   by_cases hi:i < vs.length
   ·exact hi
   ·rw [List.getElem?_append_right (by simpa using hi)] at h2
    rw [List.getElem?_replicate] at h2
    split at h2 <;> cases h2
  have ha:vs[i]?=some v:=by
   unfold start at h2
   rw [List.getElem?_append_left (by simpa using hi),List.getElem?_map] at h2
   cases e:vs[i]? with
   | none=>rw [e] at h2;cases h2
   | some a=>rw [e] at h2;cases h2;rfl
  obtain⟨u,hu,rv⟩:=r.get ha
  have hp:ps[i]?=some y:=by
   rw [<- S.pre,List.getElem?_take_of_lt (by omega)];exact h1
  have ndP:ps.Nodup:=by rw [<- S.pre];exact S.nd.sublist (List.take_sublist _ _)
  refine⟨u,rv,?_⟩
  rcases S.par y (List.mem_of_getElem? hp) with k | k
  ·exact .inl ⟨k,ip ndP hp hu k⟩
  ·obtain⟨c,e⟩:=gy (n:=s.heap.objs.size + 1) k
   refine .inr ⟨.inl k,c,e,?_⟩
   have q:=x.cell y c e
   rw [iu ndP hp hu (by show scope.names.lookup y≠_;rw [k];decide)] at q
   exact q
 ·exact e0.hok.fresh (Nat.le_of_lt (x.above y c (PySem.mem_of_lookup h)))
 ·unfold start
  show _=N.length
  rw [List.length_append,List.length_map,List.length_replicate]
  omega
theorem mQ {CX:CXT}{P:Program}{w:World}{K:PySem.W.Frag}{mg:Str->Option Value}{base:Heap}{k:Nat}{f:Addr}{name qual:Str}{params:Arguments}{body:List Stmt}{scope:Scope}{dV kV doc pm cdv ct oc:Value}{an od:Option Addr}
  {osl:Array (Option Value)}{N ps:List Str}{sp:Sp} (lk:K.lookup f=some ⟨oc,od,.func (PySem.W.fnOf name qual params body scope dV kV doc pm an cdv ct),osl⟩) (hcd:PySem.W.codeIn K cdv qual=true) (S:aP N ps scope)
  (len:∀vs H Q E,sp vs H Q E->vs.length=ps.length)
  (hbody:∀(A:Around) (outer:List Env) (s:Shared) (H:Hp) (vs:List V) (Q:VK) (E:XK),aK k (A.deeper (envOfC qual scope s.heap.objs.size f cdv))->sp vs H Q E ->
   ∃t,PSs (aJ CX P w K mg base N qual scope f cdv A outer s H E) body t/\t { nx:=fun _ H'=>Q .non H',rt:=Q } (start N vs) H) :
  ax P w K mg base CX (k + 1) f (PySem.W.fnOf name qual params body scope dV kV doc pm an cdv ct) ps sp:=by
 refine⟨len,fun A outer s H args us vs Q E hr e0 hb r hsp=>?_⟩
 have hl:=len _ _ _ _ hsp
 have KX:K.In s.heap:=e0.mod.kin.keeps fun b o e=>(e0.bs b o e).1
 have lim:s.heap.NoLimit:=e0.mod.nolimit.keeps fun b o e=>(e0.bs b o e).1
 have hkind:∀y∈ps.zip us,scope.names.lookup y.1=some .local\/(scope.names.lookup y.1=some .cell/\((cellsFrom (s.heap.objs.size + 1) scope.names []).lookup y.1).isSome=true):=fun ⟨n,v⟩ hy=>by
  rcases S.par n (List.of_mem_zip hy).1 with q | q
  ·exact .inl q
  ·exact .inr ⟨q,PySem.W.cellsFrom_some _ _ _ (.inl q)⟩
 refine codeAny_call_function hr.depth (KX _ _ lk) rfl S.co S.gen rfl (PySem.W.codeRec_of KX hcd) (hb _ _ _ _ ?_)
 refine wpAny_newFunctionEnv_cells S.kind hkind fun env he s1 x=>?_
 subst he
 refine⟨lim.keeps x.toInCall.keep,codeAny_func ?_⟩
 obtain⟨t,ht,hq⟩:=hbody A outer s H vs Q E (hr.deeper _) hsp
 have I:Inv (aJ CX P w K mg base N qual scope f cdv A outer s H E) [] (start N vs) H s1:=pH S hr.hd e0 hl r x
 refine wpAny_mono (ht [] s1 (start N vs) H _ I hq) (fun fl s' hs=>?_) fun e s' hs=>hs
 have fin:∀{σ':St}{H':Hp}{v:V}{u:Value},Inv (aJ CX P w K mg base N qual scope f cdv A outer s H E) [] σ' H' s'->RelV v u->Q v H'->CE outer P w H s Q u s' :=
  fun {σ' H' v u} J rv q=>⟨v,H',J.os,J.bare,J.base,J.hok,rv,q⟩
 cases fl with
 | ret u =>
  obtain⟨v,σ',H',J,rv,q⟩:=hs
  exact fin J rv q
 | next =>
  obtain⟨σ',H',J,q⟩:=hs
  exact fin (v:=V.non) (u:=Value.none) J rfl q
 | brk =>
  obtain⟨_,_,_,q⟩:=hs
  exact False.elim q
 | cont =>
  obtain⟨_,_,_,q⟩:=hs
  exact False.elim q
section
variable {X:Cx}{x:Str}{p pos:Pos}{e:Expr}{es:List Expr}{t:TA}{id T:String}{r:List V->Hp->VK->Prop}
noncomputable def tCB (r:List V->Hp->VK->Prop) (t:TA):TE:=fun σ H Q=>t σ H fun vs H1=>r vs H1 Q
theorem aB (hc:cf X (.builtin id) r) (hg:Gl X x) (hm:X.mg x=none) (hv:bootBuiltins x=some (.builtin id)) (ha:PA X (e::es) t) (hn:x≠"__name__":=by decide) (hdb:(x == ("__debug__":Str))=false:=by decide)
  (he:starEach (e::es) X.env=(false,eval e X.env)::starEach es X.env:=by rfl) (hpl:(backTo pos (starEach es X.env)).any (·.1)=false:=by rfl):PE X (.Call (.Name x p) (e::es) [] pos) (tCB r t):=by
 intro pins s σ H Q I h
 refine wpAny_Call_Name_kw (eT I hg hm hv ?_ hn hdb)
 exact PyProof.Rows.callWith_builtin1 (thn (ha pos pins s σ H _ I h) fun us s1 ⟨vs,H1,I1,r1,q1⟩=>hc pins s1 σ H1 vs us Q I1 r1 q1) he hpl
theorem eC (hc:cf X (.type T) r) (hg:Gl X x) (hm:X.mg x=none) (hv:bootBuiltins x=some (.type T)) (ha:PA X (e::es) t) (hn:x≠"__name__":=by decide) (hdb:(x == ("__debug__":Str))=false:=by decide)
  (he:starEach (e::es) X.env=(false,eval e X.env)::starEach es X.env:=by rfl) (hpl:(backTo pos (starEach es X.env)).any (·.1)=false:=by rfl):PE X (.Call (.Name x p) (e::es) [] pos) (tCB r t):=by
 intro pins s σ H Q I h
 refine wpAny_Call_Name_kw (eT I hg hm hv ?_ hn hdb)
 exact PyProof.Rows.callWith_type1 (thn (ha pos pins s σ H _ I h) fun us s1 ⟨vs,H1,I1,r1,q1⟩=>hc pins s1 σ H1 vs us Q I1 r1 q1) he hpl
end
end L2
namespace HT
open PySem PyProof.Rows
section
open PySem.SeqAt
open PySem.AutoSeq1 (wpAny_loadPart')
open PySem.MeetsSeq PySem.MeetsSeq2 PySem.MeetsSeq3
end
section
variable {prog:Program}{w:World}{A:Around}{E:Value->Shared->Prop}{s:Shared}
theorem uM {t b:Addr}{vs ws:List Value}{Q:Value->Shared->Prop} (ht:IsTup s.heap t vs.toArray) (hb:IsTup s.heap b ws.toArray) (hv:vs≠[])
  (h1:ws=[]->Q (.ref t) s) (h2:ws≠[]->Q (.ref s.heap.objs.size) { s with heap:=s.heap.push { cls:=.type "tuple",data:=.seq (vs++ws).toArray } })
  (hsz:vs.length + ws.length<=sizeLine):wpAny (model prog w) A (binaryOp .Add (.ref t) (.ref b)) Q E s:=by
 obtain⟨⟨cls,dd,data,sl⟩,ho,hc,n,hd⟩:=id ht
 obtain⟨⟨cls2,dd2,data2,sl2⟩,ho2,hc2,n2,hd2⟩:=id hb
 simp only at hc hd hc2 hd2
 subst hc hd hc2 hd2
 have e:vs.toArray++ws.toArray=(vs++ws).toArray:=by simp
 by_cases hw:ws=[]
 ·exact concat_meets ⟨_,ho,rfl⟩ ⟨_,ho2,rfl⟩ noFill_tuple_add seq_tuple_add PySem.F.slot_tuple_add PySem.F.entry_tuple_add (PySem.F.args_tuple_add_2 _ _)
   (tuple_addW1 t b vs.toArray ws.toArray n n2 dd dd2 sl sl2 (by simpa using hv) (by simp [hw])) ⟨ho,ho2,h1 hw⟩
 ·refine concat_meets ⟨_,ho,rfl⟩ ⟨_,ho2,rfl⟩ noFill_tuple_add seq_tuple_add PySem.F.slot_tuple_add PySem.F.entry_tuple_add (PySem.F.args_tuple_add_2 _ _)
   (tuple_addW2 t b vs.toArray ws.toArray n n2 dd dd2 sl sl2 (by simpa using hv) (by simpa using hw) (by rw [List.size_toArray,List.size_toArray];exact hsz)) ⟨ho,ho2,?_⟩
  rw [e]
  exact h2 hw
noncomputable def sIx (n d:Nat):Option Int->Nat
 | none=>d
 | some v=>if v < 0 then (v + (n:Int)).toNat else min v.toNat n
theorem sP (n d:Nat) (hd:d<=n) (o:Option Int):sIx n d o<=n:=by
 cases o with
 | none=>exact hd
 | some v =>
  show (if v < 0 then (v + (n:Int)).toNat else min v.toNat n)<=n
  by_cases hv:v < 0
  ·rw [if_pos hv];omega
  ·rw [if_neg hv];exact Nat.min_le_right _ _
theorem lg (v:Int) (n d:Nat):(if v < 0 then max (v + (n:Int)) 0 else min v (n:Int))=((sIx n d (some v):Nat):Int):=by
 show (if v < 0 then max (v + (n:Int)) 0 else min v (n:Int))=(((if v < 0 then (v + (n:Int)).toNat else min v.toNat n):Nat):Int)
 by_cases hv:v < 0
 ·simp only [if_pos hv];omega
 ·simp only [if_neg hv];omega
theorem pC (lo hi:Option Int) (n:Nat):Builtin.Slice.sliceAdjust lo hi 1 (n:Int)=(((sIx n 0 lo:Nat):Int),((sIx n n hi:Nat):Int)):=by
 have h1:¬ ((1:Int) < 0):=by omega
 unfold Builtin.Slice.sliceAdjust
 simp only [h1,if_false]
 refine Prod.ext ?_ ?_
 ·cases lo with
  | none=>rfl
  | some v=>exact lg v n 0
 ·cases hi with
  | none=>rfl
  | some v=>exact lg v n n
theorem oN (i j:Nat):Builtin.Slice.slicePlaces (i:Int) (j:Int) 1=j - i:=by
 unfold Builtin.Slice.slicePlaces
 have h1:(1:Int) > 0:=by omega
 simp only [h1,if_true,Int.ediv_one]
 split <;> omega
theorem jN {v:Value}{o:Option Int}{Q:Option Int->Shared->Prop} (p:IsPart v o) (h:Q o s):wpAny (model prog w) A (Builtin.Slice.slicePartIndex v) Q E s:=by
 cases p with
 | none=>exact slicePart_none h
 | int i t=>exact slicePart_int h
theorem nQ {sl:Addr}{vl vu:Value}{lo hi:Option Int}{n:Nat}{Q:Int×Int×Nat->Shared->Prop} (hs:s.heap.IsSliceOf sl vl vu .none) (pl:IsPart vl lo) (pu:IsPart vu hi)
  (h:Q (((sIx n 0 lo:Nat):Int),1,sIx n n hi - sIx n 0 lo) s):wpAny (model prog w) A (Builtin.Slice.sliceApplied (.ref sl) (pure (n:Int))) Q E s:=by
 obtain⟨os,hos,hcs,hds⟩:=id hs
 unfold Builtin.Slice.sliceApplied Builtin.Slice.sliceFields
 refine wpAny_bind (wpAny_bind (wpAny_field hos hds (x:=vl) rfl (wpAny_bind (wpAny_field hos hds (x:=vu) rfl (wpAny_bind (wpAny_field hos hds (x:=.none) rfl (wpAny_pure ?_)))))))
 refine wpAny_bind (slicePart_none ?_)
 show wpAny _ _ (if ((1:Int) == 0)=true then _ else _) _ _ s
 rw [if_neg (by decide)]
 refine wpAny_bind (jN pl (wpAny_bind (jN pu (wpAny_bind (wpAny_pure ?_)))))
 show wpAny _ _ (match Builtin.Slice.sliceAdjust lo hi 1 (n:Int) with | (lo,hi)=>pure (lo,(1:Int),Builtin.Slice.slicePlaces lo hi 1)) _ _ s
 rw [pC lo hi n]
 show wpAny _ _ (pure (((sIx n 0 lo:Nat):Int),(1:Int),Builtin.Slice.slicePlaces ((sIx n 0 lo:Nat):Int) ((sIx n n hi:Nat):Int) 1)) _ _ s
 rw [oN]
 exact wpAny_pure h
theorem qM (xs:Array Value) (i k:Nat):((List.range k).filterMap fun (m:Nat)=>xs[((i:Int) + (m:Int) * 1).toNat]?).toArray=((xs.toList.drop i).take k).toArray:=by
 have e:(fun (m:Nat)=>xs[((i:Int) + (m:Int) * 1).toNat]?)=fun m=>xs[i + m]?:=by
  funext m
  have:((i:Int) + (m:Int) * 1).toNat=i + m:=by omega
  rw [this]
 rw [e]
 have:=pick_run xs i k
 rw [List.filterMap_map] at this
 have e2:((fun x=>xs[x]?) ∘ fun x=>i + x)=fun m=>xs[i + m]?:=rfl
 rw [e2] at this
 rw [this]
theorem uK {t sl:Addr}{items:Array Value}{vl vu:Value}{lo hi:Option Int}{Q:Value->Shared->Prop} (ht:IsTup s.heap t items) (hs:s.heap.IsSliceOf sl vl vu .none) (pl:IsPart vl lo) (pu:IsPart vu hi)
  (hw:¬ (sIx items.size 0 lo=0/\sIx items.size items.size hi=items.size))
  (h:Q (.ref s.heap.objs.size) { s with heap:=s.heap.push { cls:=.type "tuple",data:=.seq ((items.toList.drop (sIx items.size 0 lo)).take (sIx items.size items.size hi - sIx items.size 0 lo)).toArray } })
  (hsz:items.size<=sizeLine):wpAny (model prog w) A (getItem (.ref t) (.ref sl)) Q E s:=by
 have htake:sizeOk (.seq ((items.toList.drop (sIx items.size 0 lo)).take (sIx items.size items.size hi - sIx items.size 0 lo)).toArray):=by
  show ((items.toList.drop (sIx items.size 0 lo)).take (sIx items.size items.size hi - sIx items.size 0 lo)).toArray.size<=sizeLine
  rw [List.size_toArray,List.length_take,List.length_drop,Array.length_toList]
  omega
 have hj:sIx items.size items.size hi<=items.size:=sP _ _ (Nat.le_refl _) hi
 obtain⟨os,hos,hcs,hds⟩:=id hs
 have hTs:s.TypeIs (.ref sl) "slice":=⟨os,hos,hcs⟩
 unfold getItem
 try with_reducible refine wpAny_holding ?_
 first | refine wpAny_bind (wpAny_pure ?_) | skip
 refine wpAny_bind (wpAny_sequenceKey ht.typeIs (by decide) ?_)
 refine wpAny_bind (wpAny_callSpecial?_slot (name:=Str.ofString "__getitem__") ht.typeIs PyProof.Rows.slot_tuple_getitem
  (wpAny_call_entry PyProof.Rows.slot_tuple_getitem ht.typeIs entry_tuple_getitem ?_ (args_tuple_getitem _ _)))
 show wpAny _ _ (Builtin.Tuple.tupleItemsOf (.ref t) >>= _) _ _ s
 refine wpAny_bind (tupleItemsOf_ ht ?_)
 refine wpAny_bind (wpAny_typeOf hTs ?_)
 rw [if_pos (by decide)]
 refine wpAny_bind (nQ hs pl pu ?_)
 have hno:¬ ((((sIx items.size 0 lo:Nat):Int) == 0 && (1:Int) == 1 && (sIx items.size items.size hi - sIx items.size 0 lo) == items.size)=true):=by
  intro q
  rw [Bool.and_eq_true,Bool.and_eq_true] at q
  have q1:((sIx items.size 0 lo:Nat):Int)=0:=eq_of_beq q.1.1
  have q2:sIx items.size items.size hi - sIx items.size 0 lo=items.size:=eq_of_beq q.2
  exact hw ⟨by omega,by omega⟩
 show wpAny _ _ (if (((sIx items.size 0 lo:Nat):Int) == 0 && (1:Int) == 1 && (sIx items.size items.size hi - sIx items.size 0 lo) == items.size)=true then _ else _) _ _ s
 rw [if_neg hno,qM]
 first
  | exact wpAny_bind (m:=Builtin.Tuple.tupleExact _) (wpAny_newObj_type (wpAny_pure ⟨_,rfl,wpAny_pure h⟩) htake)
  | exact wpAny_bind (m:=Builtin.Tuple.tupleExact _) (wpAny_newObj_type (wpAny_bind (wpAny_pure (wpAny_pure ⟨_,rfl,wpAny_pure h⟩))) htake)
  | exact wpAny_bind (wpAny_bind (m:=Builtin.Tuple.tupleExact _) (wpAny_newObj_type (wpAny_pure (wpAny_pure ⟨_,rfl,wpAny_pure h⟩)) htake))
  | exact wpAny_bind (wpAny_bind (m:=Builtin.Tuple.tupleExact _) (wpAny_newObj_type (wpAny_pure ⟨_,rfl,wpAny_pure h⟩) htake))
end
end HT
namespace L2
open PySem PySem.Spec PyProof.Rows
noncomputable abbrev TO:=St->Hp->(Option Int->Hp->Prop)->Prop
noncomputable def PO (X:Cx) (e:Option Expr) (t:TO):Prop :=
 ∀(pins:List (Addr×Obj)) (s:Shared) (σ:St) (H:Hp) (Q:Option Int->Hp->Prop),Inv X pins σ H s->t σ H Q ->
  wpAny (model X.prog X.w) X.A (evalPart e X.env) (fun u s'=>∃o H',Inv X pins σ H' s'/\IsPart u o/\Q o H') X.xe s
noncomputable def dX:TO:=fun _ H Q=>Q none H
noncomputable def dJ (t:TE):TO:=fun σ H Q=>t σ H fun x H1=>∃i,x=.int i/\Q (some i) H1
section
variable {X:Cx}{e:Expr}{te:TE}{lo hi:Option Expr}{tl th:TO}{pos p2:Pos}
theorem eF:PO X none dX:=by
 intro pins s σ H Q I h
 rw [evalPart_none]
 exact wpAny_pure ⟨none,H,I,.none,h⟩
theorem dm (h:PE X e te):PO X (some e) (dJ te):=by
 intro pins s σ H Q I hw
 rw [evalPart_some]
 refine thn (h pins s σ H _ I hw) fun u s1 ⟨x,H1,I1,r1,q1⟩=>?_
 obtain⟨i,rfl,q⟩:=q1
 obtain⟨t,rfl⟩:=r1
 exact⟨some i,H1,I1,.int i t,q⟩
noncomputable def SlR (X:Cx) (r:V->Option Int->Option Int->Hp->VK->Prop):Prop :=
 ∀(pins:List (Addr×Obj)) (s:Shared) (σ:St) (H:Hp) (x:V) (v vl vu:Value) (lo hi:Option Int) (sl:Addr) (Q:VK),Inv X pins σ H s->RelV x v->s.heap.IsSliceOf sl vl vu .none->IsPart vl lo->IsPart vu hi->r x lo hi H Q ->
  ∃T id,typeLookup (.type T) "__getitem__"=pure (some (.builtin id))/\s.TypeIs v T/\wpAny (model X.prog X.w) X.A (getItem v (.ref sl)) (EP X pins σ Q) X.xe s
noncomputable def tSl (r:V->Option Int->Option Int->Hp->VK->Prop) (te:TE) (tl th:TO):TE:=fun σ H Q=>te σ H fun x H1=>tl σ H1 fun l H2=>th σ H2 fun u H3=>r x l u H3 Q
theorem eD {r:V->Option Int->Option Int->Hp->VK->Prop} (hr:SlR X r) (he:PE X e te) (hl:PO X lo tl) (hu:PO X hi th):PE X (.Subscript e (.Slice lo hi none p2) pos) (tSl r te tl th):=by
 intro pins s σ H Q I h
 refine Subscript_ (thn (he pins s σ H _ I h) fun v s1 ⟨x,H1,I1,r1,q1⟩=>?_)
 refine wpAny_Slice (thn (hl pins s1 σ H1 _ I1 q1) fun vl s2 ⟨l,H2,I2,pl,q2⟩=>thn (hu pins s2 σ H2 _ I2 q2) fun vu s3 ⟨u,H3,I3,pu,q3⟩=>?_)
 rw [evalPart_none]
 refine wpAny_pure ?_
 have I4:Inv X pins σ H3 { s3 with heap:=s3.heap.push { cls:=.type "slice",data:=.fields #[vl,vu,.none] } }:=I3.kept (t':=s3.toks) fun b ob q=>Heap.get?_push_of_some _ q
 obtain⟨T,id,hT,ht,hg⟩:=hr pins { s3 with heap:=s3.heap.push { cls:=.type "slice",data:=.fields #[vl,vu,.none] } } σ H3 x v vl vu l u s3.heap.objs.size Q I4 r1 (Heap.IsSliceOf.new ..) pl pu q3
 show wpAny (model X.prog X.w) X.A (subscriptTail e (.Slice lo hi none p2) v (.ref s3.heap.objs.size)) (EP X pins σ Q) X.xe { s3 with heap:=s3.heap.push { cls:=.type "slice",data:=.fields #[vl,vu,.none] } }
 exact tail_any (ops:=[.ref s3.heap.objs.size,v]) ht hT hg (by with_unfolding_all rfl)
noncomputable def dQ (xs:List V) (lo hi:Option Int):List V:=(xs.drop (HT.sIx xs.length 0 lo)).take (HT.sIx xs.length xs.length hi - HT.sIx xs.length 0 lo)
theorem oF (xs:List V) (lo hi:Option Int):(dQ xs lo hi).length<=xs.length:=by
 unfold dQ
 rw [List.length_take,List.length_drop]
 omega
noncomputable def uw (K:PySem.W.Frag):V->Option Int->Option Int->Hp->VK->Prop:=fun x lo hi H Q=>∃a xs,x=.ref a/\SqT K H a xs /\
 ¬ (HT.sIx xs.length 0 lo=0/\HT.sIx xs.length xs.length hi=xs.length)/\∀p,H p=none->Q (.ref p) (upd H p (.tup (dQ xs lo hi)))
theorem tJ:SlR X (uw X.K):=by
 intro pins s σ H x v vl vu lo hi sl Q I rx hs pl pu h
 obtain⟨a,xs,rfl,hx,hw,q⟩:=h
 cases rx
 obtain⟨its,r,ht,hz⟩:=I.tuple hx
 have hlen:its.toArray.size=xs.length:=by rw [List.size_toArray];exact r.length.symm
 refine⟨"tuple",_,PyProof.Rows.slot_tuple_getitem.lookup,ht.typeIs,?_⟩
 refine HT.uK ht hs pl pu (by rw [hlen];exact hw) ?_ (by rw [hlen];exact hz)
 rw [hlen]
 refine⟨.ref s.heap.objs.size,_,I.laid (t':=s.toks) (o:=.tup (dQ xs lo hi)) (fun b ob q=>Heap.get?_push_of_some _ q) (Nat.le_refl _) ?_,rfl,q _ (I.hok.fresh (Nat.le_refl _))⟩
 exact⟨Nat.le_trans (oF xs lo hi) hz,_,(r.drop (HT.sIx xs.length 0 lo)).take (HT.sIx xs.length xs.length hi - HT.sIx xs.length 0 lo),IsTup.new _ _⟩
noncomputable def ud (K:PySem.W.Frag):R2:=fun x y H Q=>∃a b xs ys,x=.ref a/\y=.ref b/\SqT K H a xs/\SqT K H b ys/\xs≠[]/\xs.length + ys.length<=sizeLine /\
 (ys=[]->Q (.ref a) H)/\(ys≠[]->∀p,H p=none->Q (.ref p) (upd H p (.tup (xs++ys))))
theorem ar.nil_iff {xs:List V}{us:List Value} (r:ar xs us):us=[] ↔ xs=[]:=by
 cases r with
 | nil=>simp
 | cons _ _=>simp
theorem rT:OpR X (binaryOp .Add) (ud X.K):=by
 intro pins s σ H x y v u Q I rx ry h
 obtain⟨a,b,xs,ys,rfl,rfl,ha,hb,hx,hz,q1,q2⟩:=h
 cases rx
 cases ry
 obtain⟨its,r1,p1,_⟩:=I.tuple ha
 obtain⟨its2,r2,p2,_⟩:=I.tuple hb
 refine HT.uM p1 p2 (fun z=>hx (r1.nil_iff.mp z)) (fun z=>⟨.ref a,H,I,rfl,q1 (r2.nil_iff.mp z)⟩) (fun z=>?_) (by rw [<- r1.length,<- r2.length];exact hz)
 refine⟨.ref s.heap.objs.size,_,I.laid (t':=s.toks) (o:=.tup (xs++ys)) (fun b ob q=>Heap.get?_push_of_some _ q) (Nat.le_refl _) ?_,rfl,q2 (fun w=>z (r2.nil_iff.mpr w)) _ (I.hok.fresh (Nat.le_refl _))⟩
 exact⟨by rw [List.length_append];exact hz,_,r1.append r2,IsTup.new _ _⟩
end
noncomputable def ixN (n:Nat) (i:Int):Option Nat:=if 0<=i then (if i < n then some i.toNat else none) else if -(n:Int)<=i then some (i + n).toNat else none
noncomputable def atI {α:Type} (xs:List α) (i:Int):Option α:=(ixN xs.length i).bind fun j=>xs[j]?
theorem la {n:Nat}{i:Int}{j:Nat} (h:ixN n i=some j):seqIndex? i n=some j/\j < n/\-(n:Int)<=i/\i < n:=by
 unfold ixN at h
 by_cases h0:0<=i
 ·rw [if_pos h0] at h
  by_cases h1:i < n
  ·rw [if_pos h1] at h
   have e:i.toNat=j:=Option.some.inj h
   exact⟨by rw [seqIndex_of h0 h1,e],by omega,by omega,h1⟩
  ·rw [if_neg h1] at h;cases h
 ·rw [if_neg h0] at h
  by_cases h1:-(n:Int)<=i
  ·rw [if_pos h1] at h
   have e:(i + n).toNat=j:=Option.some.inj h
   exact⟨by rw [seqIndex_neg (by omega) h1,e],by omega,h1,by omega⟩
  ·rw [if_neg h1] at h;cases h
theorem iN {α:Type}{xs:List α}{i:Int}{v:α} (h:atI xs i=some v):∃j,seqIndex? i xs.length=some j/\xs[j]?=some v/\j < xs.length/\-(xs.length:Int)<=i/\i < xs.length:=by
 unfold atI at h
 cases e:ixN xs.length i with
 | none=>rw [e] at h;cases h
 | some j =>
  rw [e] at h
  obtain⟨h1,h2,h3,h4⟩:=la e
  exact⟨j,h1,h,h2,h3,h4⟩
theorem rG {α:Type}{xs:List α}{j:Nat}{v:α} (h:xs[j]?=some v):atI xs (j:Int)=some v:=by
 have hj:j < xs.length:=(List.getElem?_eq_some_iff.mp h).1
 have e:ixN xs.length (j:Int)=some j:=by
  unfold ixN
  rw [if_pos (by omega),if_pos (by omega)];simp
 unfold atI;rw [e];exact h
noncomputable def sk (b:Expr):Prop:=∀o i,subscripted b false o i=operate [o,i] (getItem o i)
noncomputable def IxR (X:Cx) (r:R2):Prop :=
 ∀(value slice:Expr) (pins:List (Addr×Obj)) (s:Shared) (σ:St) (H:Hp) (x y:V) (v u:Value) (Q:VK),Inv X pins σ H s->RelV x v->RelV y u->r x y H Q ->
  subscripted slice false v u=operate [v,u] (getItem v u)->wpAny (model X.prog X.w) X.A (subscriptTail value slice v u) (EP X pins σ Q) X.xe s
noncomputable def MtR (X:Cx) (id:String) (r:V->List V->Hp->VK->Prop):Prop :=
 ∀(pins:List (Addr×Obj)) (s:Shared) (σ:St) (H:Hp) (x:V) (xs:List V) (v:Value) (us:List Value) (Q:VK),Inv X pins σ H s->RelV x v->ar xs us->r x xs H Q ->
  wpAny (model X.prog X.w) X.A (call (.builtin id) (v::us)) (EP X pins σ Q) X.xe s
section
variable {X:Cx}{a b:Expr}{ta tb:TE}{pos:Pos}
theorem IxR.or {r r':R2} (h:IxR X r) (h':IxR X r'):IxR X (fun x y H Q=>r x y H Q\/r' x y H Q):=by
 intro value slice pins s σ H x y v u Q I rx ry q hs
 rcases q with q | q
 ·exact h value slice pins s σ H x y v u Q I rx ry q hs
 ·exact h' value slice pins s σ H x y v u Q I rx ry q hs
theorem ay {r:R2} (hr:IxR X r) (ha:PE X a ta) (hb:PE X b tb) (hs:sk b):PE X (.Subscript a b pos) (tOp r ta tb):=by
 intro pins s σ H Q I h
 exact Subscript_ (jy ha hb I h fun v u s2 x y H2 I2 rx ry q=>hr a b pins s2 σ H2 x y v u Q I2 rx ry q (hs _ _))
noncomputable def nD (K:PySem.W.Frag):R2:=fun x y H Q=>∃p xs i v,x=.ref p/\y=.int i/\SqL K H p xs/\atI xs i=some v/\Q v H
noncomputable def nN (K:PySem.W.Frag):R2:=fun x y H Q=>∃p xs i v,x=.ref p/\y=.int i/\SqT K H p xs/\atI xs i=some v/\Q v H
noncomputable def nC:R2:=fun x y H Q=>∃z i c,x=.str z/\y=.int i/\z.length<=sizeLine/\atI z.cps.toList i=some c/\Q (.str ⟨#[c]⟩) H
theorem rp:IxR X (nD X.K):=by
 intro value slice pins s σ H x y v u Q I rx ry h hs
 obtain⟨p,xs,i,z,rfl,rfl,hq,he,q⟩:=h
 cases rx
 obtain⟨t,rfl⟩:=ry
 obtain⟨its,r,pl,hz⟩:=I.list hq
 obtain⟨j,h1,h2,h3,h4,h5⟩:=iN he
 obtain⟨w,ew,rw'⟩:=r.get h2
 have hl:=r.length
 have hn:=fk
 have fin:EP X pins σ Q w s:=⟨z,H,I,rw',q⟩
 by_cases h0:0<=i
 ·have hj:i.toNat=j:=by
   rw [seqIndex_of h0 h5] at h1
   exact Option.some.inj h1
  exact item_listR pl.isList h0 (by omega) (by rw [hj];simpa using ew) fin hs
 ·have hj:(i + (its.toArray.size:Int)).toNat=j:=by
   rw [seqIndex_neg (by omega) h4] at h1
   rw [List.size_toArray,<- hl]
   exact Option.some.inj h1
  exact subscriptTail_builtinR (x:=w) pl.isList.typeIs slot_list_getitem.lookup
   (wpAny_getItem_list_neg (Q:=fun r s'=>r=w/\EP X pins σ Q r s') pl.isList (by omega) (by rw [List.size_toArray] <;> omega) (by omega) (by rw [hj];simpa using ew) ⟨rfl,fin⟩) hs
theorem tK:IxR X (nN X.K):=by
 intro value slice pins s σ H x y v u Q I rx ry h hs
 obtain⟨p,xs,i,z,rfl,rfl,hq,he,q⟩:=h
 cases rx
 obtain⟨t,rfl⟩:=ry
 obtain⟨its,r,pl,hz⟩:=I.tuple hq
 obtain⟨j,h1,h2,h3,h4,h5⟩:=iN he
 obtain⟨w,ew,rw'⟩:=r.get h2
 have hl:=r.length
 have hn:=fk
 have fin:EP X pins σ Q w s:=⟨z,H,I,rw',q⟩
 exact subscriptTail_builtinR (x:=w) pl.typeIs slot_tuple_getitem.lookup
  (getItem_tuple (j:=j) (Q:=fun r s'=>r=w/\EP X pins σ Q r s') pl (by omega) (by omega) (by rw [List.size_toArray,<- hl];exact h1) (by simpa using ew) ⟨rfl,fin⟩) hs
theorem tm:IxR X nC:=by
 intro value slice pins s σ H x y v u Q I rx ry h hs
 obtain⟨z,i,c,rfl,rfl,hz,he,q⟩:=h
 obtain⟨t,rfl⟩:=rx
 obtain⟨t',rfl⟩:=ry
 obtain⟨j,h1,h2,h3,h4,h5⟩:=iN he
 have hl:z.cps.toList.length=z.length:=by simp [Str.length]
 rw [hl] at h1 h4 h5
 have hn:=fk
 exact tail_any (typeIs_str s z t) slot_str_getitem.lookup (getItem_str (c:=c) (by
  have e1:decide (i < -(2 ^ 63:Int))=false:=decide_eq_false (by omega)
  have e2:decide (i ≥ 2 ^ 63)=false:=decide_eq_false (by omega)
  rw [e1,e2,Bool.or_false]) (by rw [h1];simpa using h2) ⟨.str ⟨#[c]⟩,H,I.tok _,⟨_,rfl⟩,q⟩) hs
noncomputable def rIx (K:PySem.W.Frag):R2:=fun x y H Q=>nD K x y H Q\/nN K x y H Q\/nC x y H Q
theorem aF:IxR X (rIx X.K):=rp.or (tK.or tm)
theorem pj (its:List Value) (n j:Nat) (u:Value):Obj.mapSeq (·.setIfInBounds j u) { cls:=.type "list",data:=.seq its.toArray n }={ cls:=.type "list",data:=.seq (its.set j u).toArray n }:=by
 simp [Obj.mapSeq]
theorem Inv.lst {pins:List (Addr×Obj)}{σ:St}{H:Hp}{s:Shared}{p:Addr}{xs:List V} (I:Inv X pins σ H s) (h:H p=some (.lst xs)) :
  ∃(its:List Value) (n:Nat),ar xs its/\s.heap.get? p=some { cls:=.type "list",data:=.seq its.toArray n }/\xs.length<=sizeLine:=by
 obtain⟨z,its,n,r,e⟩:=I.hok p _ h
 exact⟨its,n,r,e,z⟩
theorem Inv.lstUpd {pins:List (Addr×Obj)}{σ:St}{H:Hp}{s:Shared}{p:Addr}{xs ys:List V}{its its':List Value}{n n':Nat}{f:Obj->Obj} (I:Inv X pins σ H s) (h:H p=some (.lst xs))
  (ho:s.heap.get? p=some { cls:=.type "list",data:=.seq its.toArray n }) (hf:f { cls:=.type "list",data:=.seq its.toArray n }={ cls:=.type "list",data:=.seq its'.toArray n' }) (r:ar ys its') (hz:ys.length<=sizeLine) (t:Nat) :
  Inv X pins σ (upd H p (.lst ys)) { s with heap:=s.heap.update p f,toks:=t }:=by
 have e:(s.heap.update p f).get? p=some { cls:=.type "list",data:=.seq its'.toArray n' }:=by
  rw [Heap.get?_update_self f ho (by rw [hf] <;> rfl),hf]
 refine I.write (x:=p) (e:=p) (by rw [h];trivial) (.inl rfl) (fun b u hb q=>(Heap.get?_update_other _ _ (Ne.symm hb)).trans q) ⟨_,e⟩ ?_
 exact⟨hz,its',n',r,e⟩
noncomputable def tS:V->V->V->Hp->(Hp->Prop)->Prop:=fun o i v H Q=>∃p xs k j,o=.ref p/\i=.int k/\H p=some (.lst xs)/\ixN xs.length k=some j/\Q (upd H p (.lst (xs.set j v)))
theorem set_list:ng X tS:=by
 intro pins s σ H o i v ov iv u Q I ro ri rv h
 obtain⟨p,xs,k,j,rfl,rfl,hp,hj,q⟩:=h
 cases ro
 obtain⟨t,rfl⟩:=ri
 obtain⟨its,n,r,ho,hz⟩:=I.lst hp
 obtain⟨h1,h2,h3,h4⟩:=la hj
 have hl:=r.length
 have hn:=fk
 have I':Inv X pins σ (upd H p (.lst (xs.set j v))) { s with heap:=s.heap.update p (Obj.mapSeq (·.setIfInBounds j u)) } :=
  I.lstUpd hp ho (pj its n j u) (r.set rv j) (by rw [List.length_set];exact hz) s.toks
 by_cases h0:0<=k
 ·have hk:k.toNat=j:=by
   rw [seqIndex_of h0 h4] at h1
   exact Option.some.inj h1
  exact PySem.W.ki_setAt ho h0 (by omega) (by rw [List.size_toArray,<- hl];exact h4) (by rw [hk];exact⟨_,I',q⟩)
 ·have hk:(k + (its.toArray.size:Int)).toNat=j:=by
   rw [seqIndex_neg (by omega) h3] at h1
   rw [List.size_toArray,<- hl]
   exact Option.some.inj h1
  exact PySem.W.ki_setBack ho (by omega) (by rw [List.size_toArray,<- hl];exact h3) (by omega) (by rw [hk];exact⟨_,I',q⟩)
noncomputable def ed:V->Bool
 | .non=>true
 | .bl _=>true
 | .int _=>true
 | .str _=>true
 | _=>false
noncomputable def eqV:V->V->Bool
 | .non,.non=>true
 | .bl a,.bl b=>a == b
 | .bl a,.int b=>(if a then 1 else 0) == b
 | .int a,.bl b=>a == (if b then 1 else 0)
 | .int a,.int b=>a == b
 | .str a,.str b=>a == b
 | _,_=>false
theorem tP {A:Around}{s:Shared}{y x:V}{u v:Value} (ry:RelV y u) (rx:RelV x v) (fy:ed y=true) (fx:ed x=true):SeqAt.EqAt A s u v (eqV y x):=by
 cases y with
 | non =>
  cases ry
  cases x with
  | non=>cases rx;exact SeqAt.EqAt.same _
  | bl b=>cases rx;exact SeqAt.EqAt.none_bool b
  | int b=>obtain⟨t,rfl⟩:=rx;exact SeqAt.EqAt.none_int b t
  | str b=>obtain⟨t,rfl⟩:=rx;exact SeqAt.EqAt.none_str b t
  | _=>exact absurd (show false=true from fx) Bool.false_ne_true
 | bl a =>
  cases ry
  cases x with
  | non=>cases rx;exact SeqAt.EqAt.bool_none a
  | bl b=>cases rx;exact SeqAt.EqAt.bool_bool a b
  | int b=>obtain⟨t,rfl⟩:=rx;exact SeqAt.EqAt.bool_int a b t
  | str b=>obtain⟨t,rfl⟩:=rx;exact SeqAt.EqAt.bool_str a b t
  | _=>exact absurd (show false=true from fx) Bool.false_ne_true
 | int a =>
  obtain⟨t',rfl⟩:=ry
  cases x with
  | non=>cases rx;exact SeqAt.EqAt.int_none a t'
  | bl b=>cases rx;exact SeqAt.EqAt.int_bool a t' b
  | int b=>obtain⟨t,rfl⟩:=rx;exact SeqAt.EqAt.int_int a t' b t
  | str b=>obtain⟨t,rfl⟩:=rx;exact SeqAt.EqAt.int_str a t' b t
  | _=>exact absurd (show false=true from fx) Bool.false_ne_true
 | str a =>
  obtain⟨t',rfl⟩:=ry
  cases x with
  | non=>cases rx;exact SeqAt.EqAt.str_none a t'
  | bl b=>cases rx;exact SeqAt.EqAt.str_bool a t' b
  | int b=>obtain⟨t,rfl⟩:=rx;exact SeqAt.EqAt.str_int a t' b t
  | str b=>obtain⟨t,rfl⟩:=rx;exact SeqAt.EqAt.str_str a t' b t
  | _=>exact absurd (show false=true from fx) Bool.false_ne_true
 | _=>exact absurd (show false=true from fy) Bool.false_ne_true
noncomputable def eqU (x:V) (u:Value):Bool:=match u with
 | .none=>eqV .non x
 | .bool b=>eqV (.bl b) x
 | .int i _=>eqV (.int i) x
 | .str z _=>eqV (.str z) x
 | _=>false
theorem ml {x y:V}{u:Value} (r:RelV y u) (f:ed y=true):eqU x u=eqV y x:=by
 cases y with
 | non=>cases r;rfl
 | bl b=>cases r;rfl
 | int i=>obtain⟨t,rfl⟩:=r;rfl
 | str z=>obtain⟨t,rfl⟩:=r;rfl
 | _=>exact absurd (show false=true from f) Bool.false_ne_true
theorem fS {x:V}:∀{xs:List V}{us:List Value},ar xs us->xs.all ed=true->us.any (eqU x)=xs.any fun y=>eqV y x
 | _,_,.nil,_=>rfl
 | y::xs,u::us,.cons r t,f=>by
  rw [List.all_cons,Bool.and_eq_true] at f
  rw [List.any_cons,List.any_cons,ml r f.1,fS t f.2]
theorem fO {A:Around}{s:Shared}{x:V}{v:Value} (rx:RelV x v) (fx:ed x=true):∀{xs:List V}{us:List Value},ar xs us->xs.all ed=true->∀u∈us,SeqAt.EqAt A s u v (eqU x u)
 | _,_,.nil,_=>fun u hu=>by cases hu
 | y::xs,u::us,.cons r t,f=>fun u' hu=>by
  rw [List.all_cons,Bool.and_eq_true] at f
  rcases List.mem_cons.mp hu with rfl | hu
  ·rw [ml r f.1];exact tP r rx f.1 fx
  ·exact fO rx fx t f.2 u' hu
noncomputable def inV (x:V) (xs:List V):Bool:=xs.any fun y=>eqV y x
noncomputable def rIn (K:PySem.W.Frag) (neg:Bool):R2:=fun x y H Q=>∃p xs,y=.ref p/\(SqL K H p xs\/SqT K H p xs)/\ed x=true/\xs.all ed=true/\Q (.bl (if neg then !inV x xs else inV x xs)) H
theorem gx:OpR X (compareOp .In) (rIn X.K false):=by
 intro pins s σ H x y v u Q I rx ry h
 obtain⟨p,xs,rfl,hq,fx,fs,q⟩:=h
 cases ry
 rcases hq with hq | hq
 ·obtain⟨its,r,pl,hz⟩:=I.list hq
  refine SeqAt.in_listAt (eqU x) pl.isList (fun w hw=>fO rx fx r fs w (by simpa using hw)) ⟨.bl _,H,I,rfl,?_⟩
  rw [show its.toArray.any (eqU x)=its.any (eqU x) by simp,fS r fs]
  exact q
 ·obtain⟨its,r,pl,hz⟩:=I.tuple hq
  refine SeqAt.in_tupleAt (eqU x) pl (fun w hw=>fO rx fx r fs w (by simpa using hw)) ⟨.bl _,H,I,rfl,?_⟩
  rw [show its.toArray.any (eqU x)=its.any (eqU x) by simp,fS r fs]
  exact q
theorem fH:OpR X (compareOp .NotIn) (rIn X.K true):=by
 intro pins s σ H x y v u Q I rx ry h
 obtain⟨p,xs,rfl,hq,fx,fs,q⟩:=h
 cases ry
 rcases hq with hq | hq
 ·obtain⟨its,r,pl,hz⟩:=I.list hq
  refine SeqAt.notIn_listAt (eqU x) pl.isList (fun w hw=>fO rx fx r fs w (by simpa using hw)) ⟨.bl _,H,I,rfl,?_⟩
  rw [show its.toArray.any (eqU x)=its.any (eqU x) by simp,fS r fs]
  exact q
 ·obtain⟨its,r,pl,hz⟩:=I.tuple hq
  refine SeqAt.notIn_tupleAt (eqU x) pl (fun w hw=>fO rx fx r fs w (by simpa using hw)) ⟨.bl _,H,I,rfl,?_⟩
  rw [show its.toArray.any (eqU x)=its.any (eqU x) by simp,fS r fs]
  exact q
theorem bD:cf X (.builtin "len") (fun xs H Q=>∃p ys,xs=[.ref p]/\(SqL X.K H p ys\/SqT X.K H p ys)/\Q (.int ys.length) H):=by
 intro pins s σ H xs us Q I r h
 obtain⟨p,ys,rfl,hq,q⟩:=h
 obtain⟨u,rfl,rx⟩:=vals1 r
 cases rx
 have hn:=fk
 rcases hq with hq | hq
 ·obtain⟨its,r',pl,hz⟩:=I.list hq
  have hlen:=r'.length
  exact Calls.call_len_list pl.isList (by simp only [List.size_toArray] <;> omega) ⟨.int ys.length,H,I.tok _,⟨s.toks + 1,by rw [List.size_toArray,hlen]⟩,q⟩
 ·obtain⟨its,r',pl,hz⟩:=I.tuple hq
  have hlen:=r'.length
  exact len_tuple pl (by simp only [List.size_toArray] <;> omega) ⟨.int ys.length,H,I.tok _,⟨s.toks + 1,by rw [List.size_toArray,hlen]⟩,q⟩
theorem jF:cf X (.builtin "len") (fun xs H Q=>∃z,xs=[.str z]/\z.length<=sizeLine/\Q (.int z.length) H):=by
 intro pins s σ H xs us Q I r h
 obtain⟨z,rfl,hz,q⟩:=h
 obtain⟨u,rfl,t,rfl⟩:=vals1 r
 have hn:=fk
 exact len_str (by omega) ⟨.int z.length,H,I.tok _,⟨_,rfl⟩,q⟩
theorem jG:cf X (.type "list") (fun xs H Q=>∃p ys,xs=[.ref p]/\(SqL X.K H p ys\/SqT X.K H p ys)/\∀l,H l=none->Q (.ref l) (upd H l (.lst ys))):=by
 intro pins s σ H xs us Q I r h
 obtain⟨p,ys,rfl,hq,q⟩:=h
 obtain⟨u,rfl,rx⟩:=vals1 r
 cases rx
 have fin:∀(its:List Value),ar ys its->ys.length<=sizeLine->∀(h':Heap) (c':Nat),(∀b o',s.heap.get? b=some o'->h'.get? b=some o') ->
   h'.get? s.heap.objs.size=some { cls:=.type "list",dict:=none,data:=.seq its.toArray c',slots:=#[] }->EP X pins σ Q (.ref s.heap.objs.size) { s with heap:=h' }:=fun its r' hz h' c' kp e =>
  ⟨.ref s.heap.objs.size,_,I.laid (t':=s.toks) kp (Nat.le_refl _) (show aX X.prog X.w _ h' _ (.lst ys) from ⟨hz,its,c',r',e⟩),rfl,q _ (I.hok.fresh (Nat.le_refl _))⟩
 rcases hq with hq | hq
 ·obtain⟨its,r',pl,hz⟩:=I.list hq
  have hlen:=r'.length
  obtain⟨o,ho,hc,n,hd⟩:=pl.isList
  exact call_list_seq p (.inl rfl) ho hc hd (fun h' c' kp e=>fin its r' hz h' c' kp e) (by simp only [List.size_toArray] <;> omega)
 ·obtain⟨its,r',pl,hz⟩:=I.tuple hq
  have hlen:=r'.length
  obtain⟨o,ho,hc,n,hd⟩:=pl
  exact call_list_seq p (.inr rfl) ho hc hd (fun h' c' kp e=>fin its r' hz h' c' kp e) (by simp only [List.size_toArray] <;> omega)
theorem fG:cf X (.type "tuple") (fun xs H Q=>∃p ys,xs=[.ref p]/\((SqL X.K H p ys/\∀l,H l=none->Q (.ref l) (upd H l (.tup ys)))\/(SqT X.K H p ys/\Q (.ref p) H))):=by
 intro pins s σ H xs us Q I r h
 obtain⟨p,ys,rfl,h⟩:=h
 obtain⟨u,rfl,rx⟩:=vals1 r
 cases rx
 rcases h with ⟨hq,q⟩ | ⟨hq,q⟩
 ·obtain⟨its,r',pl,hz⟩:=I.list hq
  have hlen:=r'.length
  refine call_tuple_list pl.isList (fun h' kp=>?_) (by simp only [List.size_toArray] <;> omega)
  have I1:Inv X pins σ H { s with heap:=h' }:=I.kept (t':=s.toks) kp
  have I2:Inv X pins σ (upd H h'.objs.size (.tup ys)) { s with heap:=h'.push { cls:=.type "tuple",data:=.seq its.toArray } } :=
   I1.laid (t':=s.toks) (fun b o e=>Heap.get?_push_of_some _ e) (Nat.le_refl _) (show aX X.prog X.w _ _ _ (.tup ys) from ⟨hz,its,r',IsTup.new _ _⟩)
  exact⟨.ref h'.objs.size,_,I2,rfl,q _ (I1.hok.fresh (Nat.le_refl _))⟩
 ·obtain⟨its,r',pl,hz⟩:=I.tuple hq
  exact call_tuple_same pl ⟨.ref p,H,I,rfl,q⟩
noncomputable def tyV (K:PySem.W.Frag) (T:String) (x:V) (H:Hp):Prop:=match x with
 | .str _=>T="str"
 | .int _=>T="int"
 | .ref p=>(T="list"/\∃xs,SqL K H p xs)\/(T="tuple"/\∃o,K.lookup p=some o/\o.cls=.type "tuple"/\o.dict=none) \/
   (T="dict"/\((∃kvs,H p=some (.dK kvs))\/∃kvs,H p=some (.dT kvs)))\/(T="set"/\∃S n,H p=some (.set S n))
 | _=>False
theorem tG {pins:List (Addr×Obj)}{σ:St}{H:Hp}{s:Shared}{T:String}{x:V}{v:Value} (I:Inv X pins σ H s) (r:RelV x v) (ty:tyV X.K T x H) :
  s.TypeIs v T/\∀a,v=.ref a->∃ob,s.heap.get? a=some ob/\ob.dict=none:=by
 cases x with
 | str z =>
  obtain⟨t,rfl⟩:=r
  cases (show T="str" from ty)
  exact⟨typeIs_str s z t,fun _ e=>nomatch e⟩
 | int i =>
  obtain⟨t,rfl⟩:=r
  cases (show T="int" from ty)
  exact⟨typeIs_int s i t,fun _ e=>nomatch e⟩
 | ref p =>
  cases r
  rcases ty with ⟨rfl,xs,hq⟩ | ⟨rfl,o,hk,hc,hd⟩ | ⟨rfl,hk⟩ | ⟨rfl,S,n,hk⟩
  ·obtain⟨its,_,pl,_⟩:=I.list hq
   refine⟨pl.isList.typeIs,fun a e=>?_⟩
   cases e
   obtain⟨o,n,e,c,hd,_⟩:=pl
   exact⟨o,e,hd⟩
  ·refine⟨⟨o,I.kIn p o hk,hc⟩,fun a e=>?_⟩
   cases e
   exact⟨o,I.kIn _ o hk,hd⟩
  ·have z:∃o,s.heap.get? p=some o/\o.ExactDict:=by
    rcases hk with ⟨kvs,hk⟩ | ⟨kvs,hk⟩
    ·obtain⟨_,_,_,_,o,_,_,e,ex,_⟩:=I.hok p _ hk
     exact⟨o,e,ex⟩
    ·obtain⟨_,_,_,_,o,_,_,e,ex,_⟩:=I.hok p _ hk
     exact⟨o,e,ex⟩
   obtain⟨o,e,ex⟩:=z
   refine⟨⟨o,e,ex.1⟩,fun a e2=>?_⟩
   cases e2
   exact⟨o,e,ex.2.1⟩
  ·obtain⟨o,_,_,_,e,ex,_⟩:=I.hok p _ hk
   refine⟨⟨o,e,ex.1⟩,fun a e2=>?_⟩
   cases e2
   exact⟨o,e,ex.2.1⟩
 | _=>exact False.elim ty
noncomputable def tBM (K:PySem.W.Frag) (T:String) (r:V->List V->Hp->VK->Prop) (to:TE) (t:TA):TE:=fun σ H Q=>to σ H fun x H1=>tyV K T x H1/\t σ H1 fun xs H2=>r x xs H2 Q
variable {o e:Expr}{es:List Expr}{to:TE}{t:TA}{name:Str}{apos cpos:Pos}{T id:String}{r:V->List V->Hp->VK->Prop}
theorem cF (pa:PlainAttrs T) (slot:Slot T name id) (hty:typeOf (.builtin id)=pure (.type "method_descriptor")) (hm:MtR X id r) (ho:PE X o to) (ha:PA X (e::es) t)
  (hbase:attributeBase o name X.env (eval o X.env)=eval o X.env:=by rfl)
  (hfew:((backTo cpos (starEach (e::es) X.env)).all (fun x=>!x.1) && (backToKw cpos (keywordEach [] X.env)).all (fun x=>x.1.isSome)
   && decide ((e::es).length + ([]:List Keyword).length + (if ([]:List Keyword).isEmpty then 0 else 1) < 30))=true:=by rfl)
  (hline:(apos.endLine == cpos.line)=true:=by rfl) (hs:starEach (e::es) X.env=(false,eval e X.env)::starEach es X.env:=by rfl) (hplain:(backTo cpos (starEach es X.env)).any (·.1)=false:=by rfl) :
  PE X (.Call (.Attribute o name apos) (e::es) [] cpos) (tBM X.K T r to t):=by
 intro pins s σ H Q I h
 refine wpAny_Call_method_late hbase hfew hline rfl (thn (ho pins s σ H _ I h) fun v s1 ⟨x,H1,I1,r1,ty,q1⟩=>?_)
 obtain⟨h1,h2⟩:=tG I1 r1 ty
 refine⟨T,id,pa,slot,hty,h1,h2,?_⟩
 have hA:=ha cpos pins s1 σ H1 _ I1 q1
 rw [hs] at hA ⊢
 refine Calls.callWith_builtin (by show (false || (backTo cpos (starEach es X.env)).any (·.1))=false;rw [hplain] <;> rfl) (Calls.evalArgs_plain ?_)
 exact thn hA fun us s2 ⟨vs,H2,I2,r2,q2⟩=>hm pins s2 σ H2 x vs v us Q I2 r1 r2 q2
/- xs.append(e),list.index on a module's tuple .. are MtR facts of 06m -/
end
noncomputable def MtM (X:Cx) (id:String) (r:V->List V->Hp->VK->Prop):Prop :=
 ∀(pins:List (Addr×Obj)) (s:Shared) (σ:St) (H:Hp) (x:V) (xs:List V) (v:Value) (us:List Value) (Q:VK),Inv X pins σ H s->RelV x v->ar xs us->r x xs H Q ->
  wpAny (model X.prog X.w) X.A (call (.builtin id) (v::us)) (EP X pins σ Q) X.xe s
theorem ar.one:∀{x:V}{us:List Value},ar [x] us->∃u,us=[u]/\RelV x u
 | _,_,.cons r .nil=>⟨_,rfl,r⟩
theorem ar.eraseIdx:∀{xs:List V}{us:List Value} (i:Nat),ar xs us->ar (xs.eraseIdx i) (us.eraseIdx i)
 | _,_,_,.nil=>.nil
 | _,_,0,.cons _ t=>t
 | _,_,i + 1,.cons r t=>.cons r (ar.eraseIdx i t)
theorem ar.reverse {xs:List V}{us:List Value} (h:ar xs us):ar xs.reverse us.reverse:=by
 induction h with
 | nil=>exact .nil
 | cons r t ih=>rw [List.reverse_cons,List.reverse_cons];exact ar.append ih (.cons r .nil)
theorem jZ {α:Type}:∀(l:List α) (i:Nat),(l.eraseIdx i).length<=l.length
 | [],_=>Nat.le_refl _
 | _::_,0=>Nat.le_succ _
 | _::r,i + 1=>Nat.succ_le_succ (jZ r i)
section
variable {X:Cx}{pins:List (Addr×Obj)}{σ:St}{H:Hp}{s:Shared}{l b:Addr}{xs ys zs:List V}
theorem Inv.lset {its its':List Value}{n:Nat}{f:Array Value->Array Value}{t':Nat} (I:Inv X pins σ H s) (hH:H l=some (.lst xs))
  (e:s.heap.get? l=some { cls:=.type "list",data:=.seq its.toArray n }) (hf:f its.toArray=its'.toArray) (hv:ar ys its') (hz:ys.length<=sizeLine) :
  Inv X pins σ (upd H l (.lst ys)) { s with heap:=s.heap.update l (Obj.mapSeq f),toks:=t' }:=by
 have q:=PySem.IsL.update e f
 rw [hf] at q
 refine I.write (x:=l) (e:=l) (by rw [hH];exact trivial) (.inl rfl) (fun b' u hb hu=>(Heap.get?_update_other s.heap (Obj.mapSeq f) (Ne.symm hb)).trans hu) ⟨_,q⟩ ?_
 exact⟨hz,its',_,hv,q⟩
theorem Inv.lnew {its:List Value}{t':Nat} (I:Inv X pins σ H s) (hv:ar ys its) (hz:ys.length<=sizeLine) :
  Inv X pins σ (upd H s.heap.objs.size (.lst ys)) { s with heap:=s.heap.push { cls:=.type "list",data:=.seq its.toArray },toks:=t' } :=
 I.laid (fun _ _ q=>Heap.get?_push_of_some _ q) (Nat.le_refl _) ⟨hz,its,0,hv,Heap.get?_push_size _ rfl⟩
theorem Inv.fresh (I:Inv X pins σ H s):H s.heap.objs.size=none:=I.hok.fresh (Nat.le_refl _)
theorem Inv.lstM (I:Inv X pins σ H s) (hH:H l=some (.lst xs)):xs.length<=sizeLine/\∃(its:List Value) (n:Nat),ar xs its/\xs.length=its.length/\s.heap.get? l=some { cls:=.type "list",data:=.seq its.toArray n }:=by
 obtain⟨z,its,n,r,e⟩:=I.hok l _ hH
 exact⟨z,its,n,r,r.length,e⟩
theorem qO {n:Nat} (h:n<=sizeLine):Builtin.List.listTooLong n=false:=by
 unfold Builtin.List.listTooLong
 exact decide_eq_false (by omega)
end
section
variable {X:Cx}
noncomputable def sh:V->List V->Hp->VK->Prop:=fun x vs H Q=>∃l xs y,x=.ref l/\vs=[y]/\H l=some (.lst xs)/\xs.length < sizeLine/\Q .non (upd H l (.lst (xs++[y])))
theorem dj:MtM X "list.append" sh:=by
 intro pins s σ H x vs v us Q I rx rv h
 obtain⟨l,xs,y,rfl,rfl,hH,hz,q⟩:=h
 cases rx
 obtain⟨u,rfl,ru⟩:=rv.one
 obtain⟨z,its,n,r,hl,e⟩:=I.lstM hH
 refine call_meets F.slot_list_append ⟨_,e,rfl⟩ F.entry_list_append (F.args_list_append_2 _ _) (PySem.list_append l its.toArray n u (by rw [List.size_toArray];omega)) ⟨e,?_⟩
 refine⟨.non,_,I.lset (its':=its++[u]) hH e (by simp) (r.append (.cons ru .nil)) ?_,rfl,q⟩
 rw [List.length_append,List.length_singleton]
 omega
noncomputable def rM:V->List V->Hp->VK->Prop:=fun x vs H Q=>∃l b xs zs,x=.ref l/\vs=[.ref b]/\H l=some (.lst xs)/\H b=some (.lst zs)/\xs.length + zs.length<=sizeLine/\Q .non (upd H l (.lst (xs++zs)))
theorem pQ:MtM X "list.extend" rM:=by
 intro pins s σ H x vs v us Q I rx rv h
 obtain⟨l,b,xs,zs,rfl,rfl,hH,hB,hz,q⟩:=h
 cases rx
 obtain⟨u,rfl,ru⟩:=rv.one
 cases ru
 obtain⟨z,its,n,r,hl,e⟩:=I.lstM hH
 obtain⟨z2,its2,n2,r2,hl2,e2⟩:=I.lstM hB
 have hsz:its.toArray.size + its2.toArray.size<=sizeLine:=by rw [List.size_toArray,List.size_toArray];omega
 have hlong:¬ (!its.toArray.isEmpty && Builtin.List.listTooLong (its.toArray.size + its2.toArray.size))=true:=by
  rw [qO hsz,Bool.and_false]
  exact Bool.false_ne_true
 refine call_meets F.slot_list_extend ⟨_,e,rfl⟩ F.entry_list_extend (F.args_list_extend_2 _ _)
  (AutoSeq1.list_extend_list_list_0 l its.toArray n b its2.toArray n2 hlong (by rw [List.size_toArray];omega) (by omega)) ⟨e,e2,?_⟩
 refine⟨.non,_,I.lset (its':=its++its2) hH e (by simp) (r.append r2) ?_,rfl,q⟩
 rw [List.length_append]
 omega
noncomputable def sD:V->List V->Hp->VK->Prop:=fun x vs H Q=>∃l xs i k y,x=.ref l/\vs=[.int i]/\H l=some (.lst xs)/\-(2 ^ 63)<=i/\i < 2 ^ 63/\seqIndex? i xs.length=some k/\xs[k]?=some y/\Q y (upd H l (.lst (xs.eraseIdx k)))
theorem qy:MtM X "list.pop" sD:=by
 intro pins s σ H x vs v us Q I rx rv h
 obtain⟨l,xs,i,k,y,rfl,rfl,hH,h1,h2,hk,hy,q⟩:=h
 cases rx
 obtain⟨u,rfl,ru⟩:=rv.one
 obtain⟨t,rfl⟩:=ru
 obtain⟨z,its,n,r,hl,e⟩:=I.lstM hH
 obtain⟨w,hw,rw'⟩:=r.get hy
 refine call_meets F.slot_list_pop ⟨_,e,rfl⟩ F.entry_list_pop (F.args_list_pop_2 _ _)
  (MeetsSeq.list_pop_at l its.toArray n i t k w (fitsIndex_both h1 h2) (by rw [List.size_toArray,<- hl];exact hk) (by rw [<- Array.getElem?_toList];exact hw) (by rw [List.size_toArray];omega)) ⟨e,?_⟩
 refine⟨y,_,I.lset (its':=its.eraseIdx k) hH e ?_ (r.eraseIdx k) ?_,rw',q⟩
 ·show its.toArray.eraseIdxIfInBounds k=(its.eraseIdx k).toArray
  rw [List.eraseIdxIfInBounds_toArray]
 ·have:=jZ xs k
  omega
noncomputable def mY:R2:=fun x y H Q=>∃l b xs zs,x=.ref l/\y=.ref b/\H l=some (.lst xs)/\H b=some (.lst zs)/\xs.length + zs.length<=sizeLine/\∀p,H p=none->Q (.ref p) (upd H p (.lst (xs++zs)))
theorem ce:OpR X (binaryOp .Add) mY:=by
 intro pins s σ H x y v u Q I rx ry h
 obtain⟨l,b,xs,zs,rfl,rfl,hH,hB,hz,q⟩:=h
 cases rx
 cases ry
 obtain⟨z,its,n,r,hl,e⟩:=I.lstM hH
 obtain⟨z2,its2,n2,r2,hl2,e2⟩:=I.lstM hB
 refine PySem.P.add_list e e2 ?_ (by rw [List.size_toArray,List.size_toArray];omega)
 have ea:its.toArray++its2.toArray=(its++its2).toArray:=by simp
 rw [ea]
 exact⟨.ref _,_,I.lnew (t':=s.toks) (r.append r2) (by rw [List.length_append];omega),rfl,q _ I.fresh⟩
end
section
variable {prog:Program}{w:World}{A:Around}{E:Value->Shared->Prop}{s:Shared}
end
section
variable {X:Cx}
end
end L2
namespace Att
open PySem PySem.W PySem.Calls PyProof.Rows
theorem nR {P:Params}{h:Heap}:∀(ns:List Int) (vs:List Value),WellAll P h vs (ns.map WData.int)->IntsAre vs ns:=by
 intro ns
 induction ns with
 | nil =>
  intro vs w
  rw [List.map_nil] at w
  cases w
  exact .nil
 | cons n ns ih =>
  intro vs w
  rw [List.map_cons] at w
  cases w with
  | cons a b =>
   cases a
   exact .cons _ _ (ih _ b)
theorem qk {l:OpenLaw}{n:Nat} (hn:l.most=some n) {P:Params}{h:Heap}{args:List WData}{vals:List Value}
  (hpre:l.row.toRowW.claim.pre args=true) (hwl:WellAll P h vals args) :
  ∃a vs ns,vals=[Value.ref a]/\args=[WData.list (ns.map WData.int)]/\h.get? a=some { cls:=.type "list",data:=.seq vs.toArray }/\IntsAre vs ns/\ns.length<=n:=by
 have hsh:WShape.hasAll [] args [.list .int]=true:=(pre_splitW hpre).1
 have hc:l.pre.holds [] { args:=args }=true:=(pre_splitW hpre).2
 obtain⟨d,r,rfl,h1,h2⟩:=hasAllW_cons hsh
 obtain rfl:=hasAllW_nil h2
 obtain⟨xs,rfl,h3⟩:=hasW_list h1
 obtain⟨ns,rfl⟩:=items_int h3
 have hlen:ns.length<=n:=by
  unfold OpenLaw.pre at hc
  have h4:(WTm.not (.lt (.lit (.int (n:Int))) (.len (.arg 0)))).holds [] { args:=[.list (ns.map .int)] }=true:=by
   have h4:=(holds_andW hc).1
   rw [hn] at h4
   exact h4
  have h5:=condW_of h4 (w_not (w_lt w_lit (w_len_list (w_arg rfl))))
  rw [List.length_map] at h5
  refine Nat.le_of_not_lt fun q=>?_
  have q':(n:Int) < ((ns.length:Nat):Int):=by omega
  first
   | (rw [decide_eq_true q'] at h5;exact absurd h5 (by decide))
   | (simp at h5;omega)
 cases hwl with
 | cons w1 w2 =>
  cases w2
  cases w1 with
  | list ho hall=>exact⟨_,_,ns,rfl,rfl,ho,nR ns _ hall,hlen⟩
theorem qj (l:OpenLaw) (args:List WData):l.row.toRowW.claim.post args (.bool true) args=true :=
 postW_of (r:=l.row.toRowW) (X:=(true == true))
  (show WShape.has [] (.bool true) .bool=true by first | rfl | decide | simp [WShape.has,WShape.arms,WShape.armsAll])
  (show (WTm.eq .res (.lit (.bool true))).value [] { args:=args,res:=some (.bool true),after:=args }=some (.bool (true == true)) from w_eq_bool (w_res rfl) w_lit) rfl
theorem uL {l:OpenLaw}{n:Nat}{q:Program}{loose:List Str}{XP:(Str->Option Value)->Heap->Prop}{YP:World->Heap->Prop}{d:DefRec}
  (hn:l.most=some n) (hdf:d.params.defaults=[])
  (call:∀(w:World) (s₀ s₁:Shared) (mg mb:Str->Option Value) (fa:Addr) (o:Obj) (pm cd doc:Value) (a:Addr) (vs:List Value) (ns:List Int),
   Ground q loose [] XP w s₀ mg mb s₁.heap->YP w s₁.heap ->
   s₁.heap.get? fa=some o->o.data=.func (docDef d.name d.params d.body d.scope pm cd doc)->s₁.heap.CodeRec cd d.name->mg d.name=some (.ref fa) ->
   s₁.heap.get? a=some { cls:=.type "list",data:=.seq vs.toArray }->IntsAre vs ns->ns.length<=n->s₁.gens=#[] ->
   codeAny (model l.prog w) callerA (.call (.ref fa) ⟨[.ref a],[]⟩) (fun r s'=>r=.ok (.ret (.bool true))/\OldK s₁.heap s'.heap/\s'.os=s₁.os/\AllBare s'.gens) s₁) :
  WalkO q loose XP YP l.row.toRowW d [] (fun f vs=>PySem.call f vs):=by
 intro w s₀ s₁ mg mb G Y fa o pm cd doc dV kV ho hd hcd hD hmg hg args vals as hpre hlay hrd hwl hlo
 obtain rfl:dV=.none:=Dflts.none hD hdf
 obtain rfl:kV=.none:=Dflts.noKw hD
 obtain⟨a,vs,ns,rfl,rfl,hobj,hints,hlen⟩:=qk hn hpre hwl
 refine enter_call (codeAny_mono (call w s₀ s₁ mg mb fa o pm cd doc a vs ns G Y ho (fd_plain hd) hcd hmg hobj hints hlen hg) fun r s' hq=>?_)
 obtain⟨rfl,h2,h3,h4⟩:=hq
 exact⟨.inl ⟨.bool true,.bool true,[],rfl,fun _=>rfl,.bool true,qj l _,fun _=>⟨List.Pairwise.nil,fun _ hm=>(nomatch hm)⟩⟩,h2,h3,h4⟩
section
variable {prog:Program}{w:World}{A:Around}{E:Value->Shared->Prop}{s:Shared}{K:Frag}
end
end Att
namespace L2
open PySem PySem.Spec PyProof.Rows
theorem jT:∀{vs:List Value}{ns:List Int},IntsAre vs ns->ar (ns.map V.int) vs
 | _,_,.nil=>.nil
 | _,_,.cons n t h=>.cons ⟨t,rfl⟩ (jT h)
noncomputable def ju (H:Hp):Prop:=∀b,H b=none\/∃o xs,H b=some (.frz o (.lst xs))
theorem qH {P:Program}{w:World}{K:PySem.W.Frag}{mg mb:Str->Option Value}{CX:CXT}{k:Nat}{fa a:Addr}{fd:FuncData}{x:Str}{sp:Sp}{s₁:Shared}{vs:List Value}{ns:List Int}
  (KX:K.In s₁.heap) (hns:s₁.heap.Ns mainGlobals mg) (hb:s₁.heap.Ns builtinsNs mb) (hbb:∀x:Str,x≠"__name__"->mb x=bootBuiltins x) (hlim:s₁.heap.NoLimit) (hg:s₁.gens=#[])
  (ha:s₁.heap.get? a=some { cls:=.type "list",data:=.seq vs.toArray }) (hi:IntsAre vs ns) (hl:ns.length<=sizeLine) (hr:aK k callerA)
  (F:∀base:Heap,K.In base->base.Ns mainGlobals mg->ax P w K mg base CX k fa fd [x] sp) (hbind:∀(s:Shared) (u:Value),BindsTo s fd ⟨[u],[]⟩ [(x,u)])
  (hsp:∀H:Hp,ju H->SqL K H a (ns.map V.int)->sp [.ref a] H (fun v _=>v=.bl true) fun _ _ _=>False)
  (hCX:∀H e s',CX [] H s₁ (fun _ _ _=>False) e s'->False) :
  codeAny (model P w) callerA (.call (.ref fa) ⟨[.ref a],[]⟩) (fun r s'=>r=.ok (.ret (.bool true))/\OldK s₁.heap s'.heap/\s'.os=s₁.os/\AllBare s'.gens) s₁:=by
 have rv:=jT hi
 have lenV:=hi.length
 have core:∀H:Hp,ju H->SqL K H a (ns.map V.int)->HOk P w H s₁.heap->(∀b,H b≠none->b=a)->(H a≠none->K.lookup a=none) ->
   codeAny (model P w) callerA (.call (.ref fa) ⟨[.ref a],[]⟩) (fun r s'=>r=.ok (.ret (.bool true))/\OldK s₁.heap s'.heap/\s'.os=s₁.os/\AllBare s'.gens) s₁:=by
  intro H hO hS hok hA hK
  have base_of:∀{b:Addr}{o:Obj},s₁.heap.get? b=some o->H b=none->(er s₁.heap H).get? b=some o:=fun e n=>qJ e n
  have noA:∀{b:Addr}{o:Obj}{es:Array DictEntry}{ep:Nat},s₁.heap.get? b=some o->o.data=.dict es ep->H b=none:=fun {b o es ep} e d=>by
   cases q:H b with
   | none=>rfl
   | some u =>
    have e':b=a:=hA b (by rw [q];simp)
    subst e'
    rw [ha] at e;cases e
    have d':Data.seq vs.toArray _=Data.dict es ep:=d
    cases d'
  have nsK:∀{b:Addr}{m:Str->Option Value},s₁.heap.Ns b m->(er s₁.heap H).Ns b m:=fun {b m} ⟨o,es,ep,e,d,r⟩=>⟨o,es,ep,base_of e (noA e d),d,r⟩
  have hKb:K.In (er s₁.heap H):=fun b o e=>base_of (KX b o e) (by
   cases q:H b with
   | none=>rfl
   | some u =>
    have e':b=a:=hA b (by rw [q];simp)
    subst e'
    rw [hK (by rw [q];simp)] at e;cases e)
  have hM:Mod K mg (er s₁.heap H):=⟨hKb,nsK hns,⟨mb,nsK hb,hbb⟩,let ⟨mc,h1,h2⟩:=hlim;⟨mc,nsK h1,h2⟩⟩
  have e0:dN P w K mg (er s₁.heap H) callerA [] s₁ H:=⟨rfl,hM,fun b o e=>rm e,Nat.le_of_eq (pI _ _),trivial,fun b hb=>absurd (show b∈([]:List Addr) from hb) (by simp),hok,.of_eq hg⟩
  refine codeAny_mono ((F _ hKb (nsK hns)).run callerA [] s₁ H ⟨[.ref a],[]⟩ [.ref a] [.ref a] _ _ hr e0 (hbind s₁ (.ref a)) (.cons rfl .nil) (hsp H hO hS)) fun r s' h=>?_
  cases r with
  | error e=>exact (hCX H e s' h).elim
  | ok fl =>
   cases fl with
   | next=>exact False.elim h
   | brk=>exact False.elim h
   | cont=>exact False.elim h
   | ret u =>
    obtain⟨v,H',os,bare,un,hok',r',q⟩:=h
    have q':v=.bl true:=q
    subst q'
    obtain rfl:u=Value.bool true:=r'
    refine⟨rfl,OldK.of_keep fun b o e=>?_,os,bare⟩
    cases q:H b with
    | none=>exact un.keep b o e q (by intro z;exact absurd (show b∈([]:List Addr) from z) (by simp)) (by simp)
    | some u =>
     rcases hO b with z | ⟨ob,xs,z⟩
     ·rw [q] at z;cases z
     ·have z2:=un.frzs b ob _ z
      obtain⟨e1,_⟩:=hok b _ z
      obtain⟨e2,_⟩:=hok' b _ z2
      rw [e] at e1;cases e1
      exact e2
 cases hk:K.lookup a with
 | some o =>
  have e:=KX a o hk
  rw [ha] at e
  cases e
  refine core (fun _=>none) (fun _=>.inl rfl) (.inr ⟨_,vs.toArray,_,hk,rfl,rfl,rfl,by rw [List.size_toArray,lenV];exact hl,by simpa using rv⟩) (fun b u z=>by have z':(none:Option HO)=some u:=z;cases z') (fun b z=>absurd rfl z) fun z=>absurd rfl z
 | none =>
  refine core (fun b=>if b=a then some (.frz { cls:=.type "list",data:=.seq vs.toArray } (.lst (ns.map V.int))) else none) (fun b=>?_) (.inl (.inr ⟨{ cls:=.type "list",data:=.seq vs.toArray },if_pos rfl⟩)) (fun b u z=>?_) (fun b z=>?_) fun _=>hk
  ·by_cases hb:b=a
   ·exact .inr ⟨_,_,if_pos hb⟩
   ·exact .inl (if_neg hb)
  ·by_cases hb:b=a
   ·have z':=(if_pos hb).symm.trans z
    cases z'
    subst hb
    exact⟨ha,by rw [List.length_map];exact hl,vs,_,rv,ha⟩
   ·have z':=(if_neg hb).symm.trans z
    cases z'
  ·by_cases hb:b=a
   ·exact hb
   ·exact absurd (if_neg hb) z
theorem uP {l:PySem.W.OpenLaw}{n k:Nat}{q:Program}{loose:List Str}{XP:(Str->Option Value)->Heap->Prop}{YP:World->Heap->Prop}{d:DefRec}{K:Params->PySem.W.Frag}{CX:World->CXT}{sp:World->Sp}{x:Str}
  (hn:l.most=some n) (hn2:n<=sizeLine) (hdf:d.params.defaults=[]) (hr:aK k callerA)
  (hY:∀(w:World) (h:Heap),YP w h->(K w.params).In h)
  (F:∀(w:World) (mg:Str->Option Value) (fa:Addr) (h:Heap),(K w.params).In h->h.Ns mainGlobals mg->mg d.name=some (.ref fa) ->
   ∃fd:FuncData,(∀(s:Shared) (u:Value),BindsTo s fd ⟨[u],[]⟩ [(x,u)]) /\
    ∀base:Heap,(K w.params).In base->base.Ns mainGlobals mg->ax l.prog w (K w.params) mg base (CX w) k fa fd [x] (sp w))
  (hsp:∀(w:World) (H:Hp) (a:Addr) (ns:List Int),ns.length<=n->ju H->SqL (K w.params) H a (ns.map V.int)->sp w [.ref a] H (fun v _=>v=.bl true) fun _ _ _=>False)
  (hCX:∀(w:World) (H:Hp) (s:Shared) (e:Value) (s':Shared),CX w [] H s (fun _ _ _=>False) e s'->False) :
  PySem.W.WalkO q loose XP YP l.row.toRowW d [] (fun f vs=>PySem.call f vs):=by
 refine Att.uL hn hdf fun w s₀ s₁ mg mb fa o pm cd doc a vs ns G Y ho hd hcd hmg hobj hints hlen hg=>?_
 have KX:=hY w _ Y
 obtain⟨fd,hb,hF⟩:=F w mg fa _ KX G.T.g hmg
 exact qH KX G.T.g G.T.b G.T.builtins G.T.nolimit hg hobj hints (Nat.le_trans hlen hn2) hr hF hb (fun H hO hS=>hsp w H a ns hlen hO hS) fun H e s'=>hCX w H s₁ e s'
end L2
/- THE LAST THEOREM (shape;LID,My.* are yours):
  My.Adr: a structure of the addresses that your layer names (classes,functions);My.Txt K t: a structure (Prop) of the equations over K;
  My.txt_mk:{K}{implicit addresses ..} (e1:nsIn K mainGlobals "law"=some (some (.ref f))) (e2:K.lookup f=some ⟨oc,od,.func (fnOf "law" "law" params body scope dV kV doc pm an cdv ct),sl⟩) (e3:codeIn K cdv "law"=true) ..:∃t,My.Txt K t
set_option maxRecDepth 100000 in
set_option maxHeartbeats 0 in
theorem PySem.Challenge.cw_LID_holds : PySem.Challenge.rw_LID.Holds := by
 w_on;o_law;k_head;(case hw=>w_witness2)
 k_fill
 refine L2.uP (l:=PySem.Challenge.rw_LID) (n:=63) (k:=40) (x:="script") (CX:=fun w=>..) (sp:=fun _=>My.sp_law) rfl (by decide) rfl ⟨rfl,by decide,by decide⟩ (fun w h Y=>PySem.W.kIn_of Y) ?F ?S ?C
 case F =>
  intro w mg fa h KX G hmg
  have T:∃t,My.Txt (L2.KOf KX) t:=by
   dsimp only [L2.KOf]
   refine' My.txt_mk ?e1 ?e2 ?e3 ..
   (case e1=>PySem.W.k_is)
   (case e2=>PySem.W.k_is)
   ..
  obtain⟨t,T⟩:=T
  have e0:=hmg.symm.trans (PySem.W.mg_of KX G T.law)
  cases e0
  exact⟨_,fun s u=>.of_eq rfl,fun base kb nb=>My.law_fn T kb nb⟩
 case S=>exact fun w H a ns hl hO hS=>..
 case C=>exact ..
(the tactic k_is has no namespace: write k_is) -/
namespace L2
open PySem PySem.Spec PyProof.Rows
noncomputable def cW (s:Stmt):Arguments:=match s with
 | .FunctionDef _ a _ _ _ _ _ _ _ _=>a
 | _=>{ posonlyargs:=[],args:=[],vararg:=none,kwonlyargs:=[],kw_defaults:=[],kwarg:=none,defaults:=[] }
noncomputable def cu (s:Stmt):List Stmt:=match s with
 | .FunctionDef _ _ b _ _ _ _ _ _ _=>b
 | _=>[]
noncomputable def ao (s:Stmt):Scope:=match s with
 | .FunctionDef _ _ _ _ _ _ sc _ _ _=>sc
 | _=>{ kind:=.function,names:=[],isGenerator:=false,isCoroutine:=false }
noncomputable abbrev CX0:CXT:=fun _ _ _ _ _ _=>False
noncomputable abbrev E0:XK:=fun _ _ _=>False
theorem mR {X:Cx}:eU CX0 X E0:=fun _ _ _ _ _ _ _ h=>h.elim
structure Fun (K:PySem.W.Frag) (x qual:Str) (st:Stmt) (f:Addr) (fd:FuncData):Prop where
 ex:∃(oc:Value) (od:Option Addr) (kV doc pm:Value) (an:Option Addr) (cdv ct:Value) (osl:Array (Option Value)),
  fd=PySem.W.fnOf x qual (cW st) (cu st) (ao st) .none kV doc pm an cdv ct/\K.lookup f=some ⟨oc,od,.func fd,osl⟩/\PySem.W.codeIn K cdv qual=true
 kp:PySem.W.keepIn K (.ref f)=true
section
variable {P:Program}{w:World}{K:PySem.W.Frag}{mg:Str->Option Value}{base:Heap}
theorem Fun.ok {x qual:Str}{st:Stmt}{f:Addr}{fd:FuncData}{N ps:List Str}{k:Nat}{sp:Sp} (F:Fun K x qual st f fd) (S:aP N ps (ao st)) (len:∀vs H Q E,sp vs H Q E->vs.length=ps.length)
  (hbody:∀(cdv:Value) (A:Around) (outer:List Env) (s:Shared) (H:Hp) (vs:List V) (Q:VK) (E:XK),aK k (A.deeper (envOfC qual (ao st) s.heap.objs.size f cdv))->sp vs H Q E ->
   ∃t,PSs (aJ CX0 P w K mg base N qual (ao st) f cdv A outer s H E).nox (cu st) t/\t { nx:=fun _ H'=>Q .non H',rt:=Q } (start N vs) H):ax P w K mg base CX0 (k + 1) f fd ps sp:=by
 obtain⟨oc,od,kV,doc,pm,an,cdv,ct,osl,rfl,lk,hcd⟩:=F.ex
 refine mQ lk hcd S len fun A outer s H vs Q E hr hsp=>?_
 obtain⟨t,h,q⟩:=hbody cdv A outer s H vs Q E hr hsp
 exact⟨t,h.nox,q⟩
theorem Fun.binds {x qual:Str}{st:Stmt}{f:Addr}{fd:FuncData}{ps:List Str} (F:Fun K x qual st f fd)
  (h:∀(kV doc pm:Value) (an:Option Addr) (cdv ct:Value) (us:List Value),us.length=ps.length->bindArgs (PySem.W.fnOf x qual (cW st) (cu st) (ao st) .none kV doc pm an cdv ct) ⟨us,[]⟩=pure (ps.zip us)):Binds K fd ps []:=by
 obtain⟨oc,od,kV,doc,pm,an,cdv,ct,osl,rfl,lk,hcd⟩:=F.ex
 exact .all (h kV doc pm an cdv ct)
theorem fW {x qual:Str}{st:Stmt}{f:Addr}{oc:Value}{od an:Option Addr}{osl:Array (Option Value)}{kV doc pm cdv ct:Value} (l:K.lookup f=some ⟨oc,od,.func (PySem.W.fnOf x qual (cW st) (cu st) (ao st) .none kV doc pm an cdv ct),osl⟩)
  (c:PySem.W.codeIn K cdv qual=true) (k:PySem.W.keepIn K (.ref f)=true):Fun K x qual st f (PySem.W.fnOf x qual (cW st) (cu st) (ao st) .none kV doc pm an cdv ct):=⟨⟨oc,od,kV,doc,pm,an,cdv,ct,osl,rfl,l,c⟩,k⟩
end
theorem pL {n:Nat} (h:n<=1000):n < sizeLine:=Nat.lt_of_le_of_lt h (by decide)
section
variable {X:Cx}
theorem pv (i:Nat) {x:Str}{pos:Pos} (hN:X.N[i]?=some x:=by rfl) (hv:Vis X.env.scope x:=by first | exact Or.inl rfl | exact Or.inr (Or.inl rfl) | exact Or.inr (Or.inr rfl)) (hd:(x == ("__debug__":Str))=false:=by decide)
  (hcd:(x == ("__classdict__":Str))=false:=by decide):PE X (.Name x pos) (ba i):=sV hN hv hd hcd
end
theorem aL {A B:Prop} (h:B):if false=true then A else B:=by
 rw [if_neg Bool.false_ne_true]
 exact h
theorem aA {A B:Prop} (h:A):if true=true then A else B:=by
 rw [if_pos rfl]
 exact h
theorem aS {c A B:Prop} [Decidable c] (h1:c->A) (h2:¬ c->B):if c then A else B:=by
 by_cases h:c
 ·rw [if_pos h]
  exact h1 h
 ·rw [if_neg h]
  exact h2 h
theorem de {c A B:Prop} [Decidable c] (hc:c) (h:B):if (!decide c)=true then A else B:=by
 rw [decide_eq_true hc]
 exact aL h
noncomputable def ah (H H':Hp):Prop:=∀b o,H b=some o->H' b=some o
theorem ah.refl (H:Hp):ah H H:=fun _ _ h=>h
theorem ah.trans {H H1 H2:Hp} (a:ah H H1) (b:ah H1 H2):ah H H2:=fun c o h=>b c o (a c o h)
theorem ah.free {H H':Hp} (e:ah H H') {l:Addr} (h:H' l=Option.none):H l=Option.none:=by
 cases q:H l with
 | none=>rfl
 | some o =>
  rw [e l o q] at h
  cases h
theorem ah.seq {K:PySem.W.Frag}{H H':Hp}{a:Addr}{xs:List V} (e:ah H H') (h:SqL K H a xs):SqL K H' a xs:=by
 rcases h with (h | ⟨o,h⟩) | h
 ·exact .inl (.inl (e _ _ h))
 ·exact .inl (.inr ⟨o,e _ _ h⟩)
 ·exact .inr h
noncomputable def bX (env:Env):List (Str×NameKind)->List (Str×Addr)->List (Str×Addr)
 | [],acc=>acc
 | (x,k)::r,acc=>if (k == NameKind.free)=true then (match env.cells.lookup x with | some c=>bX env r ((x,c)::acc) | none=>bX env r acc) else bX env r acc
theorem gw (env:Env):∀(ns:List (Str×NameKind)) (acc:List (Str×Addr)) (x:Str) (c:Addr),(x,c)∈bX env ns acc->(x,c)∈acc\/env.cells.lookup x=some c
 | [],acc,x,c,h=>.inl h
 | (y,k)::r,acc,x,c,h=>by
  unfold bX at h
  split at h
  ·split at h
   ·next d e =>
    rcases gw env r _ x c h with z | z
    ·rcases List.mem_cons.mp z with q | q
     ·cases q;exact .inr e
     ·exact .inl q
    ·exact .inr z
   ·exact gw env r acc x c h
  ·exact gw env r acc x c h
theorem gD (env:Env):∀(ns:List (Str×NameKind)) (acc:List (Str×Addr)) (p:Str×Addr),p∈acc->p∈bX env ns acc
 | [],acc,p,h=>h
 | (y,k)::r,acc,p,h=>by
  unfold bX
  split
  ·split
   ·exact gD env r _ p (List.mem_cons_of_mem _ h)
   ·exact gD env r _ p h
  ·exact gD env r _ p h
theorem gH (env:Env):∀(ns:List (Str×NameKind)) (acc:List (Str×Addr)) (x:Str) (c:Addr),(x,NameKind.free)∈ns->env.cells.lookup x=some c->(x,c)∈bX env ns acc
 | [],acc,x,c,h,_=>nomatch h
 | (y,k)::r,acc,x,c,h,e=>by
  unfold bX
  rcases List.mem_cons.mp h with q | q
  ·cases q
   rw [if_pos (show (NameKind.free == NameKind.free)=true from rfl),e]
   exact gD env r _ _ List.mem_cons_self
  ·split
   ·split
    ·exact gH env r _ x c q e
    ·exact gH env r _ x c q e
   ·exact gH env r _ x c q e
theorem qv {l:List (Str×Addr)}{x:Str}{c:Addr} (h:(x,c)∈l):∃d,l.lookup x=some d:=by
 induction l with
 | nil=>cases h
 | cons p r ih =>
  obtain⟨y,d⟩:=p
  rw [List.lookup_cons]
  cases hx:x == y with
  | true=>exact⟨d,rfl⟩
  | false =>
   rcases List.mem_cons.mp h with q | q
   ·cases q
    rw [beq_self_eq_true] at hx
    cases hx
   ·exact ih q
theorem dD {env:Env}{ns:List (Str×NameKind)}{x:Str}{c:Addr} (h:(bX env ns []).lookup x=some c):env.cells.lookup x=some c:=by
 rcases gw env ns [] x c (PySem.mem_of_lookup h) with z | z
 ·cases z
 ·exact z
theorem kU {env:Env}{ns:List (Str×NameKind)}{x:Str}{c:Addr} (h:(x,NameKind.free)∈ns) (e:env.cells.lookup x=some c):(bX env ns []).lookup x=some c:=by
 obtain⟨d,q⟩:=qv (gH env ns [] x c h e)
 rw [q,<- dD q,e]
theorem pq {env:Env}{scope:Scope} (h:∀x∈scope.names,x.2=NameKind.free->∃c,env.cells.lookup x.1=some c):closureFor scope env=pure (bX env scope.names []):=by
 have go:∀(ns:List (Str×NameKind)) (acc:List (Str×Addr)),(∀x∈ns,x.2=NameKind.free->∃c,env.cells.lookup x.1=some c) ->
   (forIn ns acc (fun x cs=>match x with | (name,kind)=>if (kind == NameKind.free)=true then (do let c <- cellOf env name;pure (ForInStep.yield ((name,c)::cs))) else pure (ForInStep.yield cs)):Sem (List (Str×Addr)))=pure (bX env ns acc):=by
  intro ns
  induction ns with
  | nil=>intro acc _;rfl
  | cons p r ih =>
   intro acc hh
   obtain⟨y,k⟩:=p
   rw [List.forIn_cons]
   unfold bX
   by_cases hk:(k == NameKind.free)=true
   ·rw [if_pos hk]
    obtain⟨c,e⟩:=hh (y,k) List.mem_cons_self (by cases k <;> first | rfl | cases hk)
    dsimp only at e ⊢
    rw [if_pos hk]
    unfold cellOf
    rw [e]
    exact ih _ fun x hx=>hh x (List.mem_cons_of_mem _ hx)
   ·rw [if_neg hk]
    dsimp only
    rw [if_neg hk]
    exact ih _ fun x hx=>hh x (List.mem_cons_of_mem _ hx)
 unfold closureFor
 have q:=go scope.names [] h
 simp only [bind_pure]
 exact q
noncomputable def aO (X:Cx) (scope:Scope) (N:List Str) (C:Addr) (s0:Shared) (H0:Hp) (fp:List Addr):Cx :=
 { X with N:=N,s₀:=s0,H₀:=H0,env:=compEnvC scope (bX X.env scope.names []) C X.env,outer:=X.stack,stack:=X.stack,ex:=fp,fn:=fun _=>false,pn:=[],xe:=fun _ _=>False }
noncomputable def emb (ix:List (Option Nat)) (σ:St):St:=ix.map fun o=>match o with | none=>none | some j=>(σ[j]?).join
noncomputable def ji (No:List Str) (out:Str->Option NameKind) (scope:Scope) (N:List Str) (ix:List (Option Nat)):Bool :=
 (N.length == ix.length) && (N.zip ix).all fun p=>match p.2 with | none=>true | some j=>(No[j]? == some p.1) && (scope.names.lookup p.1 == some NameKind.free) && ((out p.1 == some .cell) || (out p.1 == some .free))
structure bQ (X:Cx) (scope:Scope) (N:List Str) (ix:List (Option Nat)):Prop where
 kind:scope.kind=.function
 names:scope.names.all (fun x=>(x.2 != .cell) && ((x.2 != .local) || (scope.names.lookup x.1 == some .local)) && ((x.2 != .free) || (X.env.kindOf x.1 == some .cell) || (X.env.kindOf x.1 == some .free)))=true
 em:ji X.N X.env.kindOf scope N ix=true
 nd:N.Nodup
theorem jn {scope:Scope}{env:Env}{x:Str}{k:NameKind}:∀{ns:List (Str×NameKind)},(ns.map fun (n,k)=>if (k == NameKind.free && env.scope.kind == .function && env.kindOf n == some .cell)=true then (n,NameKind.cell) else (n,k)).lookup x=some k ->
  (k=.cell\/k=.free)->(∀y∈ns,y.2≠.cell)->(x,NameKind.free)∈ns
 | [],h,_,_=>by cases h
 | (n,k')::r,h,hk,hc=>by
  have ih:=fun h'=>jn (scope:=scope) (env:=env) (x:=x) (k:=k) (ns:=r) h' hk fun y hy=>hc y (List.mem_cons_of_mem _ hy)
  have key:∀k'':NameKind,List.lookup x ((n,k'')::(r.map fun (n,k)=>if (k == NameKind.free && env.scope.kind == .function && env.kindOf n == some .cell)=true then (n,NameKind.cell) else (n,k)))=some k ->
    (k''=k'\/(k''=.cell/\k'=.free))->(x,NameKind.free)∈(n,k')::r:=fun k'' h hq=>by
   rw [List.lookup_cons] at h
   cases hx:x == n with
   | true =>
    rw [hx] at h
    cases h
    have e:x=n:=eq_of_beq hx
    subst e
    rcases hq with q | ⟨_,q⟩
    ·rcases hk with z | z
     ·exact absurd (q.symm.trans z) (hc (x,k') List.mem_cons_self)
     ·rw [<- q,z];exact List.mem_cons_self
    ·rw [q];exact List.mem_cons_self
   | false =>
    rw [hx] at h
    exact List.mem_cons_of_mem _ (ih h)
  rw [List.map_cons] at h
  dsimp only at h
  split at h
  ·next hh =>
   refine key _ h (.inr ⟨rfl,?_⟩)
   cases k' <;> first | rfl | (simp at hh)
  ·exact key _ h (.inl rfl)
theorem mE {env:Env}{x:Str}:∀{ns:List (Str×NameKind)},ns.lookup x=some NameKind.free->∃k,(k=NameKind.cell\/k=NameKind.free) /\
  (ns.map fun (n,k)=>if (k == NameKind.free && env.scope.kind == .function && env.kindOf n == some .cell)=true then (n,NameKind.cell) else (n,k)).lookup x=some k
 | [],h=>by cases h
 | (n,k')::r,h=>by
  rw [List.lookup_cons] at h
  rw [List.map_cons]
  dsimp only
  cases hx:x == n with
  | true =>
   rw [hx] at h
   cases h
   split
   ·exact⟨_,.inl rfl,by rw [List.lookup_cons,hx]⟩
   ·exact⟨_,.inr rfl,by rw [List.lookup_cons,hx]⟩
  | false =>
   rw [hx] at h
   obtain⟨k,hk,e⟩:=mE (env:=env) (ns:=r) h
   refine⟨k,hk,?_⟩
   split <;> (rw [List.lookup_cons,hx];exact e)
section
variable {X:Cx}{scope:Scope}{N:List Str}{ix:List (Option Nat)}
theorem bQ.nocell (L:bQ X scope N ix):∀x∈scope.names,x.2≠.cell:=fun x hx z=>by
 have q:=List.all_eq_true.mp L.names x hx
 rw [z] at q
 simp at q
theorem bQ.locals (L:bQ X scope N ix):∀x∈scope.names,x.2=.local->scope.names.lookup x.1=some .local:=fun x hx z=>by
 have q:=List.all_eq_true.mp L.names x hx
 rw [z] at q
 simpa using q
theorem bQ.frees (L:bQ X scope N ix):∀x∈scope.names,x.2=.free->X.env.kindOf x.1=some .cell\/X.env.kindOf x.1=some .free:=fun x hx z=>by
 have q:=List.all_eq_true.mp L.names x hx
 rw [z] at q
 simpa using q
theorem bQ.clos (L:bQ X scope N ix) (ok:X.Ok):closureFor scope X.env=pure (bX X.env scope.names []) :=
 pq fun x hx z=>ok.has _ (L.frees x hx z)
theorem bQ.len (L:bQ X scope N ix):N.length=ix.length:=by
 have q:=L.em
 unfold ji at q
 rw [Bool.and_eq_true] at q
 exact eq_of_beq q.1
theorem bQ.out (L:bQ X scope N ix) {i j:Nat}{x:Str} (h1:N[i]?=some x) (h2:ix[i]?=some (some j)):X.N[j]?=some x/\scope.names.lookup x=some NameKind.free/\(X.env.kindOf x=some .cell\/X.env.kindOf x=some .free):=by
 have q:=L.em
 unfold ji at q
 rw [Bool.and_eq_true] at q
 have hz:(N.zip ix)[i]?=some (x,some j):=by
  rw [List.getElem?_zip_eq_some]
  exact⟨h1,h2⟩
 have r:=List.all_eq_true.mp q.2 _ (List.mem_of_getElem? hz)
 simp only [Bool.and_eq_true,Bool.or_eq_true,beq_iff_eq] at r
 exact⟨r.1.1,r.1.2,r.2⟩
theorem tU (L:bQ X scope N ix) {pins:List (Addr×Obj)}{σ:St}{H2:Hp}{s2:Shared}{C:Addr}{fp:List Addr} (I2:Inv X pins σ H2 s2) (hC:s2.heap.objs.size<=C) (hf:∀b∈fp,bR X pins H2 b) (hb:∀b∈fp,b < s2.heap.objs.size) :
  (aO X scope N C s2 H2 fp).Ok where
 mod:=I2.ok.mod
 kind:=L.kind
 glob:=I2.ok.glob
 blt:=I2.ok.blt
 above:=hC
 inj:=fun x y c h1 h2=>I2.ok.inj x y c (dD h1) (dD h2)
 has:=fun x hx=>by
  have hm:(x,NameKind.free)∈scope.names:=by
   rcases hx with hx | hx
   ·exact jn (scope:=scope) (env:=X.env) hx (.inl rfl) L.nocell
   ·exact jn (scope:=scope) (env:=X.env) hx (.inr rfl) L.nocell
  obtain⟨c,e⟩:=I2.ok.has x (L.frees _ hm rfl)
  exact⟨c,kU hm e⟩
 cab:=fun x c h _=>Bool.noConfusion h
 hd:=I2.ok.hd
 frames:=I2.ok.frames
 stk:=.inl rfl
 exf:=fun b h=>⟨Nat.ne_of_lt (Nat.lt_of_lt_of_le (hb b h) hC),fun x c e=>(hf b h).2.2.2.2.1 x c (dD e)⟩
 bs:=fun b o e=>I2.bs b o e
 bsz:=Nat.le_trans I2.ok.bsz I2.sz
 noex:=fun b o e h=>by
  rcases (hf b h).2.2.2.1 with z | z
  ·exact I2.ok.noex b o e z
  ·exact absurd (Nat.lt_of_lt_of_le (Heap.lt_size e) (Nat.le_trans I2.ok.bsz z)) (Nat.lt_irrefl _)
 exfs:=fun b h z=>(List.mem_cons.mp (I2.stkSub b z)).elim (hf b h).2.1 (hf b h).2.2.1
 funs:=I2.stack
 frf:=fun b h=>I2.stkFree b h
end
noncomputable def PTs (X:Cx) (ifs:List Expr) (t:TT):Prop :=
 ∀(pins:List (Addr×Obj)) (s:Shared) (σ:St) (H:Hp) (Q:Bool->Hp->Prop),Inv X pins σ H s->t σ H Q ->
  wpAny (model X.prog X.w) X.A (forIn ifs true fun c r=>if r=true then do let ok <- isTrue c X.env (eval c X.env);pure (ForInStep.yield ok) else pure (ForInStep.yield r)) (TP X pins σ Q) X.xe s
noncomputable def dB:TT:=fun _ H Q=>Q true H
theorem bY {X:Cx}:PTs X [] dB:=fun _ _ _ H _ I h=>wpAny_tests_nil ⟨H,I,h⟩
theorem dq {X:Cx}{c:Expr}{t:TT} (h:PT X c t):PTs X [c] t:=fun pins s σ H Q I q=>wpAny_tests_one (h pins s σ H Q I q)
section
variable {prog:Program}{w:World}{A:Around}{R:Result->Shared->Prop}{s:Shared}
theorem ll {elt tg iter:Expr}{ifs:List Expr}{scope:Scope}{pos:Pos}{it acc:Value}{env:Env} (J:Nat->Shared->Prop)
  (turn:∀n s,J n s->wpAny (model prog w) A (pyNext it) (fun r s1=>match r with
   | none=>R (.ok .next) s1
   | some v=>wpAny (model prog w) A (letOwnedTupleGo tg it v) (fun _ s2=>wpAny (model prog w) A (assign tg env v) (fun _ s3 =>
     wpAny (model prog w) A (forIn ifs true fun c r=>if r=true then do let ok <- isTrue c env (eval c env);pure (ForInStep.yield ok) else pure (ForInStep.yield r)) (fun ok s4 =>
      if ok=true then wpAny (model prog w) A (eval elt env) (fun x s5=>wpAny (model prog w) A (call (.builtin "list.append") [acc,x]) (fun _ s6=>∃m,m < n/\J m s6) (fun _ _=>False) s5) (fun _ _=>False) s4
      else ∃m,m < n/\J m s4) (fun _ _=>False) s3) (fun _ _=>False) s2) (fun _ _=>False) s1) (fun _ _=>False) s)
  (n:Nat) (h:J n s):codeAny (model prog w) A (.compLoop (.ListComp elt [⟨tg,iter,ifs,0⟩] scope pos) 0 it acc env) R s:=by
 refine codeAny_loop rfl J (fun k t hJ=>?_) n h
 show wpAny _ A ((compTurn (.ListComp elt [⟨tg,iter,ifs,0⟩] scope pos) 0 it acc env).onRaise (fun x=>do noteFrame x env;theTreesLotGoes x)) _ _ t
 refine wpAny_noted (wpAny_mono (E:=fun _ _=>False) ?_ (fun _ _ q=>q) fun _ _ f=>f.elim)
 rw [compTurn_list]
 refine wpAny_bind (wpAny_standAt (wpAny_bind (thn (turn k t hJ) fun r s1 h1=>?_)))
 cases r with
 | none=>exact wpAny_pure h1
 | some v =>
  refine wpAny_bind (thn h1 fun _ s2 h2=>wpAny_bind (thn h2 fun _ s3 h3=>wpAny_bind (thn h3 fun ok s4 h4=>?_)))
  cases ok with
  | false=>exact wpAny_pure ⟨rfl,h4⟩
  | true=>exact wpAny_bind (wpAny_bind (thn h4 fun x s5 h5=>wpAny_bind (thn h5 fun _ s6 h6=>wpAny_pure (wpAny_pure ⟨rfl,h6⟩))))
end
noncomputable def LcW (J:It) (g:TG) (tt:TT) (te:TE) (σ':St) (fin:List V->Hp->Prop) (H1:Hp):Prop :=
 ∃W:Nat->Nat->List V->St->Hp->Prop,(∃m,W 0 m [] σ' H1)/\∀i m ys σ H,W i m ys σ H ->
  (J.stop i H/\ys.length<=sizeLine/\fin ys H)\/(J.go i H/\ys.length < sizeLine/\∃Nx:List V->St->Hp->Prop,(∀ys' σ' H',Nx ys' σ' H'->∃m',m' < m/\W (i + 1) m' ys' σ' H') /\
   ∀x H',J.yld i H x H'->g x σ H' fun σ2 H2=>tt σ2 H2 fun b H3=>if b=true then te σ2 H3 (fun v H4=>Nx (ys++[v]) σ2 H4) else Nx ys σ2 H3)
noncomputable def tLc (wi:TI) (g:TG) (tt:TT) (te:TE) (ix:List (Option Nat)):TE:=fun σ H Q=>wi σ H fun J H1=>LcW J g tt te (emb ix σ) (fun ys H'=>∀p,H' p=none->Q (.ref p) (upd H' p (.lst ys))) H1
section
variable {X:Cx}{scope:Scope}{N:List Str}{ix:List (Option Nat)}
theorem lW {pins pins':List (Addr×Obj)}{σ σ':St}{H2 H':Hp}{s2 s':Shared}{C D:Addr}{fp:List Addr}{ys:List V}{its:List Value}{k:Nat}{h':Heap} (I2:Inv X pins σ H2 s2) (hf:∀b∈fp,bR X pins H2 b)
  (I':Inv (aO X scope N C s2 H2 fp) pins' σ' H' s') (hC:s2.heap.objs.size<=C) (hD:s2.heap.objs.size<=D) (hDC:D≠C) (hn:H' D=none) (ho:s'.heap.get? D=some { cls:=.type "list",data:=.seq its.toArray k }) (rv:ar ys its) (hz:ys.length<=sizeLine)
  (hs:∀b o,b≠C->s'.heap.get? b=some o->h'.get? b=some o):Inv X pins σ (upd H' D (.lst ys)) { s' with heap:=h' }:=by
 have B:Un (frs X.stack) fp H2 H' s2.heap s'.heap:=I'.base
 have neC:∀b o,s2.heap.get? b=some o->b≠C:=fun b o e=>Nat.ne_of_lt (Nat.lt_of_lt_of_le (Heap.lt_size e) hC)
 have neD:∀b o,s2.heap.get? b=some o->b≠D:=fun b o e=>Nat.ne_of_lt (Nat.lt_of_lt_of_le (Heap.lt_size e) hD)
 have hCn:H' C=none:=I'.free
 have tD:∀b u,H' b=some u->b≠D:=fun b u e=>aZ e hn
 have tC:∀b u,H' b=some u->b≠C:=fun b u e=>aZ e hCn
 refine I2.call' (s':={ s' with heap:=h' }) (ch:=fp) I'.os ⟨fun b o e n hb hx=>?_,fun b o e n hb hx=>?_,fun b o e n hx=>?_,fun b o e hx=>?_,fun b xs e=>?_,fun b o u e=>?_,fun b ps e=>?_⟩ (fun b u e=>?_) I'.bare fun b hb=>⟨(hf b hb).2.2.2.1,(hf b hb).2.1,(hf b hb).2.2.2.2.1,(hf b hb).2.2.2.2.2⟩
 ·exact hs b o (neC b o e) (B.keep b o e n hb hx)
 ·obtain⟨sl,q⟩:=B.slot b o e n hb hx
  exact⟨sl,hs b _ (neC b o e) q⟩
 ·rw [au (neD b o e)];exact B.free b o e n hx
 ·obtain⟨o',q⟩:=B.there b o e hx
  exact⟨o',hs b o' (neC b o e) q⟩
 ·rw [au (tD b _ (B.tups b xs e))];exact B.tups b xs e
 ·rw [au (tD b _ (B.frzs b o u e))];exact B.frzs b o u e
 ·obtain⟨m,q⟩:=B.tbls b ps e
  exact⟨m,by rw [au (tD b _ q)];exact q⟩
 ·by_cases hb:b=D
  ·subst hb
   rw [aj] at e
   cases e
   exact⟨hz,its,k,rv,hs b _ hDC ho⟩
  ·rw [au hb] at e
   refine (I'.hok b u e).stay (fun c v hc q=>hs c v ?_ q) (fun c q=>by rw [au (tD c _ q)];exact q) fun c xs q=>by rw [au (tD c _ q)];exact q
   rcases hc with z | z
   ·rw [z];exact tC b u e
   ·exact tC c _ z
theorem mG (L:bQ X scope N ix) {pins:List (Addr×Obj)}{σ:St}{H2:Hp}{s2:Shared}{C:Addr}{fp:List Addr}{h1:Heap}{tk:Nat}{m:Str->Option Value} (I2:Inv X pins σ H2 s2) (hC:s2.heap.objs.size<=C) (hf:∀b∈fp,bR X pins H2 b) (hb:∀b∈fp,b < s2.heap.objs.size)
  (kp:∀b o,s2.heap.get? b=some o->h1.get? b=some o) (hn:h1.Ns C m):Inv (aO X scope N C s2 H2 fp) [] (emb ix σ) H2 { s2 with heap:=h1,toks:=tk }:=by
 refine⟨tU L I2 hC hf hb,rfl,I2.bare,Un.kept kp,⟨m,hn,fun i x v e1 e2 e3=>?_⟩,fun x c e=>?_,I2.hok.fresh hC,fun x c e=>I2.freeC x c (dD e),fun p hp=>absurd (show p∈([]:List (Addr×Obj)) from hp) (by simp),I2.hok.kept kp,?_⟩
 ·unfold emb at e2
  rw [List.getElem?_map] at e2
  cases q:ix[i]? with
  | none=>rw [q] at e2;cases e2
  | some o =>
   rw [q] at e2
   cases o with
   | none=>cases e2
   | some j =>
    have e2':(σ[j]?).join=some v:=Option.some.inj e2
    have e4:σ[j]?=some (some v):=by
     cases z:σ[j]? with
     | none=>rw [z] at e2';cases e2'
     | some y=>rw [z] at e2';exact congrArg some e2'
    obtain⟨a1,a2,a3⟩:=L.out e1 q
    obtain⟨mo,_,hl⟩:=I2.loc
    obtain⟨u,r,lk⟩:=hl j x v a1 e4 (.inr a3)
    refine⟨u,r,?_⟩
    rcases lk with ⟨k,_⟩ | ⟨k,c,e,o,ho,hd⟩
    ·rcases a3 with z | z
     ·rw [z] at k;cases k
     ·rw [z] at k;cases k
    ·obtain⟨k',hk',e'⟩:=mE (env:=X.env) a2
     refine .inr ⟨?_,c,kU (PySem.mem_of_lookup a2) e,o,kp _ _ ho,hd⟩
     rcases hk' with z | z
     ·subst z;exact .inl e'
     ·subst z;exact .inr e'
 ·obtain⟨v,o,ho,hd⟩:=I2.cell x c (dD e)
  exact⟨v,o,kp _ _ ho,hd⟩
 ·unfold emb
  rw [List.length_map]
  exact L.len.symm
variable {tg iter elt:Expr}{ifs:List Expr}{pos:Pos}{g:TG}{tt:TT}{te:TE}
theorem mD (L:bQ X scope N ix) (hc:X.calm=true) (hg:∀C s0 H0 fp,PG (aO X scope N C s0 H0 fp) tg g) (ht:∀C s0 H0 fp,PTs (aO X scope N C s0 H0 fp) ifs tt) (he:∀C s0 H0 fp,PE (aO X scope N C s0 H0 fp) elt te)
  {pins:List (Addr×Obj)}{σ:St}{H2:Hp}{s2:Shared}{it:Addr}{fp:List Addr}{tn:Nat->Heap->Prop}{J:It}{fin:List V->Hp->Prop}{E:Value->Shared->Prop}{RR:Value->Addr->Result->Shared->Prop}
  (I2:Inv X pins σ H2 s2) (T:Turn X.prog X.w X.K tg J fp it tn) (st:tn 0 s2.heap) (f2:∀b∈fp,bR X pins H2 b) (hW:LcW J g tt te (emb ix σ) fin H2)
  (hRR:∀D C s' m ys H',s'.heap.Ns C m->s'.os=s2.os->D≠C->bR X pins (upd H' D (.lst ys)) C->(∀h',Heap.SameBut C s'.heap h'->Inv X pins σ (upd H' D (.lst ys)) { s' with heap:=h' })->H' D=none->fin ys H'->RR (.ref D) C (.ok .next) s') :
  wpAny (model X.prog X.w) X.A (newList []) (fun acc s3=>wpAny (model X.prog X.w) X.A (newFunctionEnv scope X.env.globals (bX X.env scope.names []) [] X.env.qual none .none (some X.env)) (fun cenv s4 =>
   codeAny (model X.prog X.w) X.A (.compStart (.ListComp elt [⟨tg,iter,ifs,0⟩] scope pos) 0 (.ref it) acc { cenv with scope:=relabel scope X.env }) (RR acc cenv.locals) s4) E s3) E s2:=by
 obtain⟨W,⟨m0,w0⟩,turn⟩:=hW
 have hb2:∀b∈fp,b < s2.heap.objs.size:=fun b hb=>by
  obtain⟨o,e,_⟩:=T.obj _ _ st b hb
  exact Heap.lt_size e
 refine wpAny_newObj_type (wpAny_newFunctionEnv L.nocell (by intro y hy;simp at hy) (fun h1 hns hsb=>?_) L.kind)
 dsimp only at hns hsb ⊢
 generalize hG:s2.heap.push { cls:=.type "list",dict:=none,data:=.seq ([]:List Value).toArray }=G at hns hsb ⊢
 have hGs:G.objs.size=s2.heap.objs.size + 1:=by rw [<- hG,Heap.size_push]
 generalize hDe:s2.heap.objs.size=D at hGs hb2
 generalize hCe:G.objs.size=C at hGs hns hsb ⊢
 have hDC:D≠C:=by omega
 have nq:∀b:Nat,b < s2.heap.objs.size->b≠C/\b≠D:=fun b h=>⟨by omega,by omega⟩
 have nq2:∀b∈fp,b≠C/\b≠D:=fun b hb=>nq b (by rw [hDe];exact hb2 b hb)
 have kG:∀b o,s2.heap.get? b=some o->G.get? b=some o:=fun b o e=>by rw [<- hG];exact Heap.get?_push_of_some _ e
 have kp:∀b o,s2.heap.get? b=some o->h1.get? b=some o:=fun b o e=>hsb.extBut b o (nq b (Heap.lt_size e)).1 (Heap.get?_push_of_some _ (kG b o e))
 have oD:∃n,h1.get? D=some { cls:=.type "list",data:=.seq ([]:List Value).toArray n }:=⟨_,hsb.extBut _ _ hDC (Heap.get?_push_of_some _ (by rw [<- hG,<- hDe];exact Heap.get?_push_size _ rfl))⟩
 have I4:=mG L (tk:=s2.toks + ([]:List (Str×Value)).length) I2 (C:=C) (by omega) f2 (by rw [hDe];exact hb2) kp hns
 have st4:tn 0 h1:=T.keep _ _ _ st fun b _ o e=>kp b o e
 have hDf:D∉(aO X scope N C s2 H2 fp).fs:=fun z=>by
  have z':D∈frs X.stack:=z
  rcases List.mem_cons.mp (I2.stkSub D z') with q | q
  ·exact (nq _ I2.lt).2 q.symm
  ·exact I2.nofs (a:=D) (by omega) q
 have cellD:∀x c,(aO X scope N C s2 H2 fp).env.cells.lookup x=some c->c≠D:=fun x c e z=>by
  obtain⟨v,o,ho,_⟩:=I2.cell x c (dD e)
  exact (nq c (Heap.lt_size ho)).2 z
 have stat:∀{H':Hp}{pl:List (Addr×Obj)},(∀b∈fp,H' b=none)->(∀p∈pl,p.1=D)->∀b∈fp,bR (aO X scope N C s2 H2 fp) pl H' b:=fun {H' pl} hn hp b hb=>by
  have hlt:=hb2 b hb
  refine⟨hn b hb,(nq2 b hb).1,fun z=>?_,.inl hb,fun x c e=>(f2 b hb).2.2.2.2.1 x c (dD e),fun p hq z=>?_⟩
  ·exact (List.mem_cons.mp (I2.stkSub b z)).elim (f2 b hb).2.1 (f2 b hb).2.2.1
  ·have hq':p∈pl:=by simpa [aO] using hq
   exact (nq2 b hb).2 (z.symm.trans (hp p hq'))
 have pinD:∀{pl:List (Addr×Obj)}{σ':St}{H':Hp}{s':Shared}{o:Obj},Inv (aO X scope N C s2 H2 fp) pl σ' H' s'->s'.heap.get? D=some o->H' D=none->(∀v,o.data≠.cell v)->Inv (aO X scope N C s2 H2 fp) [(D,o)] σ' H' s' :=
  fun {pl σ' H' s' o} I' ho hn hd=>I'.pins_of fun p hp=>by
   have e:p=(D,o):=by simpa using hp
   subst e
   exact⟨ho,hn,hDC,hDf,hd⟩
 have loop:∀s4:Shared,s4={ s2 with heap:=h1,toks:=s2.toks + ([]:List (Str×Value)).length } ->
   codeAny (model X.prog X.w) X.A (.compLoop (.ListComp elt [⟨tg,iter,ifs,0⟩] scope pos) 0 (.ref it) (.ref D) (aO X scope N C s2 H2 fp).env) (RR (.ref D) C) s4:=by
  rintro s4 rfl
  refine ll (fun n s'=>∃i σ' H' ys its k,Inv (aO X scope N C s2 H2 fp) [(D,{ cls:=.type "list",data:=.seq its.toArray k })] σ' H' s'/\tn i s'.heap/\(∀b∈fp,H' b=none)/\ar ys its/\W i n ys σ' H') ?_ m0 ?_
  ·rintro n s' ⟨i,σ',H',ys,its,k,I',st',fr',rv,w'⟩
   have hD':=I'.pin _ (List.mem_append_right _ List.mem_cons_self)
   rcases turn i n ys σ' H' w' with ⟨stop,hz,qf⟩ | ⟨go,hz,Nx,hN,step⟩
   ·refine thn (T.done (aO X scope N C s2 H2 fp) rfl rfl rfl hc i _ s' σ' H' _ I' (stat fr' (by simp)) st' stop) fun r s5 ⟨hr,I5⟩=>?_
    subst hr
    have hD5:=I5.pin _ (List.mem_append_right _ List.mem_cons_self)
    obtain⟨m5,hn5,_⟩:=I5.loc
    refine hRR D C s5 m5 ys H' hn5 I5.os hDC (I2.fpOk (by omega) (by rw [au (Ne.symm hDC)];exact I5.free)) (fun h' hs'=>?_) hD5.2.1 qf
    exact lW I2 f2 I5 (by omega) (by omega) hDC hD5.2.1 hD5.1 rv hz fun b o hb e=>hs'.extBut b o hb e
   ·refine thn (T.item (aO X scope N C s2 H2 fp) rfl rfl rfl hc i _ s' σ' H' _ I' (stat fr' (by simp)) st' go) fun r s5 ⟨u,hr,h5⟩=>?_
    subst hr
    refine thn h5 fun _ s6 ⟨x,H6,I6,r6,y6,st6,fr6⟩=>?_
    have I6':=I6.pinned (stat fr6 (by simp)) (T.obj _ _ st6)
    refine thn (hg C s2 H2 fp _ s6 σ' H6 x u _ I6' r6 (step x H6 y6)) fun _ s7 ⟨σ7,H7,I7,q7⟩=>?_
    refine thn (ht C s2 H2 fp _ s7 σ7 H7 _ I7 q7) fun ok s8 ⟨H8,I8,q8⟩=>?_
    have back:∀{H9:Hp}{s9:Shared},Inv (aO X scope N C s2 H2 fp) ([(D,{ cls:=.type "list",data:=.seq its.toArray k })]++fm fp s6.heap) σ7 H9 s9->tn (i + 1) s9.heap/\∀b∈fp,H9 b=none:=fun {H9 s9} I9=>by
     refine⟨T.keep _ _ _ st6 fun b hb o e=>(I9.pin (b,o) (List.mem_append_right _ (List.mem_append_right _ (fb hb e)))).1,fun b hb=>?_⟩
     obtain⟨o,e,d⟩:=T.obj _ _ st6 b hb
     exact (I9.pin (b,o) (List.mem_append_right _ (List.mem_append_right _ (fb hb e)))).2.1
    cases ok with
    | false =>
     rw [if_neg Bool.false_ne_true] at q8 ⊢
     obtain⟨m',hm,w8⟩:=hN _ _ _ q8
     obtain⟨st8,fr8⟩:=back I8
     exact⟨m',hm,i + 1,σ7,H8,ys,its,k,I8.unpinned,st8,fr8,rv,w8⟩
    | true =>
     rw [if_pos rfl] at q8 ⊢
     refine thn (he C s2 H2 fp _ s8 σ7 H8 _ I8 q8) fun y s9 ⟨v,H9,I9,r9,q9⟩=>?_
     have hD9:=I9.pin _ (List.mem_append_right _ (List.mem_append_left _ List.mem_cons_self))
     obtain⟨st9,fr9⟩:=back I9
     refine wpAny_list_append_plain (hsz:=by have:=rv.length;rw [List.size_toArray];omega) ⟨k,hD9.1⟩ fun h' hl' hs'=>?_
     obtain⟨m',hm,w9⟩:=hN _ _ _ q9
     obtain⟨k',ho'⟩:=hl'
     have I10:Inv (aO X scope N C s2 H2 fp) [] σ7 H9 { s9 with heap:=h' }:=(I9.pins_of (pins':=[]) fun p hp=>absurd hp (by simp)).turned (t':=s9.toks) (it:=D) (fun b o hb e=>hs'.extBut b o hb e) hD9.2.1 hDC (.inr (by show s2.heap.objs.size<=D;omega)) cellD (fun p hp=>absurd hp (by simp [aO]))
     refine⟨m',hm,i + 1,σ7,H9,ys++[v],its++[y],k',pinD I10 (by rw [ho'];simp) hD9.2.1 (fun v z=>by cases z),?_,fr9,rv.append (.cons r9 .nil),w9⟩
     exact T.keep _ _ _ st9 fun b hb o e=>hs'.extBut b o (nq2 b hb).2 e
  ·obtain⟨n,e⟩:=oD
   exact⟨0,emb ix σ,H2,[],[],n,pinD I4 e (I2.hok.fresh (by omega)) (fun v z=>by cases z),st4,fun b hb=>(f2 b hb).1,.nil,w0⟩
 have q:=loop _ rfl
 exact codeAny_compStart_list q (T.self _ 0 _ _ _ st4 q)
end
theorem jL {ss:List Str}:∀{us:List Value},ar (ss.map V.str) us->StrsAre us ss:=by
 induction ss with
 | nil=>intro us r;rw [List.map_nil] at r;cases r;exact .nil
 | cons n ns ih =>
  intro us r
  rw [List.map_cons] at r
  cases r with
  | cons r1 r2 =>
   obtain⟨t,e⟩:=r1
   subst e
   exact .cons n t (ih r2)
theorem jX:∀{vs:List Value}{ss:List Str},StrsAre vs ss->ar (ss.map V.str) vs
 | _,_,.nil=>.nil
 | _,_,.cons n t h=>.cons ⟨t,rfl⟩ (jX h)
section
variable {X:Cx}
variable {scope:Scope}{N:List Str}{ix:List (Option Nat)}{tg iter elt:Expr}{ifs:List Expr}{pos:Pos}{g:TG}{tt:TT}{te:TE}{wi:TI}
theorem bC (L:bQ X scope N ix) (hc:X.calm=true) (hi:PI X tg iter wi) (hg:∀C s0 H0 fp,PG (aO X scope N C s0 H0 fp) tg g) (ht:∀C s0 H0 fp,PTs (aO X scope N C s0 H0 fp) ifs tt) (he:∀C s0 H0 fp,PE (aO X scope N C s0 H0 fp) elt te)
  (hs:∀x,foldedSetIterable iter X.env x=pure x:=by intro _;rfl):PE X (.ListComp elt [⟨tg,iter,ifs,0⟩] scope pos) (tLc wi g tt te ix):=by
 intro pins s σ H Q I h
 rw [eval_ListComp]
 refine wpAny_comprehension_free (use:=none) rfl hs (L.clos I.ok) L.kind L.locals (thn (hi pins s σ H _ I h) fun v s1 h1=>thn h1 fun itv s2 h2=>?_)
 obtain⟨it,fp,tn,J,H2,rfl,I2,T,st2,f2,hW⟩:=h2
 refine mD (RR:=fun acc C=>compPost (model X.prog X.w) X.A X.xe none (EP X pins σ Q) acc C) L hc hg ht he I2 T st2 f2 hW ?_
 intro D C s' m ys H' hn ho hDC hC hI hD fin
 exact⟨m,hn,fun h' hs'=>⟨.ref D,_,hI h' hs',rfl,fin D hD⟩⟩
noncomputable def sQ (i:Nat) (wi:TI) (g:TG) (tt:TT) (te:TE) (ix:List (Option Nat)):TS:=fun D σ H=>wi σ H fun J H1=>LcW J g tt te (emb ix σ) (fun ys H'=>∀p,H' p=none->D.nx (σ.set i (some (.ref p))) (upd H' p (.lst ys))) H1
theorem gB {i:Nat}{y:Str}{py spos:Pos} (hN:X.N.Nodup) (hi':X.N[i]?=some y) (hx:Loc X.env.scope y) (L:bQ X scope N ix) (hc:X.calm=true) (hi:PI X tg iter wi) (hg:∀C s0 H0 fp,PG (aO X scope N C s0 H0 fp) tg g)
  (ht:∀C s0 H0 fp,PTs (aO X scope N C s0 H0 fp) ifs tt) (he:∀C s0 H0 fp,PE (aO X scope N C s0 H0 fp) elt te)
  (hsw:swapsWith (.ListComp elt [⟨tg,iter,ifs,0⟩] scope pos) (some (.Name y py)) spos.line X.env=pure true:=by rfl) (hs:∀x,foldedSetIterable iter X.env x=pure x:=by intro _;rfl)
  (hf:X.fn y=true\/X.env.scope.names.lookup y=some .local:=by first | exact .inl rfl | exact .inr rfl | assumption) :
  PS X (.Assign [.Name y py] (.ListComp elt [⟨tg,iter,ifs,0⟩] scope pos) spos) (sQ i wi g tt te ix):=by
 intro pins s σ H D I h
 rw [exec_Assign_Name_used _ _ _ _ hsw]
 refine wpAny_bind (wpAny_standAt (wpAny_bind ?_))
 show wpAny _ X.A (do let _ <- comprehension (.ListComp elt [⟨tg,iter,ifs,0⟩] scope pos) scope X.env _ (newList []) false (eval iter X.env) (some (assign (.Name y py) X.env))) _ _ s
 refine wpAny_bind (thn (wpAny_comprehension_free (use:=some (assign (.Name y py) X.env)) (Q:=fun _ s'=>SP X pins D .next s') rfl hs (L.clos I.ok) L.kind L.locals
  (thn (hi pins s σ H _ I h) fun v s1 h1=>thn h1 fun itv s2 h2=>?_)) fun _ s' hq=>wpAny_pure (wpAny_pure hq))
 obtain⟨it,fp,tn,J,H2,rfl,I2,T,st2,f2,hW⟩:=h2
 refine mD (RR:=fun acc C=>compPost (model X.prog X.w) X.A X.xe (some (assign (.Name y py) X.env)) (fun _ s'=>SP X pins D .next s') acc C) L hc hg ht he I2 T st2 f2 hW ?_
 intro Da C s' m ys H' hn ho hDC hC hI hD fin
 have I':=hI s'.heap (Heap.SameBut.refl _ _)
 show wpAny _ X.A (assign (.Name y py) X.env (.ref Da)) _ _ s'
 refine wpAny_assign_Name (kj (v:=.ref Da) I' hN hi' hx rfl (fun s'' I'' ch=>?_) hf)
 obtain⟨a,hsa,hwa⟩:=ch
 obtain⟨c1,c2,c3,c4,c5,c6⟩:=hC
 have hCa:C≠a:=by
  rcases hwa with z | z
  ·rw [z];exact c2
  ·exact fun w=>c5 y a z w.symm
 refine⟨m,hn.sameBut hsa hCa,fun h' hs'=>⟨_,_,I''.turned (t':=s''.toks) (it:=C) (fun b o hb e=>hs'.extBut b o hb e) c1 c2 c4 c5 c6,fin Da hD⟩⟩
end
mutual
inductive DV (H:Hp):V->PyData->Prop
 | non:DV H .non .none
 | bl (b:Bool):DV H (.bl b) (.bool b)
 | int (i:Int):DV H (.int i) (.int i)
 | str (x:Str):DV H (.str x) (.str x)
 | tup {a:Addr}{xs:List V}{ds:List PyData}:H a=some (.tup xs)->DVs H xs ds->DV H (.ref a) (.tuple ds)
 | lst {a:Addr}{xs:List V}{ds:List PyData}:H a=some (.lst xs)->DVs H xs ds->DV H (.ref a) (.list ds)
inductive DVs (H:Hp):List V->List PyData->Prop
 | nil:DVs H [] []
 | cons {x:V}{d:PyData}{xs:List V}{ds:List PyData}:DV H x d->DVs H xs ds->DVs H (x::xs) (d::ds)
end
section
variable {P:Program}{w:World}{H:Hp}{h:Heap}
mutual
theorem DV.reads (ok:HOk P w H h):∀{x:V}{d:PyData}{u:Value},DV H x d->RelV x u->∃as,Reads h u d as
 | _,_,u,.non,r=>by cases (show u=Value.none from r);exact⟨_,Reads.none⟩
 | _,_,u,.bl b,r=>by cases (show u=Value.bool b from r);exact⟨_,Reads.bool b⟩
 | _,_,u,.int i,r=>by obtain⟨t,e⟩:=(show ∃t,u=Value.int i t from r);cases e;exact⟨_,Reads.int i t⟩
 | _,_,u,.str x,r=>by obtain⟨t,e⟩:=(show ∃t,u=Value.str x t from r);cases e;exact⟨_,Reads.str x t⟩
 | _,_,u,.tup (a:=a) (xs:=xs) e q,r=>by
  cases (show u=Value.ref a from r)
  obtain⟨_,its,rv,o,ho,hc,n,hd⟩:=(show aX P w H h a (.tup xs) from ok a _ e)
  obtain⟨as,z⟩:=DVs.reads ok q rv
  exact⟨as,Reads.tuple ho hc hd (by simpa using z)⟩
 | _,_,u,.lst (a:=a) (xs:=xs) e q,r=>by
  cases (show u=Value.ref a from r)
  obtain⟨_,its,n,rv,ho⟩:=(show aX P w H h a (.lst xs) from ok a _ e)
  obtain⟨as,z⟩:=DVs.reads ok q rv
  exact⟨_,Reads.list ho rfl rfl (by simpa using z)⟩
theorem DVs.reads (ok:HOk P w H h):∀{xs:List V}{ds:List PyData}{us:List Value},DVs H xs ds->ar xs us->∃as,ReadsAll h us ds as
 | _,_,_,.nil,.nil=>⟨_,ReadsAll.nil⟩
 | _,_,_,.cons a b,.cons r rs=>by
  obtain⟨as,p⟩:=DV.reads ok a r
  obtain⟨bs,q⟩:=DVs.reads ok b rs
  exact⟨_,ReadsAll.cons p q⟩
end
end
theorem DVs.strs {H:Hp}:∀ss:List Str,DVs H (ss.map V.str) (ss.map PyData.str)
 | []=>.nil
 | x::r=>.cons (.str x) (DVs.strs r)
section
variable {X:Cx}
open SeqAt in
theorem mB {k:Nat} (hr:aK k X.A):OpR X (compareOp .Eq) (fun x y H Q=>∃d e,DV H x d/\DV H y e/\shaped d=true/\shaped e=true/\Q (.bl (PyData.eqv d e)) H):=by
 intro pins s σ H x y v u Q I rx ry h
 obtain⟨d,e,dx,dy,sd,se,q⟩:=h
 obtain⟨as,r1⟩:=dx.reads I.hok rx
 obtain⟨bs,r2⟩:=dy.reads I.hok ry
 exact eq_dataH r1 r2 sd se hr.units ⟨.bl (PyData.eqv d e),H,I,rfl,q⟩
open SeqAt in
theorem eW {k:Nat} (hr:aK k X.A):OpR X (compareOp .NotEq) (fun x y H Q=>∃d e,DV H x d/\DV H y e/\shaped d=true/\shaped e=true/\Q (.bl (!PyData.eqv d e)) H):=by
 intro pins s σ H x y v u Q I rx ry h
 obtain⟨d,e,dx,dy,sd,se,q⟩:=h
 obtain⟨as,r1⟩:=dx.reads I.hok rx
 obtain⟨bs,r2⟩:=dy.reads I.hok ry
 exact ne_dataH r1 r2 sd se hr.units ⟨.bl (!PyData.eqv d e),H,I,rfl,q⟩
theorem pD (bs:List Bool):((List.range bs.length).all fun i=>(bs[i]?).getD true)=bs.all id:=by
 rw [Bool.eq_iff_iff,List.all_eq_true,List.all_eq_true]
 constructor
 ·intro h b hb
  obtain⟨i,hi,e⟩:=List.mem_iff_getElem.mp hb
  have:=h i (List.mem_range.mpr hi)
  rw [List.getElem?_eq_getElem hi,e] at this
  simpa using this
 ·intro h i hi
  have hi:=List.mem_range.mp hi
  rw [List.getElem?_eq_getElem hi]
  simpa using h _ (List.getElem_mem hi)
theorem eB (hc:X.calm=true):cf X (.builtin "all") (fun xs H Q=>∃(p:Addr) (bs:List Bool),xs=[.ref p]/\SqL X.K H p (bs.map V.bl)/\Q (.bl (bs.all id)) H):=by
 intro pins s σ H xs us Q I r h
 obtain⟨p,bs,rfl,hq,q⟩:=h
 obtain⟨u,rfl,rx⟩:=vals1 r
 cases rx
 obtain⟨its,r',pl,hz⟩:=I.list hq
 have hlt:p < s.heap.objs.size:=by obtain⟨o,n,e,_⟩:=pl;exact Heap.lt_size e
 have hlen:=r'.length
 rw [List.length_map] at hlen
 refine call_all_walk (wpAny_pyIter_list pl.isList ?_)
 refine⟨s.heap.objs.size,[s.heap.objs.size,p],[s.heap.objs.size],its.toArray.size,_,_,fun i=>(bs[i]?).getD true,rfl,Walks.list (A:=X.A.in1) (I.ok.hd hc) _ p (Nat.ne_of_lt hlt) its.toArray,
  ⟨⟨_,Heap.get?_push_size _ rfl,rfl,rfl⟩,pl.isList.push _⟩,fun i v s' Q' E' hP hQ=>?_,fun h' tk hk=>?_⟩
 ·have hP':its[i]?=some v:=by simpa using hP
  have hb:∃b,bs[i]?=some b/\v=Value.bool b:=by
   have hi:i < bs.length:=by rw [hlen];exact (List.getElem?_eq_some_iff.mp hP').1
   have e1:(bs.map V.bl)[i]?=some (V.bl bs[i]):=by rw [List.getElem?_map,List.getElem?_eq_getElem hi];rfl
   obtain⟨w',e2,rw'⟩:=r'.get e1
   rw [hP'] at e2
   cases e2
   exact⟨bs[i],List.getElem?_eq_getElem hi,rw'⟩
  obtain⟨b,e,rfl⟩:=hb
  simp only [e,Option.getD_some] at hQ
  exact wpAny_truthy_bool hQ
 ·have e:((List.range its.toArray.size).all fun i=>(bs[i]?).getD true)=bs.all id:=by
   rw [List.size_toArray,<- hlen];exact pD bs
  rw [e]
  refine⟨.bl (bs.all id),H,I.kept (t':=tk) fun b x e=>hk b x (fun hm=>?_) (Heap.get?_push_of_some _ e),rfl,q⟩
  rw [List.mem_singleton.mp hm] at e
  exact Nat.lt_irrefl _ (Heap.lt_size e)
theorem cG {T:String}:cf X (.builtin "isinstance") (fun xs H Q=>∃x t b,xs=[x,.ty T]/\cS X.K H x t/\PySem.W.kitOne X.K t (.type T)=some b/\Q (.bl b) H):=by
 intro pins s σ H xs us Q I r h
 obtain⟨x,t,b,rfl,ty,e,q⟩:=h
 obtain⟨u,w',rfl,rx,ry⟩:=vals2 r
 cases (show w'=Value.type T from ry)
 exact qa I rx ty e fun tk=>⟨.bl b,H,I.tok tk,rfl,q⟩
theorem gu:OpR X (compareOp .LtE) (fun x y H Q=>∃i j,x=.str i/\y=.str j/\Q (.bl (!decide (j.cps.toList < i.cps.toList))) H):=by
 intro pins s σ H x y v u Q I rx ry h
 obtain⟨i,j,rfl,rfl,q⟩:=h
 obtain⟨t,rfl⟩:=rx
 obtain⟨t',rfl⟩:=ry
 exact PySem.P.le_str ⟨.bl (!decide (j.cps.toList < i.cps.toList)),H,I,rfl,q⟩
theorem rE:MtR X "str.join" (fun x xs H Q=>∃(z:Str) (p:Addr) (ss:List Str),x=.str z/\xs=[.ref p]/\SqL X.K H p (ss.map V.str)/\(ss.map (·.length)).sum + ss.length * z.length<=16777216/\Q (.str (Txt.join z ss)) H):=by
 intro pins s σ H x xs v us Q I rx rs h
 obtain⟨z,p,ss,rfl,rfl,hq,hz,q⟩:=h
 obtain⟨t,rfl⟩:=rx
 obtain⟨u,rfl,ru⟩:=vals1 rs
 cases ru
 obtain⟨its,r',pl,_⟩:=I.list hq
 exact join_list pl.isList (jL r') hz fun t' k=>⟨.str (Txt.join z ss),H,I.tok k,⟨_,rfl⟩,q⟩
theorem ie:cf X (.builtin "sorted") (fun xs H Q=>∃(p:Addr) (ss:List Str),xs=[.ref p]/\SqL X.K H p (ss.map V.str)/\ss.length < 64/\∀(ss':List Str) (q:Addr),ss'.Perm ss->sortedS ss'=true->H q=none->Q (.ref q) (upd H q (.lst (ss'.map V.str)))):=by
 intro pins s σ H xs us Q I r h
 obtain⟨p,ss,rfl,hq,h64,q⟩:=h
 obtain⟨u,rfl,rx⟩:=vals1 r
 cases rx
 obtain⟨its,r',pl,hz⟩:=I.list hq
 have hlen:=r'.length
 rw [List.length_map] at hlen
 refine sorted_strs pl.isList (jL r') (by omega) fun out ss' a1 a2 a3=>?_
 obtain⟨e,he⟩:=sortedAll_at s.heap its out
 have hv:ar (ss'.map V.str) out.toList:=jX a1
 have hfr:H (s.heap.objs.size + 1)=none:=I.hok.fresh (Nat.le_succ _)
 refine⟨.ref (s.heap.objs.size + 1),_,I.laid (t':=s.toks) (o:=.lst (ss'.map V.str)) (fun b o z=>sortedAll_old z) (Nat.le_succ _) ⟨?_,out.toList,e,hv,?_⟩,rfl,q ss' _ a2 a3 hfr⟩
 ·rw [List.length_map,a2.length_eq,sizeLine_eq];omega
 ·simpa [seqObj] using he
end
end L2
set_option maxHeartbeats 4000000
namespace L2
open PySem PySem.W PyProof.Rows
noncomputable abbrev gp (p:Array Nat) (i:Nat):Nat:=p.getD i 0
structure Ord (N:Nat) (lt:Nat->Nat->Bool):Prop where
 tr:∀i j k,lt i j=true->lt j k=true->lt i k=true
 irr:∀i,lt i i=false
 tot:∀i j,i < N->j < N->i≠j->lt i j=true\/lt j i=true
noncomputable def Pm (N:Nat) (p:Array Nat):Prop:=p.Perm (List.toArray (List.range N))
theorem Pm.size {N:Nat}{p:Array Nat} (h:Pm N p):p.size=N:=by
 have:=Array.Perm.size_eq h
 simpa using this
theorem gc {p:Array Nat}{i:Nat} (h:i < p.size):gp p i=p[i]:=by simp [gp,Array.getD,h]
theorem gA {p q:Array Nat}{i j:Nat} (h:p[i]?=q[j]?):gp p i=gp q j:=by simp [gp,Array.getD_eq_getD_getElem?,h]
theorem Pm.lt {N:Nat}{p:Array Nat} (h:Pm N p) {i:Nat} (hi:i < N):gp p i < N:=by
 have hs:i < p.size:=by rw [h.size];exact hi
 rw [gc hs]
 have hm:p[i]∈(List.toArray (List.range N)):=h.mem_iff.mp (Array.getElem_mem hs)
 simpa using hm
theorem Pm.nd {N:Nat}{p:Array Nat} (h:Pm N p):p.toList.Nodup:=by
 have hp:p.toList.Perm (List.range N):=by simpa using Array.perm_iff_toList_perm.mp h
 exact hp.nodup_iff.mpr List.nodup_range
theorem Pm.inj {N:Nat}{p:Array Nat} (h:Pm N p) {i j:Nat} (hi:i < N) (hj:j < N) (hij:i≠j):gp p i≠gp p j:=by
 have hsi:i < p.size:=by rw [h.size];exact hi
 have hsj:j < p.size:=by rw [h.size];exact hj
 rw [gc hsi,gc hsj]
 intro e
 have nd:=h.nd
 rcases Nat.lt_or_gt_of_ne hij with z | z
 ·exact List.pairwise_iff_getElem.mp nd i j (by simpa using hsi) (by simpa using hsj) z (by simpa using e)
 ·exact List.pairwise_iff_getElem.mp nd j i (by simpa using hsj) (by simpa using hsi) z (by simpa using e.symm)
section
variable {N:Nat}{lt:Nat->Nat->Bool}{cmp:Nat->Nat->(Bool->Shared->Prop)->Shared->Prop}{s:Shared}
noncomputable def Asc (lt:Nat->Nat->Bool) (p:Array Nat) (b:Nat):Prop:=∀i j,i < j->j < b->lt (gp p i) (gp p j)=true
noncomputable def Dsc (lt:Nat->Nat->Bool) (p:Array Nat) (b:Nat):Prop:=∀i j,i < j->j < b->lt (gp p j) (gp p i)=true
theorem Asc.more (O:Ord N lt) {p:Array Nat}{n:Nat} (h:Asc lt p n) (h1:1<=n) (e:lt (gp p (n - 1)) (gp p n)=true):Asc lt p (n + 1):=fun i j hij hj=>by
 by_cases q:j < n
 ·exact h i j hij q
 ·have:j=n:=by omega
  subst this
  by_cases z:i=j - 1
  ·rw [z];exact e
  ·exact O.tr _ _ _ (h i (j - 1) (by omega) (by omega)) e
theorem Dsc.more (O:Ord N lt) {p:Array Nat}{n:Nat} (h:Dsc lt p n) (h1:1<=n) (e:lt (gp p n) (gp p (n - 1))=true):Dsc lt p (n + 1):=fun i j hij hj=>by
 by_cases q:j < n
 ·exact h i j hij q
 ·have:j=n:=by omega
  subst this
  by_cases z:i=j - 1
  ·rw [z];exact e
  ·exact O.tr _ _ _ e (h i (j - 1) (by omega) (by omega))
theorem Ord.other (O:Ord N lt) {p:Array Nat} (hp:Pm N p) {i j:Nat} (hi:i < N) (hj:j < N) (hij:i≠j) (e:lt (gp p i) (gp p j)≠true):lt (gp p j) (gp p i)=true :=
 (O.tot _ _ (hp.lt hi) (hp.lt hj) (hp.inj hi hj hij)).resolve_left e
variable (O:Ord N lt) (hc:∀(i j:Nat) (C:Bool->Shared->Prop),i < N->j < N->i≠j->C (lt i j) s->cmp i j C s)
include O hc
theorem je {p:Array Nat} (hp:Pm N p) {Q:Nat->Shared->Prop}:∀(f n:Nat),1<=n->n + f<=N->Asc lt p n->(∀m,n<=m->m<=n + f->Asc lt p m->(m=n + f\/lt (gp p m) (gp p (m - 1))=true)->Q m s)->(kas_asc p f n).kasWp cmp Q s
 | 0,n,h1,hn,ha,k=>k n (Nat.le_refl _) (Nat.le_refl _) ha (.inl rfl)
 | f + 1,n,h1,hn,ha,k=>by
  unfold kas_asc
  refine hc _ _ _ (hp.lt (by omega)) (hp.lt (by omega)) (hp.inj (by omega) (by omega) (by omega)) ?_
  by_cases e:lt (gp p n) (gp p (n - 1))=true
  ·show KasT.kasWp cmp (if lt (gp p n) (gp p (n - 1))=true then _ else _) Q s
   rw [if_pos e]
   exact k n (Nat.le_refl _) (by omega) ha (.inr e)
  ·show KasT.kasWp cmp (if lt (gp p n) (gp p (n - 1))=true then _ else _) Q s
   rw [if_neg e]
   exact je hp f (n + 1) (by omega) (by omega) (ha.more O h1 (O.other hp (by omega) (by omega) (by omega) e)) fun m a b c d=>k m (by omega) (by omega) c (d.imp (fun z=>by omega) id)
theorem lu {p:Array Nat} (hp:Pm N p) {Q:Array Nat×Nat×Nat->Shared->Prop}:∀(f n:Nat),1<=n->n + f<=N->Dsc lt p n->(∀m,n<=m->m<=n + f->Dsc lt p m->Q (p,m,0) s)->(kas_desc f p n 0).kasWp cmp Q s
 | 0,n,h1,hn,ha,k=>k n (Nat.le_refl _) (Nat.le_refl _) ha
 | f + 1,n,h1,hn,ha,k=>by
  unfold kas_desc
  refine hc _ _ _ (hp.lt (by omega)) (hp.lt (by omega)) (hp.inj (by omega) (by omega) (by omega)) ?_
  by_cases e:lt (gp p n) (gp p (n - 1))=true
  ·show KasT.kasWp cmp (if lt (gp p n) (gp p (n - 1))=true then _ else _) Q s
   rw [if_pos e,if_neg (by omega)]
   exact lu hp f (n + 1) (by omega) (by omega) (ha.more O h1 e) fun m a b c=>k m (by omega) (by omega) c
  ·show KasT.kasWp cmp (if lt (gp p n) (gp p (n - 1))=true then _ else _) Q s
   rw [if_neg e]
   refine hc _ _ _ (hp.lt (by omega)) (hp.lt (by omega)) (hp.inj (by omega) (by omega) (by omega)) ?_
   have e2:=O.other hp (show n < N by omega) (show n - 1 < N by omega) (by omega) e
   show KasT.kasWp cmp (if lt (gp p (n - 1)) (gp p n)=true then _ else _) Q s
   rw [if_pos e2]
   exact k n (Nat.le_refl _) (by omega) ha
theorem sF {p:Array Nat} (hp:Pm N p) {m:Nat} (hm:m<=N) (h:Dsc lt p m):Pm N (kas_rev p 0 m)/\Asc lt (kas_rev p 0 m) m:=by
 have hz:m<=p.size:=by rw [hp.size];exact hm
 refine⟨(mirror_perm p 0 m _).trans hp,fun i j hij hj=>?_⟩
 have g:∀k,k < m->gp (kas_rev p 0 m) k=gp p (0 + m - 1 - k):=fun k hk=>gA (by
  unfold kas_rev
  rw [getElem?_mirror_all hz,if_pos ⟨Nat.zero_le _,hk⟩])
 rw [g i (by omega),g j hj]
 exact h _ _ (by omega) (by omega)
theorem qX {p:Array Nat} (hp:Pm N p) (h2:2<=N) {Q:Nat×Array Nat->Shared->Prop} (h0:∀m q,1<=m->m<=N->Pm N q->Asc lt q m->Q (m,q) s):(kas_count N p).kasWp cmp Q s:=by
 unfold kas_count
 rw [KasT.kasWp_bind]
 refine je O hc hp (N - 1) 1 (Nat.le_refl _) (by omega) (fun i j a b=>by omega) fun m a b c d=>?_
 by_cases e:(m == N)=true
 ·rw [if_pos e]
  exact h0 m p a (by omega) hp c
 ·rw [if_neg e]
  have hm:m≠N:=fun z=>e (beq_iff_eq.mpr z)
  by_cases e1:m > 1
  ·rw [if_pos e1]
   refine hc _ _ _ (hp.lt (by omega)) (hp.lt (by omega)) (hp.inj (by omega) (by omega) (by omega)) ?_
   show KasT.kasWp cmp (if lt (gp p 0) (gp p (m - 1))=true then _ else _) Q s
   rw [if_pos (c 0 (m - 1) (by omega) (by omega))]
   exact h0 m p a (by omega) hp c
  ·rw [if_neg e1]
   have:m=1:=by omega
   subst this
   have e2:lt (gp p 1) (gp p (1 - 1))=true:=d.resolve_left (by omega)
   unfold kas_descPart
   rw [KasT.kasWp_bind]
   refine lu O hc hp (N - (1 + 1)) (1 + 1) (by omega) (by omega) (fun i j x y=>by
    have:i=0:=by omega
    have:j=1:=by omega
    subst i j
    exact e2) fun m' a' b' c'=>?_
   show KasT.kasWp cmp (if (0:Nat) > 0 then _ else _) Q s
   rw [if_neg (by omega)]
   show KasT.kasWp cmp (kas_tail3 m' N p) Q s
   unfold kas_tail3
   rw [KasT.kasWp_bind]
   obtain⟨r1,r2⟩:=sF O hc hp (show m'<=N by omega) c'
   exact je O hc r1 (N - m') m' (by omega) (by omega) r2 fun m'' x y z w=>h0 m'' _ (by omega) (by omega) r1 z
theorem iC {p:Array Nat} (hp:Pm N p) {k:Nat} (hk:k < N) (ha:Asc lt p k) {Q:Nat->Shared->Prop}:∀(f l r:Nat),l<=r->r<=k->r - l<=f->(∀i,i < l->lt (gp p i) (gp p k)=true)->(∀i,r<=i->i < k->lt (gp p k) (gp p i)=true) ->
  (∀l,l<=k->(∀i,i < l->lt (gp p i) (gp p k)=true)->(∀i,l<=i->i < k->lt (gp p k) (gp p i)=true)->Q l s)->(kas_place p k f l r).kasWp cmp Q s
 | 0,l,r,h1,h2,h3,hl,hr,q=>by
  have:l=r:=by omega
  subst this
  exact q l h2 hl hr
 | f + 1,l,r,h1,h2,h3,hl,hr,q=>by
  unfold kas_place
  by_cases e:l ≥ r
  ·rw [if_pos e]
   have:l=r:=by omega
   subst this
   exact q l h2 hl hr
  ·rw [if_neg e]
   refine hc _ _ _ (hp.lt hk) (hp.lt (by omega)) (hp.inj hk (by omega) (by omega)) ?_
   by_cases c:lt (gp p k) (gp p ((l + r) / 2))=true
   ·show KasT.kasWp cmp (if lt (gp p k) (gp p ((l + r) / 2))=true then _ else _) Q s
    rw [if_pos c]
    refine iC hp hk ha f l ((l + r) / 2) (by omega) (by omega) (by omega) hl (fun i a b=>?_) q
    by_cases z:i=(l + r) / 2
    ·rw [z];exact c
    ·exact O.tr _ _ _ c (ha _ _ (by omega) b)
   ·show KasT.kasWp cmp (if lt (gp p k) (gp p ((l + r) / 2))=true then _ else _) Q s
    rw [if_neg c]
    have c':=O.other hp hk (show (l + r) / 2 < N by omega) (by omega) c
    refine iC hp hk ha f ((l + r) / 2 + 1) r (by omega) h2 (by omega) (fun i a=>?_) hr q
    by_cases z:i=(l + r) / 2
    ·rw [z];exact c'
    ·exact O.tr _ _ _ (ha i ((l + r) / 2) (by omega) (by omega)) c'
theorem lX {Q:Array Nat->Shared->Prop} (h0:∀q,Pm N q->Asc lt q N->Q q s):∀(f:Nat) (p:Array Nat) (k:Nat),k + f=N->Pm N p->Asc lt p k->(kas_bin f p k).kasWp cmp Q s
 | 0,p,k,hk,hp,ha=>h0 p hp (by rw [<- hk];exact ha)
 | f + 1,p,k,hk,hp,ha=>by
  unfold kas_bin
  rw [KasT.kasWp_bind]
  refine iC O hc hp (show k < N by omega) ha k 0 k (by omega) (Nat.le_refl _) (by omega) (fun i z=>by omega) (fun i a b=>by omega) fun l hl h1 h2=>?_
  refine lX h0 f _ (k + 1) (by omega) ((bubble_perm p k _).trans hp) fun i j hij hj=>?_
  have hs:k < p.size:=by rw [hp.size];omega
  have g:∀i,gp (bubble p k (k - l)) i=if i=l then gp p k else if l < i/\i<=k then gp p (i - 1) else gp p i:=fun i=>by
   have e:=getElem?_bubble hs (k - l) (by omega) i
   have e1:k - (k - l)=l:=by omega
   rw [e1] at e
   by_cases z1:i=l
   ·rw [if_pos z1] at e ⊢;exact gA e
   ·rw [if_neg z1] at e ⊢
    by_cases z2:l < i/\i<=k
    ·rw [if_pos z2] at e ⊢;exact gA e
    ·rw [if_neg z2] at e ⊢;exact gA e
  rw [g i,g j]
  by_cases a1:i=l
  ·rw [if_pos a1,if_neg (by omega),if_pos (by omega)]
   exact h2 _ (by omega) (by omega)
  ·rw [if_neg a1]
   by_cases a2:l < i/\i<=k
   ·rw [if_pos a2,if_neg (by omega),if_pos (by omega)]
    exact ha _ _ (by omega) (by omega)
   ·rw [if_neg a2]
    by_cases b1:j=l
    ·rw [if_pos b1];exact h1 i (by omega)
    ·rw [if_neg b1]
     by_cases b2:l < j/\j<=k
     ·rw [if_pos b2]
      exact ha _ _ (by omega) (by omega)
     ·rw [if_neg b2]
      exact ha _ _ hij (by omega)
theorem rq (h2:2<=N) {Q:Array Nat->Shared->Prop} (h0:∀q,Pm N q->Asc lt q N->Q q s):(kas_sort N).kasWp cmp Q s:=by
 unfold kas_sort
 rw [KasT.kasWp_bind]
 refine qX O hc (Array.Perm.refl _) h2 fun m q a b hp ha=>?_
 show KasT.kasWp cmp (if m < N then _ else _) Q s
 by_cases e:m < N
 ·rw [if_pos e]
  have em:max m 1=m:=by omega
  show KasT.kasWp cmp (kas_bin (N - max m 1) q (max m 1)) Q s
  rw [em]
  exact lX O hc h0 (N - m) q m (by omega) hp ha
 ·rw [if_neg e]
  have:m=N:=by omega
  subst this
  exact h0 q hp ha
end
end L2
namespace L2
open PySem PySem.Spec PyProof.Rows PySem.W PySem.Calls
section
variable {prog:Program}{w:World}{A:Around}{E:Value->Shared->Prop}{s:Shared}
noncomputable def jg (prog:Program) (w:World) (A:Around) (vs:List Value) (lt:Nat->Nat->Bool) (s:Shared):Prop :=
 ∃κ:SortKind,(∀Q:SortKind->Shared->Prop,Q κ s->wpAny (model prog w) A (keyKind' vs.toArray) Q (fun _ _=>False) s) /\
  ∀(i j:Nat) (C:Bool->Shared->Prop),i < vs.length->j < vs.length->i≠j->C (lt i j) s->kas_ask prog w A κ vs i j C s
noncomputable def eZ (vs:List Value) (p:Array Nat):List Value:=p.toList.map fun i=>vs.getD i Value.none
theorem oZ {lt:Nat->Nat->Bool}{a:Addr}{vs:List Value}{n:Nat}{P:PySem.Fin->Shared->Prop} (ho:s.heap.get? a=some (seqObj "list" vs.toArray n)) (h64:vs.length < 64) (O:Ord vs.length lt)
  (hk:2<=vs.length->∀s':Shared,(∀b o,b≠a->s.heap.get? b=some o->s'.heap.get? b=some o)->jg prog w A vs lt s')
  (h:∀p,Pm vs.length p->Asc lt p vs.length->P (.done (.ret .none)) { s with heap:=sortedHeap s.heap a vs (eZ vs p).toArray }) :
  wpAny (model prog w) A (Builtin.«list.sort» ⟨[.ref a],[]⟩) P E s:=by
 rw [list_sort_plain]
 have hlt:a < s.heap.objs.size:=Heap.lt_size ho
 have hfit:vs.length<=sizeLine:=by rw [sizeLine_eq];omega
 refine wpAny_bind (listItems_at ho rfl (wpAny_bind (listUpdate_at ho rfl ?_ (by rw [List.size_toArray];exact hfit) (Nat.zero_le _))))
 obtain⟨e1,ho1⟩:∃e1,(s.heap.update a (Obj.mapSeq fun _=>(#[]:Array Value))).get? a=some (seqObj "list" #[] e1):=⟨_,get?_update_seq ho fun _=>#[]⟩
 refine wpAny_bind (seqEpoch_at ho1 rfl (wpAny_bind (wpAny_newTuple (wpAny_bind (wpAny_newList (wpAny_holding ?_) (Nat.zero_le _))) (by show vs.length<=_;exact hfit))))
 have ho2:(((s.heap.update a (Obj.mapSeq fun _=>(#[]:Array Value))).push (seqObj "tuple" vs.toArray 0)).push (seqObj "list" #[] 0)).get? a=some (seqObj "list" #[] e1):=Heap.get?_push_of_some _ (Heap.get?_push_of_some _ ho1)
 show wpAny (model prog w) A _ P E { s with heap:=((s.heap.update a (Obj.mapSeq fun _=>(#[]:Array Value))).push (seqObj "tuple" vs.toArray 0)).push (seqObj "list" #[] 0) }
 dsimp only
 by_cases h2:vs.toArray.size < 2
 ·rw [if_pos h2,if_pos h2]
  refine wpAny_bind (wpAny_pure ?_)
  rw [StateT.run_pure]
  refine wpAny_bind (wpAny_pure ?_)
  dsimp only
  have hz:((vs.toArray.zip vs.toArray).map (·.2))=(eZ vs (List.toArray (List.range vs.length))).toArray:=by
   unfold eZ
   apply Array.ext
   ·simp
   ·intro i h1 h2
    simp only [Array.size_map,Array.size_zip,List.size_toArray,Nat.min_self] at h1
    simp [h1]
  have es:vs.toArray.size=vs.length:=by simp
  refine wpAny_bind (seqEpoch_at ho2 rfl (wpAny_bind (listUpdate_at ho2 rfl ?_ (Nat.zero_le _) ?_)))
  ·simp only [bne_self_eq_false,Bool.false_eq_true,if_false]
   have q:=h (List.toArray (List.range vs.length)) (Array.Perm.refl _) (fun i j hij hj=>by omega)
   unfold sortedHeap at q
   rw [<- hz] at q
   exact wpAny_pure q
  ·show ((vs.toArray.zip vs.toArray).map (·.2)).size<=sizeLine + 1
   simp only [Array.size_map,Array.size_zip,List.size_toArray,Nat.min_self]
   omega
 ·have h2':2<=vs.length:=by rw [List.size_toArray] at h2;omega
  rw [if_neg h2,if_neg h2]
  obtain⟨κ,kd,ask⟩:=hk h2' { s with heap:=((s.heap.update a (Obj.mapSeq fun _=>(#[]:Array Value))).push (seqObj "tuple" vs.toArray 0)).push (seqObj "list" #[] 0) } fun b o hb e =>
   Heap.get?_push_of_some _ (Heap.get?_push_of_some _ (by rw [Heap.get?_update_ne _ _ _ _ hb];exact e))
  refine wpAny_bind (wpAny_mono (E:=fun _ _=>False) (Q:=fun k s'=>k=κ/\s'={ s with heap:=((s.heap.update a (Obj.mapSeq fun _=>(#[]:Array Value))).push (seqObj "tuple" vs.toArray 0)).push (seqObj "list" #[] 0) }) (kd _ ⟨rfl,rfl⟩) ?_ fun _ _ f=>f.elim)
  rintro k s' ⟨rfl,rfl⟩
  refine wpAny_bind (wpAny_mono (kat_run (ks:=vs) (G:=fun p s'=>(Pm vs.length p/\Asc lt p vs.length)/\s'={ s with heap:=((s.heap.update a (Obj.mapSeq fun _=>(#[]:Array Value))).push (seqObj "tuple" vs.toArray 0)).push (seqObj "list" #[] 0) })
   (Q:=fun st' s'=>∃p:Array Nat,arrOf st'=p.map (kas_item (vs.toArray.zip vs.toArray))/\failedOf st'=none/\(Pm vs.length p/\Asc lt p vs.length)/\s'={ s with heap:=((s.heap.update a (Obj.mapSeq fun _=>(#[]:Array Value))).push (seqObj "tuple" vs.toArray 0)).push (seqObj "list" #[] 0) })
   rfl h2' h64 (fun p st' s' _ a2 a3 a4=>⟨p,a2,a3,a4⟩) (rq O ask h2' fun q hq ha=>⟨⟨hq,ha⟩,rfl⟩)) ?_ fun _ _ e=>e)
  rintro⟨⟨⟩,st'⟩ s' ⟨p,har,hf,⟨hp,ha⟩,rfl⟩
  dsimp only
  rw [kat_snds rfl har]
  have hsz:(List.toArray (p.toList.map fun i=>vs.getD i Value.none)).size<=sizeLine + 1:=by
   rw [List.size_toArray,List.length_map,Array.length_toList,hp.size];omega
  refine wpAny_bind (seqEpoch_at ho2 rfl (wpAny_bind (listUpdate_at ho2 rfl ?_ (Nat.zero_le _) hsz)))
  rw [hf]
  simp only [bne_self_eq_false,Bool.false_eq_true,if_false]
  exact wpAny_pure (h p hp ha)
theorem oH {l:Addr}{o:Obj}{vs:List Value}{n:Nat}{T:String}{Q:List Value->Shared->Prop} (hT:T="list"\/T="tuple") (ho:s.heap.get? l=some o) (hc:o.cls=.type T) (hd:o.data=.seq vs.toArray n)
  (h:Q vs { s with heap:=(s.heap.push (seqObj "list" #[] 0)).update s.heap.objs.size (Obj.mapSeq (·++vs.toArray)) }) (hsz:vs.length<=sizeLine):wpAny (model prog w) A (collect (.ref l)) Q E s:=by
 rcases hT with rfl | rfl
 ·exact collect_list ⟨o,ho,hc,n,hd⟩ h hsz
 ·unfold collect
  refine wpAny_bind (wpAny_runValue (codeAny_builtin entry_proto_collect' ?_))
  show wpAny _ _ (do again (.builtin "list.__iadd__" ⟨[<- newList [],.ref l],[]⟩)) _ _ s
  refine wpAny_bind (wpAny_newList (wpAny_pure ⟨Code.quiet_builtin _ (by decide +kernel),codeAny_builtin entry_list_iadd' ?_⟩))
  show wpAny _ _ (Builtin.List.listExtendWith (.ref s.heap.objs.size) (.ref l) (.ref s.heap.objs.size)) _ _ { s with heap:=s.heap.push (seqObj "list" #[] 0) }
  unfold Builtin.List.listExtendWith
  have ho':(s.heap.push (seqObj "list" #[] 0)).get? l=some o:=Heap.get?_push_of_some _ ho
  refine wpAny_bind (wpAny_typeOf (T:="tuple") ⟨o,ho',hc⟩ ?_)
  rw [if_pos (by rw [show (Value.type "tuple" == Value.type "tuple")=true from rfl];simp)]
  refine wpAny_bind (listItems_at ho' hd (wpAny_bind (listItems_at (xs:=#[]) (n:=0) (Heap.get?_push_size _ rfl) rfl ?_)))
  rw [if_neg (by simp)]
  refine wpAny_bind (listUpdate_at (xs:=#[]) (n:=0) (Heap.get?_push_size _ rfl) rfl (wpAny_pure ?_) (Nat.zero_le _) (by show (#[]++vs.toArray).size<=sizeLine + 1;simp only [Array.size_append,List.size_toArray,List.length_nil];omega))
  show wpAny (model prog w) A (do
    let o <- load s.heap.objs.size
    match o.data with
    | .seq xs _=>pure xs.toList
    | _=>unsupported "internal:collect") Q E { s with heap:=(s.heap.push (seqObj "list" #[] 0)).update s.heap.objs.size (Obj.mapSeq (·++vs.toArray)) }
  refine wpAny_bind (wpAny_load (get?_update_seq (Heap.get?_push_size _ rfl) _) ?_)
  show wpAny _ _ (pure ((#[]:Array Value)++vs.toArray).toList) Q E _
  rw [show ((#[]:Array Value)++vs.toArray).toList=vs by simp]
  exact wpAny_pure h
theorem rW {lt:Nat->Nat->Bool}{l:Addr}{o:Obj}{vs:List Value}{n:Nat}{T:String}{Q:Value->Shared->Prop} (hT:T="list"\/T="tuple") (ho:s.heap.get? l=some o) (hc:o.cls=.type T) (hd:o.data=.seq vs.toArray n) (h64:vs.length < 64) (O:Ord vs.length lt)
  (hk:2<=vs.length->∀s':Shared,(∀b o,s.heap.get? b=some o->s'.heap.get? b=some o)->jg prog w A.in1.in1 vs lt s')
  (h:∀p,Pm vs.length p->Asc lt p vs.length->Q (.ref (s.heap.objs.size + 1)) { s with heap:=sortedAll s.heap vs (eZ vs p).toArray }):wpAny (model prog w) A (call (.builtin "sorted") [.ref l]) Q E s:=by
 refine Calls.call_function_entry kind_sorted plain_sorted entry_sorted (args_sorted1 _) ?_
 unfold Builtin.«sorted»
 refine wpAny_bind (m:=checkCount "sorted" 1 1 _) (wpAny_pure (wpAny_bind (oH hT ho hc hd (wpAny_bind (wpAny_newList ?_ (by rw [sizeLine_eq];omega))) (by rw [sizeLine_eq];omega))))
 have hsz:((s.heap.push (seqObj "list" #[] 0)).update s.heap.objs.size (Obj.mapSeq (·++vs.toArray))).objs.size=s.heap.objs.size + 1:=by rw [Heap.size_update,size_push']
 have hoL:(((s.heap.push (seqObj "list" #[] 0)).update s.heap.objs.size (Obj.mapSeq (·++vs.toArray))).push (seqObj "list" vs.toArray 0)).get? (s.heap.objs.size + 1)=some (seqObj "list" vs.toArray 0):=by
  rw [<- hsz]
  exact Heap.get?_push_size _ rfl
 show wpAny _ _ _ _ _ { s with heap:=((s.heap.push (seqObj "list" #[] 0)).update s.heap.objs.size (Obj.mapSeq (·++vs.toArray))).push (seqObj "list" vs.toArray 0) }
 rw [hsz]
 have kp:∀b o,s.heap.get? b=some o->(((s.heap.push (seqObj "list" #[] 0)).update s.heap.objs.size (Obj.mapSeq (·++vs.toArray))).push (seqObj "list" vs.toArray 0)).get? b=some o:=fun b ob e=>by
  have hb:=Heap.lt_size e
  refine Heap.get?_push_of_some _ ?_
  rw [Heap.get?_update_ne _ _ _ _ (Nat.ne_of_lt hb)]
  exact Heap.get?_push_of_some _ e
 refine wpAny_bind (wpAny_holding (wpAny_call_entry slot_list_sort ⟨_,hoL,rfl⟩ entry_list_sort (oZ hoL h64 O (fun z s' hs'=>hk z s' fun b ob e=>hs' b ob (by have:=Heap.lt_size e;exact Nat.ne_of_lt (Nat.lt_succ_of_lt this)) (kp b ob e)) fun p hp ha=>⟨_,rfl,?_⟩) (args_list_sort _)))
 exact wpAny_pure ⟨_,rfl,h p hp ha⟩
end
theorem jd {h:Heap}:∀{vs fs:List Value},KatTups h vs fs->∀(i:Nat),i < vs.length->∃a o xs n f,vs.getD i Value.none=.ref a/\h.get? a=some o/\o.data=.seq xs n/\xs[0]?=some f/\fs[i]?=some f
 | [],[],_,i,hi=>absurd hi (Nat.not_lt_zero _)
 | [],_::_,t,_,_=>t.elim
 | _::_,[],t,_,_=>t.elim
 | v::vs,f::fs,t,0,_=>by
  obtain⟨⟨a,o,xs,n,rfl,ho,hc,hd,hf⟩,_⟩:=t
  exact⟨a,o,xs,n,f,rfl,ho,hd,hf,rfl⟩
 | v::vs,f::fs,t,i + 1,hi=>by
  obtain⟨_,t⟩:=t
  obtain⟨a,o,xs,n,g,e1,e2,e3,e4,e5⟩:=jd t i (by simpa using hi)
  exact⟨a,o,xs,n,g,by simpa using e1,e2,e3,e4,by simpa using e5⟩
theorem i9:∀{fs:List Value}{ss:List Str},StrsAre fs ss->∀(i:Nat) (f:Value),fs[i]?=some f->∃t,f=.str (ss.getD i Str.empty) t/\i < ss.length
 | _,_,.nil,i,f,h=>by simp at h
 | _,_,.cons y t r,0,f,h=>by simp at h;exact⟨t,h.symm,by simp⟩
 | _,_,.cons y t r,i + 1,f,h=>by
  obtain⟨t',e1,e2⟩:=i9 r i f (by simpa using h)
  exact⟨t',by simpa using e1,by simpa using e2⟩
theorem tE {prog:Program}{w:World}{A:Around}{s:Shared}{vs fs:List Value}{ss:List Str} (t:KatTups s.heap vs fs) (hS:StrsAre fs ss) (hne:0 < fs.length) (hnd:ss.Nodup) :
  jg prog w A vs (fun i j=>decide ((ss.getD i Str.empty).cps.toList < (ss.getD j Str.empty).cps.toList)) s:=by
 refine⟨tuples' (Value.type "str" != Value.type "tuple"),fun Q q=>kat_kind (T:=Value.type "str") t hne (fun v hv=>?_) (by decide) q,fun i j C hi hj hij q=>?_⟩
 ·obtain⟨x,u,rfl⟩:=hS.all v hv
  exact Looks.now
 ·obtain⟨a,o,xs,n,f,e1,e2,e3,e4,e5⟩:=jd t i hi
  obtain⟨b,o',ys,n',g,g1,g2,g3,g4,g5⟩:=jd t j hj
  obtain⟨tf,rfl,hil⟩:=i9 hS i f e5
  obtain⟨tg,rfl,hjl⟩:=i9 hS j g g5
  unfold kas_ask
  rw [e1,g1]
  refine kat_lt e2 e3 g2 g3 ?_
  obtain⟨xr,hx⟩:∃xr,xs.toList=.str (ss.getD i Str.empty) tf::xr:=by
   cases hq:xs.toList with
   | nil=>rw [<- Array.getElem?_toList,hq] at e4;simp at e4
   | cons z zr=>rw [<- Array.getElem?_toList,hq] at e4;simp at e4;rw [e4];exact⟨zr,rfl⟩
  obtain⟨yr,hy⟩:∃yr,ys.toList=.str (ss.getD j Str.empty) tg::yr:=by
   cases hq:ys.toList with
   | nil=>rw [<- Array.getElem?_toList,hq] at g4;simp at g4
   | cons z zr=>rw [<- Array.getElem?_toList,hq] at g4;simp at g4;rw [g4];exact⟨zr,rfl⟩
  rw [hx,hy]
  have hnE:ss.getD i Str.empty≠ss.getD j Str.empty:=by
   rw [List.getD_eq_getElem?_getD,List.getD_eq_getElem?_getD,List.getElem?_eq_getElem hil,List.getElem?_eq_getElem hjl]
   intro z
   have z':ss[i]=ss[j]:=z
   rcases Nat.lt_or_gt_of_ne hij with y | y
   ·exact List.pairwise_iff_getElem.mp hnd i j hil hjl y z'
   ·exact List.pairwise_iff_getElem.mp hnd j i hjl hil y z'.symm
  show KatLex prog w A _ _ C ((Value.str (ss.getD i Str.empty) tf,Value.str (ss.getD j Str.empty) tg)::xr.zip yr) 0 s
  refine kat_cons (wpAny_eqBool_str ?_)
  rw [decide_eq_false hnE]
  refine kat_no ?_
  show wpAny _ A (oneLt' true _ _) C _ s
  exact strKind_oneLt prog w A _ s _ _ _ _ rfl rfl q
theorem lL {x y:Str} (h:x≠y):x.cps.toList < y.cps.toList\/y.cps.toList < x.cps.toList:=by
 by_cases c:x.cps.toList < y.cps.toList
 ·exact .inl c
 ·rcases List.le_iff_lt_or_eq.mp (List.not_lt.mp c) with z | z
  ·exact .inr z
  ·refine absurd ?_ h
   obtain⟨a⟩:=x
   obtain⟨b⟩:=y
   have e:b=a:=Array.toList_inj.mp z
   rw [e]
noncomputable def lV (H:Hp) (rs:List (Addr×Str)):Prop:=∀r∈rs,∃rest,H r.1=some (.tup (.str r.2::rest))
noncomputable abbrev refs (rs:List (Addr×Str)):List V:=rs.map fun r=>V.ref r.1
noncomputable def nlt (x y:Str):Prop:=x.cps.toList < y.cps.toList
theorem jP {P:Program}{w:World}{H:Hp}{h:Heap} (ok:HOk P w H h):∀{rs:List (Addr×Str)}{us:List Value},lV H rs->ar (refs rs) us->∃fs,KatTups h us fs/\StrsAre fs (rs.map (·.2))
 | [],us,_,r=>by cases r;exact⟨[],trivial,.nil⟩
 | x::rs,us,hr,r=>by
  cases r with
  | @cons _ u _ us' r1 r2 =>
   obtain⟨fs,t,q⟩:=jP ok (rs:=rs) (fun y hy=>hr y (List.mem_cons_of_mem _ hy)) r2
   obtain⟨rest,e⟩:=hr x List.mem_cons_self
   cases (show u=Value.ref x.1 from r1)
   obtain⟨_,its,rv,o,ho,hc,n,hd⟩:=(show aX P w H h x.1 (.tup (.str x.2::rest)) from ok x.1 _ e)
   cases rv with
   | @cons _ f _ its' rf _ =>
    obtain⟨tk,rfl⟩:=rf
    exact⟨.str x.2 tk::fs,KatTups.cons ho hc hd (by simp) t,.cons _ _ q⟩
theorem j8 {xs:List V}{us:List Value} (r:ar xs us):∀{ps:List Nat},(∀i∈ps,i < xs.length)->ar (ps.map fun i=>xs.getD i .non) (ps.map fun i=>us.getD i Value.none)
 | [],_=>.nil
 | i::ps,h=>by
  have hi:=h i List.mem_cons_self
  obtain⟨u,e,ru⟩:=r.get (List.getElem?_eq_getElem hi)
  refine .cons ?_ (j8 r fun j hj=>h j (List.mem_cons_of_mem _ hj))
  show RelV (xs.getD i .non) (us.getD i Value.none)
  rw [List.getD_eq_getElem?_getD,List.getD_eq_getElem?_getD,List.getElem?_eq_getElem hi,e]
  exact ru
theorem pN {α:Type} (d:α) (xs:List α) {p:Array Nat} (h:Pm xs.length p):(p.toList.map fun i=>xs.getD i d).Perm xs:=by
 have hp:p.toList.Perm (List.range xs.length):=by simpa using Array.perm_iff_toList_perm.mp h
 have e:(List.range xs.length).map (fun i=>xs.getD i d)=xs:=by
  apply List.ext_getElem
  ·simp
  ·intro i h1 h2
   simp [h2]
 exact (hp.map _).trans (by rw [e])
section
variable {X:Cx}
theorem oi:cf X (.builtin "sorted") (fun xs H Q=>∃(p:Addr) (rs:List (Addr×Str)),xs=[.ref p]/\(SqL X.K H p (refs rs)\/SqT X.K H p (refs rs))/\lV H rs/\rs.length < 64/\(rs.map (·.2)).Nodup /\
  ∀(rs':List (Addr×Str)) (q:Addr),rs'.Perm rs->(rs'.map (·.2)).Pairwise nlt->H q=none->Q (.ref q) (upd H q (.lst (refs rs')))):=by
 intro pins s σ H xs us Q I r h
 obtain⟨p,rs,rfl,hq,hR,h64,hnd,q⟩:=h
 obtain⟨u,rfl,rx⟩:=vals1 r
 cases rx
 have core:∀(T:String) (o:Obj) (its:List Value) (n:Nat),(T="list"\/T="tuple")->s.heap.get? p=some o->o.cls=.type T->o.data=.seq its.toArray n->ar (refs rs) its ->
   wpAny (model X.prog X.w) X.A (call (.builtin "sorted") [.ref p]) (EP X pins σ Q) X.xe s:=fun T o its n hT ho hc hd r'=>by
  have hl:=r'.length
  have hl':its.length=rs.length:=by rw [<- hl];simp
  have O:Ord its.length (fun i j=>decide (((rs.map (·.2)).getD i Str.empty).cps.toList < ((rs.map (·.2)).getD j Str.empty).cps.toList)):=by
   refine⟨fun i j k h1 h2=>?_,fun i=>?_,fun i j hi hj hij=>?_⟩
   ·exact decide_eq_true (List.lt_trans (of_decide_eq_true h1) (of_decide_eq_true h2))
   ·exact decide_eq_false (List.lt_irrefl _)
   ·have hil:i < (rs.map (·.2)).length:=by simpa [<- hl'] using hi
    have hjl:j < (rs.map (·.2)).length:=by simpa [<- hl'] using hj
    rw [List.getD_eq_getElem?_getD,List.getD_eq_getElem?_getD,List.getElem?_eq_getElem hil,List.getElem?_eq_getElem hjl]
    have ne:(rs.map (·.2))[i]≠(rs.map (·.2))[j]:=by
     rcases Nat.lt_or_gt_of_ne hij with y | y
     ·exact List.pairwise_iff_getElem.mp hnd i j hil hjl y
     ·exact fun z=>List.pairwise_iff_getElem.mp hnd j i hjl hil y z.symm
    exact (lL ne).imp decide_eq_true decide_eq_true
  refine rW hT ho hc hd (by omega) O (fun h2 s' hs'=>?_) fun pm hp ha=>?_
  ·obtain⟨fs,t,hS⟩:=jP (I.hok.kept hs') hR r'
   have hfl:0 < fs.length:=by
    have:=hS.length
    simp at this
    omega
   exact tE t hS hfl hnd
  ·obtain⟨e,he⟩:=sortedAll_at s.heap its (eZ its pm).toArray
   have hpm:Pm rs.length pm:=by rw [<- hl'];exact hp
   have hlt:∀i∈pm.toList,i < rs.length:=fun i hi=>by
    have:i∈(List.toArray (List.range rs.length)):=hpm.mem_iff.mp (by simpa using hi)
    simpa using this
   have hv:ar ((pm.toList.map fun i=>(refs rs).getD i .non)) (eZ its pm):=j8 r' fun i hi=>by simpa using hlt i hi
   have he2:(pm.toList.map fun i=>(refs rs).getD i .non)=refs (pm.toList.map fun i=>rs.getD i (0,Str.empty)):=by
    unfold refs
    rw [List.map_map]
    exact List.map_congr_left fun i hi=>by simp [hlt i hi]
   rw [he2] at hv
   have hfr:H (s.heap.objs.size + 1)=none:=I.hok.fresh (Nat.le_succ _)
   have hpe:=pN (0,Str.empty) rs hpm
   refine⟨.ref (s.heap.objs.size + 1),_,I.laid (t':=s.toks) (o:=.lst (refs (pm.toList.map fun i=>rs.getD i (0,Str.empty)))) (fun b o z=>sortedAll_old z) (Nat.le_succ _) ⟨?_,eZ its pm,e,hv,?_⟩,rfl,q _ _ hpe ?_ hfr⟩
   ·unfold refs
    rw [List.length_map,hpe.length_eq,sizeLine_eq];omega
   ·simpa [seqObj] using he
   ·rw [List.map_map,List.pairwise_map]
    refine List.pairwise_iff_getElem.mpr fun i j hi hj hij=>?_
    have hps:=hp.size
    have hi':i < pm.size:=by simpa using hi
    have hj':j < pm.size:=by simpa using hj
    have z:=of_decide_eq_true (ha i j hij (by omega))
    rw [gc hi',gc hj'] at z
    show ((rs.getD pm.toList[i] (0,Str.empty)).2).cps.toList < ((rs.getD pm.toList[j] (0,Str.empty)).2).cps.toList
    have b1:=hlt pm.toList[i] (List.getElem_mem _)
    have b2:=hlt pm.toList[j] (List.getElem_mem _)
    simp only [Array.getElem_toList] at b1 b2 ⊢
    simpa [b1,b2] using z
 rcases hq with hq | hq
 ·obtain⟨its,r',pl,hz⟩:=I.list hq
  obtain⟨o,ho,hc,n,hd⟩:=pl.isList
  exact core "list" o its n (.inl rfl) ho hc hd r'
 ·obtain⟨its,r',pl,hz⟩:=I.tuple hq
  obtain⟨o,ho,hc,n,hd⟩:=pl
  exact core "tuple" o its n (.inr rfl) ho hc hd r'
end
end L2
namespace L2
open PySem PySem.Spec PyProof.Rows
noncomputable def Its (x:Str):It:=⟨fun i _=>i < x.length,fun i H v H'=>H'=H/\∃c,x.cps[i]?=some c/\v=.str ⟨#[c]⟩,fun i _=>x.length<=i⟩
theorem qx {P:Program}{w:World}{K:PySem.W.Frag}{tg:Expr} (x:Str) (t:Tok) (it:Addr):Turn P w K tg (Its x) [it] it (fun i h=>h.IsStrIter it "str_ascii_iterator" x t i) where
 mem:=by simp
 obj:=fun i h st b hb=>by
  have e:b=it:=by simpa using hb
  subst e
  obtain⟨o,e,c,d⟩:=st
  exact⟨o,e,fun v z=>by rw [d] at z;cases z⟩
 keep:=fun i h h' st k=>by
  obtain⟨o,e,r⟩:=st
  exact⟨o,k it (by simp) o e,r⟩
 item:=by
  intro X hP hw hK hc i pins s σ H E I hf st hg
  subst hP hw hK
  have hg':i < x.cps.size:=hg
  obtain⟨f0,f1,f2,f3,f4,f5⟩:=hf it (by simp)
  refine wpAny_pyNext_ascii_item st (Array.getElem?_eq_getElem hg') fun h' st' sb=>?_
  have I1:Inv X pins σ H { s with heap:=h',toks:=s.toks + 1 }:=I.turned (fun b o hb e=>(sb.2 b hb).trans e) f0 f1 f3 f4 f5
  obtain⟨o,e,c,d⟩:=id st'
  exact⟨_,rfl,gg (s:={ s with heap:=h',toks:=s.toks + 1 }) e c d (by decide) ⟨.str ⟨#[x.cps[i]]⟩,H,I1,⟨_,rfl⟩,⟨rfl,_,Array.getElem?_eq_getElem hg',rfl⟩,st',fun b hb=>(hf b hb).1⟩⟩
 done:=by
  intro X hP hw hK hc i pins s σ H E I hf st hg
  subst hP hw hK
  have hg':x.cps.size<=i:=hg
  obtain⟨f0,f1,f2,f3,f4,f5⟩:=hf it (by simp)
  exact wpAny_pyNext_ascii_end (I.ok.hd hc) st (Array.getElem?_eq_none hg') fun h' eb=>⟨rfl,I.turned (t':=s.toks) (fun b o hb e=>eb b o hb e) f0 f1 f3 f4 f5⟩
 self:=fun A i s Q E st h=>wpAny_pyIter_striter_ascii st h
section
variable {X:Cx}{tg:Expr}
noncomputable def uz (tl:TE):TI:=fun σ H R=>tl σ H fun v H1=>∃x:Str,v=.str x/\x.cps.all (· < 128)=true/\R (Its x) H1
theorem mF {l:Expr}{tl:TE} (hl:PE X l tl):PI X tg l (uz tl):=by
 intro pins s σ H R I h
 refine thn (hl pins s σ H _ I h) fun v s1 ⟨x,H1,I1,r1,q1⟩=>?_
 obtain⟨y,rfl,ha,q⟩:=q1
 obtain⟨t,rfl⟩:=r1
 refine wpAny_pyIter_ascii ha ?_
 refine⟨s1.heap.objs.size,[s1.heap.objs.size],_,_,H1,rfl,I1.kept (t':=s1.toks) fun b o e=>Heap.get?_push_of_some _ e,qx y t _,⟨_,Heap.get?_push_size _ rfl,rfl,rfl⟩,fun b hb=>?_,q⟩
 have e:b=s1.heap.objs.size:=by simpa using hb
 subst e
 exact I1.fpOk (Nat.le_refl _) (I1.hok.fresh (Nat.le_refl _))
theorem pY {prog:Program}{w:World}{A:Around}{E:Value->Shared->Prop}{s:Shared}{t sl:Addr}{items:Array Value}{vl vu:Value}{lo hi:Option Int}{Q:Value->Shared->Prop} (ht:IsTup s.heap t items) (hs:s.heap.IsSliceOf sl vl vu .none) (pl:IsPart vl lo) (pu:IsPart vu hi)
  (h0:HT.sIx items.size 0 lo=0) (h1:HT.sIx items.size items.size hi=items.size) (h:Q (.ref t) s):wpAny (model prog w) A (getItem (.ref t) (.ref sl)) Q E s:=by
 obtain⟨os,hos,hcs,hds⟩:=id hs
 have hTs:s.TypeIs (.ref sl) "slice":=⟨os,hos,hcs⟩
 unfold getItem
 try with_reducible refine wpAny_holding ?_
 first | refine wpAny_bind (wpAny_pure ?_) | skip
 refine wpAny_bind (wpAny_sequenceKey ht.typeIs (by decide) (wpAny_bind (wpAny_callSpecial?_slot (name:=Str.ofString "__getitem__") ht.typeIs PyProof.Rows.slot_tuple_getitem
  (wpAny_call_entry PyProof.Rows.slot_tuple_getitem ht.typeIs entry_tuple_getitem ?_ (args_tuple_getitem _ _)))))
 show wpAny _ _ (Builtin.Tuple.tupleItemsOf (.ref t) >>= _) _ _ s
 refine wpAny_bind (tupleItemsOf_ ht (wpAny_bind (wpAny_typeOf hTs ?_)))
 rw [if_pos (by decide)]
 refine wpAny_bind (HT.nQ hs pl pu ?_)
 show wpAny _ _ (if (((HT.sIx items.size 0 lo:Nat):Int) == 0 && (1:Int) == 1 && (HT.sIx items.size items.size hi - HT.sIx items.size 0 lo) == items.size)=true then _ else _) _ _ s
 rw [h0,h1,if_pos (by simp)]
 refine wpAny_bind (wpAny_bind (wpAny_typeOf ht.typeIs (wpAny_pure ?_)))
 rw [if_pos (by rfl)]
 exact wpAny_bind (wpAny_rule (wpAny_pure ⟨_,rfl,wpAny_pure h⟩))
noncomputable def nJ (K:PySem.W.Frag):V->Option Int->Option Int->Hp->VK->Prop:=fun x lo hi H Q=>∃a xs,x=.ref a/\SqT K H a xs /\
 (dQ xs lo hi=xs->Q (.ref a) H)/\∀p,H p=none->Q (.ref p) (upd H p (.tup (dQ xs lo hi)))
theorem eE:SlR X (nJ X.K):=by
 intro pins s σ H x v vl vu lo hi sl Q I rx hs pl pu h
 obtain⟨a,xs,rfl,hx,q1,q2⟩:=h
 by_cases hw:HT.sIx xs.length 0 lo=0/\HT.sIx xs.length xs.length hi=xs.length
 ·cases rx
  obtain⟨its,r,ht,hz⟩:=I.tuple hx
  have hlen:its.toArray.size=xs.length:=by rw [List.size_toArray];exact r.length.symm
  refine⟨"tuple",_,PyProof.Rows.slot_tuple_getitem.lookup,ht.typeIs,pY ht hs pl pu (by rw [hlen];exact hw.1) (by rw [hlen];exact hw.2) ⟨.ref a,H,I,rfl,q1 ?_⟩⟩
  unfold dQ
  rw [hw.1,hw.2]
  simp
 ·exact tJ pins s σ H (.ref a) v vl vu lo hi sl Q I rx hs pl pu ⟨a,xs,rfl,hx,hw,q2⟩
noncomputable def jm (K:PySem.W.Frag):R2:=fun x y H Q=>∃a b xs ys,x=.ref a/\y=.ref b/\SqT K H a xs/\SqT K H b ys/\xs.length + ys.length<=sizeLine /\
 (xs=[]->Q (.ref b) H)/\(ys=[]->Q (.ref a) H)/\∀p,H p=none->Q (.ref p) (upd H p (.tup (xs++ys)))
theorem cD:OpR X (binaryOp .Add) (jm X.K):=by
 intro pins s σ H x y v u Q I rx ry h
 obtain⟨a,b,xs,ys,rfl,rfl,ha,hb,hz,q0,q1,q2⟩:=h
 by_cases hx:xs=[]
 ·subst hx
  cases rx
  cases ry
  obtain⟨its,r1,p1,_⟩:=I.tuple ha
  obtain⟨its2,r2,p2,_⟩:=I.tuple hb
  cases r1
  obtain⟨⟨cls,dd,data,sl⟩,ho,hc,n,hd⟩:=id p1
  obtain⟨⟨cls2,dd2,data2,sl2⟩,ho2,hc2,n2,hd2⟩:=id p2
  simp only at hc hd hc2 hd2
  subst hc hd hc2 hd2
  exact concat_meets ⟨_,ho,rfl⟩ ⟨_,ho2,rfl⟩ noFill_tuple_add seq_tuple_add PySem.F.slot_tuple_add PySem.F.entry_tuple_add (PySem.F.args_tuple_add_2 _ _)
   (tuple_addW0 a b _ its2.toArray n n2 dd dd2 sl sl2 (by simp)) ⟨ho,ho2,⟨.ref b,H,I,rfl,q0 rfl⟩⟩
 ·exact rT pins s σ H (.ref a) (.ref b) v u Q I rx ry ⟨a,b,xs,ys,rfl,rfl,ha,hb,hx,hz,q1,fun _=>q2⟩
noncomputable def uj (K:PySem.W.Frag) (te:TE) (tk:TO):TE:=fun σ H Q=>te σ H fun x H1=>tk σ H1 fun o H2=>o=some (-1)/\∃a xs,x=.ref a/\SqL K H2 a xs/\∀p,H2 p=none->Q (.ref p) (upd H2 p (.lst xs.reverse))
theorem sG {e st:Expr}{te:TE}{tk:TO}{p2 pos:Pos} (ops:Value->Value->List Value) (he:PE X e te) (hk:PO X (some st) tk) (hs:∀o i,subscripted (.Slice none none (some st) p2) false o i=operate (ops o i) (getItem o i)):PE X (.Subscript e (.Slice none none (some st) p2) pos) (uj X.K te tk):=by
 intro pins s σ H Q I h
 refine Subscript_ (thn (he pins s σ H _ I h) fun v s1 ⟨x,H1,I1,r1,q1⟩=>?_)
 refine wpAny_Slice ?_
 rw [evalPart_none]
 refine wpAny_pure (wpAny_pure (thn (hk pins s1 σ H1 _ I1 q1) fun vk s2 ⟨o,H2,I2,pk,q2⟩=>?_))
 obtain⟨rfl,a,xs,rfl,hx,q⟩:=q2
 cases r1
 have I4:Inv X pins σ H2 { s2 with heap:=s2.heap.push { cls:=.type "slice",data:=.fields #[.none,.none,vk] } }:=I2.kept (t':=s2.toks) fun b ob q=>Heap.get?_push_of_some _ q
 obtain⟨its,r,ht,hz⟩:=I4.list hx
 have hlen:=r.length
 show wpAny (model X.prog X.w) X.A (subscriptTail e (.Slice none none (some st) p2) (.ref a) (.ref s2.heap.objs.size)) (EP X pins σ Q) X.xe { s2 with heap:=s2.heap.push { cls:=.type "slice",data:=.fields #[.none,.none,vk] } }
 refine tail_any (ops:=ops _ _) ht.isList.typeIs slot_list_getitem.lookup ?_ (hs _ _)
 refine wpAny_getItem_list_slice ht.isList (Heap.IsSliceOf.new ..) .none .none pk (by simp) ?_ (by rw [List.size_toArray] <;> omega)
 rw [PySem.W.krv_pick]
 refine⟨.ref _,_,I4.laid (t':=s2.toks) (o:=.lst xs.reverse) (fun b ob q=>Heap.get?_push_of_some _ q) (Nat.le_refl _) ⟨by rw [List.length_reverse];exact hz,its.reverse,0,r.reverse,?_⟩,rfl,q _ (I4.hok.fresh (Nat.le_refl _))⟩
 exact Heap.get?_push_size _ rfl
end
section
variable {K:PySem.W.Frag}{g:TG}{tt:TT}{te:TE}{σ':St}{fin:List V->Hp->Prop}{H1:Hp}
theorem gJ {J:It}{n:Nat} (hn:n < sizeLine) (Pv:Nat->List V->St->Hp->Prop) (Yd:Nat->V->Prop) (h0:Pv 0 [] σ' H1) (hl:∀i ys σ H,i<=n->Pv i ys σ H->ys.length<=i)
  (hgo:∀i ys σ H,i < n->Pv i ys σ H->J.go i H) (hst:∀ys σ H,Pv n ys σ H->J.stop n H) (hy:∀i ys σ H x H',i < n->Pv i ys σ H->J.yld i H x H'->H'=H/\Yd i x)
  (hs:∀i x ys σ H,i < n->Yd i x->Pv i ys σ H->g x σ H fun σ2 H2=>tt σ2 H2 fun b H3=>if b=true then te σ2 H3 (fun v H4=>Pv (i + 1) (ys++[v]) σ2 H4) else Pv (i + 1) ys σ2 H3) (hd:∀ys σ H,Pv n ys σ H->fin ys H) :
  LcW J g tt te σ' fin H1:=by
 refine⟨fun i m ys σ H=>m=n - i/\i<=n/\Pv i ys σ H,⟨n,by simp,Nat.zero_le _,h0⟩,?_⟩
 rintro i m ys σ H ⟨rfl,hi,p⟩
 have hly:=hl i ys σ H hi p
 by_cases hlt:i < n
 ·refine .inr ⟨hgo i ys σ H hlt p,by omega,fun ys' σ2 H2=>Pv (i + 1) ys' σ2 H2,fun ys' σ2 H2 q=>⟨n - (i + 1),by omega,rfl,hlt,q⟩,fun x H' y=>?_⟩
  obtain⟨e,yd⟩:=hy i ys σ H x H' hlt p y
  subst e
  exact hs i x ys σ H' hlt yd p
 ·have e:i=n:=by omega
  subst e
  exact .inl ⟨hst ys σ H p,by omega,hd ys σ H p⟩
theorem iL {a:Addr}{xs:List V} (hn:xs.length < sizeLine) (Pv:Nat->List V->St->Hp->Prop) (h0:Pv 0 [] σ' H1) (hl:∀i ys σ H,i<=xs.length->Pv i ys σ H->ys.length<=i/\SqT K H a xs)
  (hs:∀i x ys σ H,xs[i]?=some x->Pv i ys σ H->g x σ H fun σ2 H2=>tt σ2 H2 fun b H3=>if b=true then te σ2 H3 (fun v H4=>Pv (i + 1) (ys++[v]) σ2 H4) else Pv (i + 1) ys σ2 H3) (hd:∀ys σ H,Pv xs.length ys σ H->fin ys H) :
  LcW (Itt K a) g tt te σ' fin H1 :=
 gJ hn Pv (fun i x=>xs[i]?=some x) h0 (fun i ys σ H hi p=>(hl i ys σ H hi p).1) (fun i ys σ H hi p=>⟨xs,xs[i],(hl i ys σ H (Nat.le_of_lt hi) p).2,by simp [hi]⟩) (fun ys σ H p=>⟨xs,(hl _ ys σ H (Nat.le_refl _) p).2,Nat.le_refl _⟩)
  (fun i ys σ H x H' hi p y=>⟨y.1,y.2 xs (hl i ys σ H (Nat.le_of_lt hi) p).2⟩) (fun i x ys σ H _ yd p=>hs i x ys σ H yd p) hd
theorem kA {a:Addr}{xs:List V} (hn:xs.length < sizeLine) (Pv:Nat->List V->St->Hp->Prop) (h0:Pv 0 [] σ' H1) (hl:∀i ys σ H,i<=xs.length->Pv i ys σ H->ys.length<=i/\SqL K H a xs)
  (hs:∀i x ys σ H,xs[i]?=some x->Pv i ys σ H->g x σ H fun σ2 H2=>tt σ2 H2 fun b H3=>if b=true then te σ2 H3 (fun v H4=>Pv (i + 1) (ys++[v]) σ2 H4) else Pv (i + 1) ys σ2 H3) (hd:∀ys σ H,Pv xs.length ys σ H->fin ys H) :
  LcW (Itl K a) g tt te σ' fin H1 :=
 gJ hn Pv (fun i x=>xs[i]?=some x) h0 (fun i ys σ H hi p=>(hl i ys σ H hi p).1) (fun i ys σ H hi p=>⟨xs,xs[i],(hl i ys σ H (Nat.le_of_lt hi) p).2,by simp [hi]⟩) (fun ys σ H p=>⟨xs,(hl _ ys σ H (Nat.le_refl _) p).2,Nat.le_refl _⟩)
  (fun i ys σ H x H' hi p y=>⟨y.1,y.2 xs (hl i ys σ H (Nat.le_of_lt hi) p).2⟩) (fun i x ys σ H _ yd p=>hs i x ys σ H yd p) hd
theorem qo {lo:Int}{n:Nat} (hn:n < sizeLine) (Pv:Nat->List V->St->Hp->Prop) (h0:Pv 0 [] σ' H1) (hl:∀i ys σ H,i<=n->Pv i ys σ H->ys.length<=i)
  (hs:∀i ys σ H,i < n->Pv i ys σ H->g (.int (lo + i)) σ H fun σ2 H2=>tt σ2 H2 fun b H3=>if b=true then te σ2 H3 (fun v H4=>Pv (i + 1) (ys++[v]) σ2 H4) else Pv (i + 1) ys σ2 H3) (hd:∀ys σ H,Pv n ys σ H->fin ys H) :
  LcW (Itr lo n) g tt te σ' fin H1 :=
 gJ hn Pv (fun i x=>x=.int (lo + i)) h0 hl (fun i ys σ H hi p=>hi) (fun ys σ H p=>Nat.le_refl _) (fun i ys σ H x H' hi p y=>y) (fun i x ys σ H hi yd p=>by subst yd;exact hs i ys σ H hi p) hd
theorem rO {x:Str} (hn:x.length < sizeLine) (Pv:Nat->List V->St->Hp->Prop) (h0:Pv 0 [] σ' H1) (hl:∀i ys σ H,i<=x.length->Pv i ys σ H->ys.length<=i)
  (hs:∀i c ys σ H,x.cps[i]?=some c->Pv i ys σ H->g (.str ⟨#[c]⟩) σ H fun σ2 H2=>tt σ2 H2 fun b H3=>if b=true then te σ2 H3 (fun v H4=>Pv (i + 1) (ys++[v]) σ2 H4) else Pv (i + 1) ys σ2 H3) (hd:∀ys σ H,Pv x.length ys σ H->fin ys H) :
  LcW (Its x) g tt te σ' fin H1 :=
 gJ hn Pv (fun i v=>∃c,x.cps[i]?=some c/\v=.str ⟨#[c]⟩) h0 hl (fun i ys σ H hi p=>hi) (fun ys σ H p=>Nat.le_refl _) (fun i ys σ H v H' hi p y=>y) (fun i v ys σ H hi yd p=>by obtain⟨c,e,rfl⟩:=yd;exact hs i c ys σ H e p) hd
end
section
variable {K:PySem.W.Frag}{tt:TT}{te:TE}{σ':St}{fin:List V->Hp->Prop}{H1:Hp}{j:Nat}
theorem fi {a:Addr}{xs:List V} (hn:xs.length < sizeLine) (Pv:Nat->List V->St->Hp->Prop) (h0:Pv 0 [] σ' H1) (hl:∀i ys σ H,i<=xs.length->Pv i ys σ H->ys.length<=i/\SqT K H a xs)
  (hs:∀i x ys σ H,xs[i]?=some x->Pv i ys σ H->te (σ.set j (some x)) H fun v H4=>Pv (i + 1) (ys++[v]) (σ.set j (some x)) H4) (hd:∀ys σ H,Pv xs.length ys σ H->fin ys H):LcW (Itt K a) (bV j) dB te σ' fin H1 :=
 iL hn Pv h0 hl (fun i x ys σ H hx p=>by unfold bV dB;exact aA (hs i x ys σ H hx p)) hd
theorem fJ {a:Addr}{xs:List V} (hn:xs.length < sizeLine) (Pv:Nat->List V->St->Hp->Prop) (h0:Pv 0 [] σ' H1) (hl:∀i ys σ H,i<=xs.length->Pv i ys σ H->ys.length<=i/\SqL K H a xs)
  (hs:∀i x ys σ H,xs[i]?=some x->Pv i ys σ H->te (σ.set j (some x)) H fun v H4=>Pv (i + 1) (ys++[v]) (σ.set j (some x)) H4) (hd:∀ys σ H,Pv xs.length ys σ H->fin ys H):LcW (Itl K a) (bV j) dB te σ' fin H1 :=
 kA hn Pv h0 hl (fun i x ys σ H hx p=>by unfold bV dB;exact aA (hs i x ys σ H hx p)) hd
theorem ij {lo:Int}{n:Nat} (hn:n < sizeLine) (Pv:Nat->List V->St->Hp->Prop) (h0:Pv 0 [] σ' H1) (hl:∀i ys σ H,i<=n->Pv i ys σ H->ys.length<=i)
  (hs:∀i ys σ H,i < n->Pv i ys σ H->te (σ.set j (some (.int (lo + i)))) H fun v H4=>Pv (i + 1) (ys++[v]) (σ.set j (some (.int (lo + i)))) H4) (hd:∀ys σ H,Pv n ys σ H->fin ys H):LcW (Itr lo n) (bV j) dB te σ' fin H1 :=
 qo hn Pv h0 hl (fun i ys σ H hx p=>by unfold bV dB;exact aA (hs i ys σ H hx p)) hd
theorem kC {x:Str} (hn:x.length < sizeLine) (Pv:Nat->List V->St->Hp->Prop) (h0:Pv 0 [] σ' H1) (hl:∀i ys σ H,i<=x.length->Pv i ys σ H->ys.length<=i)
  (hs:∀i c ys σ H,x.cps[i]?=some c->Pv i ys σ H->te (σ.set j (some (.str ⟨#[c]⟩))) H fun v H4=>Pv (i + 1) (ys++[v]) (σ.set j (some (.str ⟨#[c]⟩))) H4) (hd:∀ys σ H,Pv x.length ys σ H->fin ys H):LcW (Its x) (bV j) dB te σ' fin H1 :=
 rO hn Pv h0 hl (fun i c ys σ H hx p=>by unfold bV dB;exact aA (hs i c ys σ H hx p)) hd
theorem fP {a:Addr}{xs:List V} (hn:xs.length < sizeLine) (Pv:Nat->List V->St->Hp->Prop) (h0:Pv 0 [] σ' H1) (hl:∀i ys σ H,i<=xs.length->Pv i ys σ H->ys.length<=i/\SqT K H a xs)
  (hs:∀i x ys σ H,xs[i]?=some x->Pv i ys σ H->tt (σ.set j (some x)) H fun b H3=>if b=true then te (σ.set j (some x)) H3 (fun v H4=>Pv (i + 1) (ys++[v]) (σ.set j (some x)) H4) else Pv (i + 1) ys (σ.set j (some x)) H3)
  (hd:∀ys σ H,Pv xs.length ys σ H->fin ys H):LcW (Itt K a) (bV j) tt te σ' fin H1:=iL hn Pv h0 hl hs hd
theorem gv {a:Addr}{xs:List V} (hn:xs.length < sizeLine) (Pv:Nat->List V->St->Hp->Prop) (h0:Pv 0 [] σ' H1) (hl:∀i ys σ H,i<=xs.length->Pv i ys σ H->ys.length<=i/\SqL K H a xs)
  (hs:∀i x ys σ H,xs[i]?=some x->Pv i ys σ H->tt (σ.set j (some x)) H fun b H3=>if b=true then te (σ.set j (some x)) H3 (fun v H4=>Pv (i + 1) (ys++[v]) (σ.set j (some x)) H4) else Pv (i + 1) ys (σ.set j (some x)) H3)
  (hd:∀ys σ H,Pv xs.length ys σ H->fin ys H):LcW (Itl K a) (bV j) tt te σ' fin H1:=kA hn Pv h0 hl hs hd
end
section
variable {X:Cx}{pos:Pos}
end
section
variable {X:Cx}{pins:List (Addr×Obj)}{σ:St}{H:Hp}{s:Shared}{h':Heap}
theorem Inv.turnedS {t':Nat}{ch:List Addr} (I:Inv X pins σ H s) (k:∀b o,b∉ch->s.heap.get? b=some o->h'.get? b=some o) (hf:∀b∈ch,bR X pins H b):Inv X pins σ H { s with heap:=h',toks:=t' }:=by
 have nit:∀b u,H b=some u->b∉ch:=fun b u e z=>by rw [(hf b z).1] at e;cases e
 have hL:X.env.locals∉ch:=fun z=>(hf _ z).2.1 rfl
 refine I.step (g':=s.gens) (d':=s.drawn) (ch:=ch) (fun b hb=>⟨(hf b hb).2.2.2.1,(hf b hb).2.1,(hf b hb).2.2.2.2.1,(hf b hb).2.2.2.2.2⟩) (fun b o _ _ hc e _=>k b o hc e) (fun b o _ _ hc e _=>⟨o.slots,k b o hc e⟩) (fun _ _ _ _ n=>n)
  (fun b o hc e=>⟨o,k b o hc e⟩) (fun _ _ e=>e) (fun _ _ _ e=>e) (fun b ps e=>⟨#[],by rw [e];simp⟩) (fun m hm=>?_) (fun b u e=>?_) I.bare
 ·obtain⟨o,es,ep,ho,r⟩:=hm
  exact⟨o,es,ep,k _ o hL ho,r⟩
 ·refine (I.hok b u e).stay (fun c v hc q=>k c v ?_ q) (fun _ q=>q) fun _ _ q=>q
  rcases hc with z | z
  ·rw [z];exact nit b u e
  ·exact nit c _ z
end
noncomputable def Itz (K:PySem.W.Frag) (a b:Addr):It :=
 ⟨fun i H=>∃xs ys x y,SqL K H a xs/\SqL K H b ys/\xs[i]?=some x/\ys[i]?=some y,
  fun i H v H'=>∃T x y,v=.ref T/\H T=none/\H'=upd H T (.tup [x,y])/\(∀xs,SqL K H a xs->xs[i]?=some x)/\∀ys,SqL K H b ys->ys[i]?=some y,
  fun i H=>∃xs ys,SqL K H a xs/\SqL K H b ys/\(xs.length<=i\/ys.length<=i)⟩
noncomputable def tW (z TI TO i1 i2 l1 l2:Addr) (i:Nat) (h:Heap):Prop:=IsZip h z TI TO .none/\IsPair h TI (.ref i1) (.ref i2)/\(∃a b,IsPair h TO a b)/\h.IsListIter i1 l1 i/\h.IsListIter i2 l2 i
theorem rj {P:Program}{w:World}{K:PySem.W.Frag}{elts:List Expr}{x1}{pos:Pos} (z TI TO i1 i2 l1 l2:Addr) (D:ZipApart z TI TO i1 i2 l1 l2) :
  Turn P w K (.Tuple elts x1 pos) (Itz K l1 l2) [z,TI,TO,i1,i2] z (tW z TI TO i1 i2 l1 l2) where
 mem:=by simp
 obj:=fun i h st b hb=>by
  obtain⟨hz,hTI,⟨a,c,hTO⟩,⟨o1,e1,c1,d1⟩,⟨o2,e2,c2,d2⟩⟩:=st
  simp only [List.mem_cons,List.not_mem_nil,or_false] at hb
  rcases hb with rfl | rfl | rfl | rfl | rfl
  ·exact⟨_,hz,fun v q=>by cases q⟩
  ·exact⟨_,hTI,fun v q=>by cases q⟩
  ·exact⟨_,hTO,fun v q=>by cases q⟩
  ·exact⟨_,e1,fun v q=>by rw [d1] at q;cases q⟩
  ·exact⟨_,e2,fun v q=>by rw [d2] at q;cases q⟩
 keep:=fun i h h' st k=>by
  obtain⟨hz,hTI,⟨a,c,hTO⟩,h1,h2⟩:=st
  exact⟨k z (by simp) _ hz,k TI (by simp) _ hTI,⟨a,c,k TO (by simp) _ hTO⟩,h1.at fun o e=>k i1 (by simp) o e,h2.at fun o e=>k i2 (by simp) o e⟩
 item:=by
  intro X hP hw hK hc i pins s σ H E I hf st hg
  subst hP hw hK
  obtain⟨xs,ys,x,y,hq1,hq2,hx,hy⟩:=hg
  obtain⟨hz,hTI,⟨a,c,hTO⟩,h1,h2⟩:=id st
  obtain⟨its1,rv1,p1,hz1⟩:=I.list hq1
  obtain⟨its2,rv2,p2,hz2⟩:=I.list hq2
  obtain⟨u1,hu1,ru1⟩:=rv1.get hx
  obtain⟨u2,hu2,ru2⟩:=rv2.get hy
  refine wpAny_pyNext_zip_item D hz hTI hTO h1 h2 p1.isList p2.isList (x:=u1) (y:=u2) (by simpa using hu1) (by simpa using hu2) fun h' a1 a2 a3 a4 a5 a6 a7=>?_
  refine⟨_,rfl,wpAny_letOwnedTupleGo_zip (s:={ s with heap:=h' }) a1 fun h'' z2 sb=>?_⟩
  have sb':=sb.extBut
  generalize hT:s.heap.objs.size=T at *
  have lt:∀{b:Addr}{o:Obj},s.heap.get? b=some o->b≠T:=fun {b o} e=>by rw [<- hT];exact Nat.ne_of_lt (Heap.lt_size e)
  have fresh:H T=none:=by rw [<- hT];exact I.hok.fresh (Nat.le_refl _)
  have hne:∀b∈[z,TI,TO,i1,i2],b≠T:=fun b hb=>by
   obtain⟨o1,e1,_⟩:=h1
   obtain⟨o2,e2,_⟩:=h2
   simp only [List.mem_cons,List.not_mem_nil,or_false] at hb
   rcases hb with rfl | rfl | rfl | rfl | rfl
   ·exact lt hz
   ·exact lt hTI
   ·exact lt hTO
   ·exact lt e1
   ·exact lt e2
  have I0:Inv X pins σ (upd H T (.tup [x,y])) { s with heap:=s.heap.push { cls:=.type "tuple",data:=.seq #[u1,u2] },toks:=s.toks }:=by
   subst hT
   exact I.laid (t':=s.toks) (fun b o q=>Heap.get?_push_of_some _ q) (Nat.le_refl _) ⟨by show 2<=sizeLine;decide,[u1,u2],.cons ru1 (.cons ru2 .nil),_,Heap.get?_push_size _ rfl,rfl,0,rfl⟩
  have up:∀b o,b∉[z,TI,TO,i1,i2]->(s.heap.push { cls:=.type "tuple",data:=.seq #[u1,u2] }).get? b=some o->h''.get? b=some o:=fun b o hb e=>by
   simp only [List.mem_cons,List.not_mem_nil,or_false,not_or] at hb
   rcases Heap.get?_push_cases e with ⟨e1,e2⟩ | e1
   ·subst e2
    rw [e1,hT]
    exact sb' _ _ (hne z (by simp)).symm a5
   ·exact sb' _ _ hb.1 (a7 b o hb.1 hb.2.2.1 hb.2.2.2.1 hb.2.2.2.2 e1)
  have I2:Inv X pins σ (upd H T (.tup [x,y])) { s with heap:=h'',toks:=s.toks }:=Inv.turnedS (s:={ s with heap:=s.heap.push { cls:=.type "tuple",data:=.seq #[u1,u2] },toks:=s.toks }) (t':=s.toks) (ch:=[z,TI,TO,i1,i2]) I0 up fun b hb=>by
   obtain⟨f0,f1⟩:=hf b hb
   exact⟨by rw [au (hne b hb)];exact f0,f1⟩
  exact⟨.ref T,upd H T (.tup [x,y]),I2,rfl,⟨T,x,y,rfl,fresh,rfl,fun ws hw=>by rw [I.list_inj hw hq1];exact hx,fun ws hw=>by rw [I.list_inj hw hq2];exact hy⟩,
   ⟨z2,sb' _ _ D.TIz (a7 _ _ D.TIz D.TITO D.TIi1 D.TIi2 hTI),⟨_,_,sb' _ _ D.TOz a2⟩,a3.at fun o e=>sb' _ _ D.i1z e,a4.at fun o e=>sb' _ _ D.i2z e⟩,fun b hb=>by rw [au (hne b hb)];exact (hf b hb).1⟩
 done:=by
  intro X hP hw hK hc i pins s σ H E I hf st hg
  subst hP hw hK
  obtain⟨xs,ys,hq1,hq2,hx⟩:=hg
  obtain⟨hz,hTI,⟨a,c,hTO⟩,h1,h2⟩:=id st
  obtain⟨its1,rv1,p1,hz1⟩:=I.list hq1
  obtain⟨its2,rv2,p2,hz2⟩:=I.list hq2
  have hl1:=rv1.length
  have hl2:=rv2.length
  refine wpAny_pyNext_zip_end (I.ok.hd hc) D hz hTI hTO h1 h2 p1.isList p2.isList ?_ fun h' hk=>⟨rfl,I.turnedS (t':=s.toks) (ch:=[z,TI,TO,i1,i2]) (fun b o hb e=>?_) hf⟩
  ·rcases hx with q | q
   ·exact .inl (by simp;omega)
   ·exact .inr (by simp;omega)
  ·simp only [List.mem_cons,List.not_mem_nil,or_false,not_or] at hb
   exact hk b o hb.1 hb.2.2.1 hb.2.2.2.1 hb.2.2.2.2 e
 self:=fun _ _ _ _ _ st h=>wpAny_pyIter_zip st.1 h
theorem boot_zip:bootBuiltins "zip"=some (.type "zip"):=by decide +kernel
section
variable {X:Cx}
noncomputable def ur (K:PySem.W.Frag) (ta:TA):TI:=fun σ H R=>ta σ H fun vs H1=>∃a b xs ys,vs=[.ref a,.ref b]/\SqL K H1 a xs/\SqL K H1 b ys/\R (Itz K a b) H1
theorem sZ {a b:Expr}{elts:List Expr}{x1}{tpos:Pos}{ta:TA}{p pos:Pos} (hg:Gl X "zip") (hm:X.mg "zip"=none) (ha:PA X [a,b] ta) (hs:starEach [a,b] X.env=[(false,eval a X.env),(false,eval b X.env)]:=by rfl) (hs2:starEach [b] X.env=[(false,eval b X.env)]:=by rfl) :
  PI X (.Tuple elts x1 tpos) (.Call (.Name "zip" p) [a,b] [] pos) (ur X.K ta):=by
 intro pins s σ H R I h
 refine Call_ (eT I hg hm boot_zip (PyProof.Rows.callWith_type1 (thn (ha pos pins s σ H _ I h) fun us s1 ⟨vs,H1,I1,r1,q1⟩=>?_) (by rw [hs,hs2]) (by rw [hs2];rfl)))
 obtain⟨a',b',xs,ys,rfl,hq1,hq2,q⟩:=q1
 obtain⟨u1,u2,rfl,ra,rb⟩:=vals2 r1
 cases ra
 cases rb
 obtain⟨its1,rv1,p1,hz1⟩:=I1.list hq1
 obtain⟨its2,rv2,p2,hz2⟩:=I1.list hq2
 have l1:a' < s1.heap.objs.size:=by obtain⟨o,n,e,_⟩:=p1;exact Heap.lt_size e
 have l2:b' < s1.heap.objs.size:=by obtain⟨o,n,e,_⟩:=p2;exact Heap.lt_size e
 refine call_zip_2 p1.isList p2.isList fun h' hz hTI hTO hi1 hi2 hsz hk=>?_
 refine wpAny_pyIter_zip hz ?_
 refine⟨_,[s1.heap.objs.size + 4,s1.heap.objs.size + 2,s1.heap.objs.size + 3,s1.heap.objs.size,s1.heap.objs.size + 1],_,_,H1,rfl,I1.kept (t':=s1.toks) hk,rj _ _ _ _ _ _ _ (zipApart_new l1 l2),⟨hz,hTI,⟨_,_,hTO⟩,hi1,hi2⟩,fun b hb=>?_,q⟩
 have hle:s1.heap.objs.size<=b:=by
  simp only [List.mem_cons,List.not_mem_nil,or_false] at hb
  rcases hb with rfl | rfl | rfl | rfl | rfl
  ·exact Nat.le_add_right _ _
  ·exact Nat.le_add_right _ _
  ·exact Nat.le_add_right _ _
  ·exact Nat.le_refl _
  ·exact Nat.le_add_right _ _
 exact I1.fpOk hle (I1.hok.fresh hle)
end
theorem rd (l:List Value):((List.range l.length).filterMap fun (k:Nat)=>l.toArray[(((l.length:Int) - 1) + (k:Int) * -1).toNat]?)=l.reverse:=by
 have e:(fun (k:Nat)=>l.toArray[(((l.length:Int) - 1) + (k:Int) * -1).toNat]?)=(fun i=>l.toArray[i]?) ∘ (fun k=>l.length - 1 - k):=by
  funext k
  have:(((l.length:Int) - 1) + (k:Int) * -1).toNat=l.length - 1 - k:=by omega
  rw [this]
  rfl
 have q:=PySem.W.krv_all l.toArray
 rw [List.size_toArray] at q
 rw [e,<- List.filterMap_map,PySem.W.krv_range,List.filterMap_reverse,q]
section
variable {prog:Program}{w:World}{A:Around}{E:Value->Shared->Prop}{s:Shared}
theorem oK {sl:Addr}{vk:Value}{n:Nat}{Q:Int×Int×Nat->Shared->Prop} (hs:s.heap.IsSliceOf sl .none .none vk) (pk:IsPart vk (some (-1))) (h:Q ((n:Int) - 1,-1,n) s) :
  wpAny (model prog w) A (Builtin.Slice.sliceApplied (.ref sl) (pure (n:Int))) Q E s:=by
 obtain⟨os,hos,hcs,hds⟩:=id hs
 unfold Builtin.Slice.sliceApplied Builtin.Slice.sliceFields
 refine wpAny_bind (wpAny_bind (wpAny_field hos hds (x:=.none) rfl (wpAny_bind (wpAny_field hos hds (x:=.none) rfl (wpAny_bind (wpAny_field hos hds (x:=vk) rfl (wpAny_pure ?_)))))))
 refine wpAny_bind (HT.jN pk ?_)
 show wpAny _ _ (if ((-1:Int) == 0)=true then _ else _) _ _ s
 rw [if_neg (by decide)]
 refine wpAny_bind (slicePart_none (wpAny_bind (slicePart_none (wpAny_bind (wpAny_pure ?_)))))
 have e1:Builtin.Slice.sliceAdjust none none (-1) (n:Int)=((n:Int) - 1,-1):=by
  unfold Builtin.Slice.sliceAdjust
  simp
 have e2:Builtin.Slice.slicePlaces ((n:Int) - 1) (-1) (-1)=n:=by
  unfold Builtin.Slice.slicePlaces
  rw [if_neg (by decide)]
  split
  ·simp only [Int.neg_neg,Int.ediv_one];omega
  ·omega
 show wpAny _ _ (match Builtin.Slice.sliceAdjust none none (-1) (n:Int) with | (lo,hi)=>pure (lo,(-1:Int),Builtin.Slice.slicePlaces lo hi (-1))) _ _ s
 rw [e1]
 show wpAny _ _ (pure ((n:Int) - 1,(-1:Int),Builtin.Slice.slicePlaces ((n:Int) - 1) (-1) (-1))) _ _ s
 rw [e2]
 exact wpAny_pure h
theorem su {t sl:Addr}{its:List Value}{vk:Value}{Q:Value->Shared->Prop} (ht:IsTup s.heap t its.toArray) (hs:s.heap.IsSliceOf sl .none .none vk) (pk:IsPart vk (some (-1))) (hz:its.length<=sizeLine)
  (h:Q (.ref s.heap.objs.size) { s with heap:=s.heap.push { cls:=.type "tuple",data:=.seq its.reverse.toArray } }):wpAny (model prog w) A (getItem (.ref t) (.ref sl)) Q E s:=by
 obtain⟨os,hos,hcs,hds⟩:=id hs
 have hTs:s.TypeIs (.ref sl) "slice":=⟨os,hos,hcs⟩
 have hzz:sizeOk (.seq its.reverse.toArray):=by
  show its.reverse.toArray.size<=sizeLine
  rw [List.size_toArray,List.length_reverse];exact hz
 unfold getItem
 try with_reducible refine wpAny_holding ?_
 first | refine wpAny_bind (wpAny_pure ?_) | skip
 refine wpAny_bind (wpAny_sequenceKey ht.typeIs (by decide) (wpAny_bind (wpAny_callSpecial?_slot (name:=Str.ofString "__getitem__") ht.typeIs PyProof.Rows.slot_tuple_getitem
  (wpAny_call_entry PyProof.Rows.slot_tuple_getitem ht.typeIs entry_tuple_getitem ?_ (args_tuple_getitem _ _)))))
 show wpAny _ _ (Builtin.Tuple.tupleItemsOf (.ref t) >>= _) _ _ s
 refine wpAny_bind (tupleItemsOf_ ht (wpAny_bind (wpAny_typeOf hTs ?_)))
 rw [if_pos (by decide)]
 have hsz:its.toArray.size=its.length:=by simp
 rw [hsz]
 refine wpAny_bind (oK hs pk ?_)
 show wpAny _ _ (if ((((its.length:Nat):Int) - 1 == 0) && ((-1:Int) == 1) && (its.length == its.length))=true then _ else _) _ _ s
 rw [if_neg (by simp),rd]
 first
  | exact wpAny_bind (m:=Builtin.Tuple.tupleExact _) (wpAny_newObj_type (wpAny_pure ⟨_,rfl,wpAny_pure h⟩) hzz)
  | exact wpAny_bind (m:=Builtin.Tuple.tupleExact _) (wpAny_newObj_type (wpAny_bind (wpAny_pure (wpAny_pure ⟨_,rfl,wpAny_pure h⟩))) hzz)
  | exact wpAny_bind (wpAny_bind (m:=Builtin.Tuple.tupleExact _) (wpAny_newObj_type (wpAny_pure (wpAny_pure ⟨_,rfl,wpAny_pure h⟩)) hzz))
  | exact wpAny_bind (wpAny_bind (m:=Builtin.Tuple.tupleExact _) (wpAny_newObj_type (wpAny_pure ⟨_,rfl,wpAny_pure h⟩) hzz))
end
section
variable {X:Cx}
noncomputable def mP (K:PySem.W.Frag) (te:TE) (tk:TO):TE:=fun σ H Q=>te σ H fun x H1=>tk σ H1 fun o H2=>o=some (-1)/\∃a xs,x=.ref a/\SqT K H2 a xs/\∀p,H2 p=none->Q (.ref p) (upd H2 p (.tup xs.reverse))
theorem lE {e st:Expr}{te:TE}{tk:TO}{p2 pos:Pos} (ops:Value->Value->List Value) (he:PE X e te) (hk:PO X (some st) tk) (hs:∀o i,subscripted (.Slice none none (some st) p2) false o i=operate (ops o i) (getItem o i)):PE X (.Subscript e (.Slice none none (some st) p2) pos) (mP X.K te tk):=by
 intro pins s σ H Q I h
 refine Subscript_ (thn (he pins s σ H _ I h) fun v s1 ⟨x,H1,I1,r1,q1⟩=>?_)
 refine wpAny_Slice ?_
 rw [evalPart_none]
 refine wpAny_pure (wpAny_pure (thn (hk pins s1 σ H1 _ I1 q1) fun vk s2 ⟨o,H2,I2,pk,q2⟩=>?_))
 obtain⟨rfl,a,xs,rfl,hx,q⟩:=q2
 cases r1
 have I4:Inv X pins σ H2 { s2 with heap:=s2.heap.push { cls:=.type "slice",data:=.fields #[.none,.none,vk] } }:=I2.kept (t':=s2.toks) fun b ob q=>Heap.get?_push_of_some _ q
 obtain⟨its,r,ht,hz⟩:=I4.tuple hx
 have hlen:=r.length
 show wpAny (model X.prog X.w) X.A (subscriptTail e (.Slice none none (some st) p2) (.ref a) (.ref s2.heap.objs.size)) (EP X pins σ Q) X.xe { s2 with heap:=s2.heap.push { cls:=.type "slice",data:=.fields #[.none,.none,vk] } }
 refine tail_any (ops:=ops _ _) ht.typeIs slot_tuple_getitem.lookup ?_ (hs _ _)
 refine su ht (Heap.IsSliceOf.new ..) pk (by omega) ?_
 refine⟨.ref _,_,I4.laid (t':=s2.toks) (o:=.tup xs.reverse) (fun b ob q=>Heap.get?_push_of_some _ q) (Nat.le_refl _) ⟨by rw [List.length_reverse];exact hz,its.reverse,r.reverse,_,Heap.get?_push_size _ rfl,rfl,0,rfl⟩,rfl,q _ (I4.hok.fresh (Nat.le_refl _))⟩
theorem rR {K:PySem.W.Frag}{g:TG}{tt:TT}{te:TE}{σ':St}{fin:List V->Hp->Prop}{H1:Hp}{a b:Addr}{xs ys:List V} (hn:min xs.length ys.length < sizeLine) (Pv:Nat->List V->St->Hp->Prop) (h0:Pv 0 [] σ' H1)
  (hl:∀i zs σ H,i<=min xs.length ys.length->Pv i zs σ H->zs.length<=i/\SqL K H a xs/\SqL K H b ys)
  (hs:∀i x y zs σ H T,xs[i]?=some x->ys[i]?=some y->Pv i zs σ H->H T=none->g (.ref T) σ (upd H T (.tup [x,y])) fun σ2 H2=>tt σ2 H2 fun b H3=>if b=true then te σ2 H3 (fun v H4=>Pv (i + 1) (zs++[v]) σ2 H4) else Pv (i + 1) zs σ2 H3)
  (hd:∀zs σ H,Pv (min xs.length ys.length) zs σ H->fin zs H):LcW (Itz K a b) g tt te σ' fin H1:=by
 refine⟨fun i m zs σ H=>m=min xs.length ys.length - i/\i<=min xs.length ys.length/\Pv i zs σ H,⟨min xs.length ys.length,by simp,Nat.zero_le _,h0⟩,?_⟩
 rintro i m zs σ H ⟨rfl,hi,p⟩
 obtain⟨q0,q1,q2⟩:=hl i zs σ H hi p
 by_cases hlt:i < min xs.length ys.length
 ·have h1:i < xs.length:=by omega
  have h2:i < ys.length:=by omega
  refine .inr ⟨⟨xs,ys,xs[i],ys[i],q1,q2,by simp [h1],by simp [h2]⟩,by omega,fun zs' σ2 H2=>Pv (i + 1) zs' σ2 H2,fun zs' σ2 H2 q=>⟨min xs.length ys.length - (i + 1),by omega,rfl,hlt,q⟩,fun v H' y=>?_⟩
  obtain⟨T,x,y,rfl,hT,rfl,e1,e2⟩:=y
  exact hs i x y zs σ H T (e1 xs q1) (e2 ys q2) p hT
 ·have e:i=min xs.length ys.length:=by omega
  subst e
  refine .inl ⟨⟨xs,ys,q1,q2,?_⟩,by omega,hd zs σ H p⟩
  rcases Nat.le_total xs.length ys.length with z | z
  ·exact .inl (by omega)
  ·exact .inr (by omega)
end
section
variable {κ:Type} [DecidableEq κ]
noncomputable def nr (kvs:List (κ×V)) (k:κ):Option V:=(kvs.find? fun kv=>decide (kv.1=k)).map (·.2)
noncomputable def putK (kvs:List (κ×V)) (k:κ) (v:V):List (κ×V) :=
 if (kvs.any fun kv=>decide (kv.1=k))=true then kvs.map (fun kv=>if kv.1=k then (kv.1,v) else kv) else kvs++[(k,v)]
noncomputable def uY (kvs:List (κ×V)) (k:κ):List (κ×V):=kvs.filter fun kv=>decide (kv.1≠k)
end
noncomputable abbrev KT (H:Hp):List (List Key×V)->List (List Key×Addr×Value)->Prop:=Paired fun p q=>p.1=q.1/\H q.2.1=some (.tup (p.1.map kV))/\RelV p.2 q.2.2
section
variable {P:Program}{w:World}{H:Hp}{h:Heap}{a:Addr}
end
noncomputable def va (H:Hp) (a:Addr) (y:V) (r:Option V):Prop :=
 (∃kvs k,Rd H a (.dK kvs)/\y=kV k/\r=nr kvs k)\/∃kvs k b,Rd H a (.dT kvs)/\y=.ref b/\H b=some (.tup (k.map kV))/\r=nr kvs k
noncomputable def vb (H:Hp) (a:Addr) (y v:V) (H':Hp):Prop :=
 (∃kvs k,H a=some (.dK kvs)/\y=kV k/\kvs.length < sizeLine/\H'=upd H a (.dK (putK kvs k v))) \/
 ∃kvs k b,H a=some (.dT kvs)/\y=.ref b/\H b=some (.tup (k.map kV))/\kvs.length < sizeLine/\H'=upd H a (.dT (putK kvs k v))
section
variable {X:Cx}{pins:List (Addr×Obj)}{σ:St}{H:Hp}{s:Shared}{a:Addr}{y v:V}{u r:Value}{o:Option V}{A:Around}{E:Value->Shared->Prop}
end
section
variable {X:Cx}{pins:List (Addr×Obj)}{σ:St}{H:Hp}{s:Shared}{a:Addr}{kvs:List (Key×V)}{k:Key}{u:Value}{A:Around}{E:Value->Shared->Prop}
end
section
variable {X:Cx}{o i e value:Expr}{pos pos' tpos:Pos}{td ty tv:TE}
end
section
variable {X:Cx}{pos:Pos}
end
section
variable {prog:Program}{w:World}{A:Around}{R:Result->Shared->Prop}{s:Shared}
end
section
variable {X:Cx}{scope:Scope}{N:List Str}{ix:List (Option Nat)}
variable {tg iter kx vx:Expr}{ifs:List Expr}{pos:Pos}{g:TG}{tt:TT}{tk tv:TE}
end
section
variable {X:Cx}
theorem kc:cf X (.builtin "abs") (fun xs H Q=>∃i,xs=[.int i]/\Q (.int (if i < 0 then -i else i)) H):=by
 intro pins s σ H xs us Q I r h
 obtain⟨i,rfl,q⟩:=h
 obtain⟨u,rfl,⟨t,rfl⟩⟩:=vals1 r
 exact call_abs_int fun u tk=>⟨.int (if i < 0 then -i else i),H,I.tok tk,⟨_,rfl⟩,q⟩
end
section
variable {prog:Program}{w:World}{A:Around}{E:Value->Shared->Prop}{s:Shared}
end
section
variable {prog:Program}{w:World}{A:Around}{E:Value->Shared->Prop}{s:Shared}
end
section
variable {X:Cx}
end
section
variable {prog:Program}{w:World}{A:Around}{E:Value->Shared->Prop}{s:Shared}
end
section
variable {X:Cx}{tg:Expr}
end
section
variable {X:Cx}{scope:Scope}{N:List Str}{ix:List (Option Nat)}
variable {tg iter kx vx:Expr}{ifs:List Expr}{pos:Pos}{g:TG}{tt:TT}{tk tv:TE}
end
structure M1 (X:Cx) (o:Expr) (m:Str) (apos:Pos) (e:Expr) (cpos:Pos):Prop where
 base:attributeBase o m X.env (eval o X.env)=eval o X.env
 few:((backTo cpos (starEach [e] X.env)).all (fun x=>!x.1) && (backToKw cpos (keywordEach [] X.env)).all (fun x=>x.1.isSome)
  && decide (([e]:List Expr).length + ([]:List Keyword).length + (if ([]:List Keyword).isEmpty then 0 else 1) < 30))=true
 line:(apos.endLine == cpos.line)=true
 trees:backTo cpos (starEach [e] X.env)=[(false,eval e X.env)]
structure M2 (X:Cx) (o:Expr) (m:Str) (apos:Pos) (e f:Expr) (cpos:Pos):Prop where
 base:attributeBase o m X.env (eval o X.env)=eval o X.env
 few:((backTo cpos (starEach [e,f] X.env)).all (fun x=>!x.1) && (backToKw cpos (keywordEach [] X.env)).all (fun x=>x.1.isSome)
  && decide (([e,f]:List Expr).length + ([]:List Keyword).length + (if ([]:List Keyword).isEmpty then 0 else 1) < 30))=true
 line:(apos.endLine == cpos.line)=true
 trees:backTo cpos (starEach [e,f] X.env)=[(false,eval e X.env),(false,eval f X.env)]
section
variable {X:Cx}{pins:List (Addr×Obj)}{σ:St}{H:Hp}{s:Shared}{a:Addr}{y d:V}{u r:Value}{o:Option V}{A:Around}{E:Value->Shared->Prop}
end
section
variable {X:Cx}{o e f:Expr}{apos cpos:Pos}{td ty tx:TE}
end
section
variable {X:Cx}{pins:List (Addr×Obj)}{σ:St}{H:Hp}{s:Shared}{a:Addr}{kvs:List (Key×V)}{A:Around}{E:Value->Shared->Prop}
end
section
variable {X:Cx}{pins:List (Addr×Obj)}{σ:St}{H:Hp}{s:Shared}{a:Addr}{y:V}{u:Value}{A:Around}{E:Value->Shared->Prop}
end
section
variable {X:Cx}
end
section
variable {κ:Type} [DecidableEq κ]
end
end L2
namespace L2
open PySem PySem.Spec PyProof.Rows PySem.W PySem.Calls
section
variable {X:Cx}
end
section
variable {prog:Program}{w:World}{A:Around}{E:Value->Shared->Prop}{s:Shared}
end
section
variable {prog:Program}{w:World}{A:Around}{R:Result->Shared->Prop}{K:Type} [DecidableEq K] {knd:PySem.KeyKind prog w K}
end
section
variable {X:Cx}
end
end L2
namespace L2
open PySem PySem.Spec PyProof.Rows
section
variable {X:Cx}
end
end L2
namespace L2
open PySem PySem.Spec PyProof.Rows PySem.W PySem.Calls
section
variable {X:Cx}
end
noncomputable def jj:Value->Str
 | .str x _=>x
 | _=>default
structure uO (w:World) (o:Obj) (ss:List Str) (es:Array (Int×Value)) (ep:Nat) (t:SetTable):Prop where
 cls:o.cls=.type "set"
 dic:o.dict=none
 slo:o.slots=#[]
 dat:o.data=.set es ep t
 els:∀e∈es.toList,∃tk,e.2=.str (jj e.2) tk/\e.1=hashStr w (jj e.2)
 all:(es.toList.map fun e=>jj e.2).Perm ss
 one:ss.Nodup
 few:ss.length < 4000
 fit:t.fits es.size=true
 led:t.led=!w.params.followText "set-order"
 pla:es.size=0\/t.plain=false
section
variable {prog:Program}{w:World}{A:Around}{E:Value->Shared->Prop}{s:Shared}
end
section
variable {prog:Program}{w:World}{A:Around}{E:Value->Shared->Prop}{s:Shared}
end
section
variable {prog:Program}{w:World}{A:Around}{E:Value->Shared->Prop}{s:Shared}
end
end L2
set_option maxHeartbeats 8000000
namespace L2
open PySem PySem.Spec PyProof.Rows PySem.W PySem.Calls
section
variable {prog:Program}{w:World}{A:Around}{E:Value->Shared->Prop}{s:Shared}
end
noncomputable def ug (first:Value) (i:Nat) (a:Addr) (n ep:Nat):Array Value:=#[first,rawInt (i:Int),.ref a,rawInt (n:Int),rawInt (ep:Int)]
noncomputable def uW (h:Heap) (I:Addr) (first:Value) (i:Nat) (a:Addr) (n ep:Nat):Prop:=∃o,h.get? I=some o/\o.cls=.type "set_iterator"/\o.data=.fields (ug first i a n ep)
section
variable {prog:Program}{w:World}{A:Around}{E:Value->Shared->Prop}{s:Shared}
end
section
variable {prog:Program}{w:World}{A:Around}{E:Value->Shared->Prop}{s:Shared}
end
section
variable {prog:Program}{w:World}{A:Around}{E:Value->Shared->Prop}{s:Shared}
structure uN (prog:Program) (w:World) (A:Around) (s s₁:Shared) (a I:Addr) (ss:List Str) (fp:List Addr) (ws:List Value) (St:Nat->Heap->Prop):Prop where
 os:s₁.os=s.os
 gens:s₁.gens=s.gens
 toks:s₁.toks=s.toks
 keep:∀b o,s.heap.get? b=some o->s₁.heap.get? b=some o
 new:∀b∈fp,b=a\/s.heap.objs.size<=b
 newI:s.heap.objs.size<=I
 wk:Walks prog w A I fp [I] ss.length (fun i v=>ws[i]?=some v) St
 st:St 0 s₁.heap
 txt:∃ss',StrsAre ws ss'/\ss'.Perm ss
end
section
variable {prog:Program}{w:World}{A:Around}{E:Value->Shared->Prop}{s:Shared}
end
section
variable {prog:Program}{w:World}{A:Around}{E:Value->Shared->Prop}{s:Shared}
end
section
variable {prog:Program}{w:World}{A:Around}{E:Value->Shared->Prop}{s:Shared}
end
section
variable {X:Cx}
end
section
variable {X:Cx}{tg:Expr}
end
end L2
namespace L2
open PySem
section
variable {X:Cx}{scope:Scope}{N:List Str}{ix:List (Option Nat)}
variable {tg iter kx vx:Expr}{ifs:List Expr}{pos:Pos}{g:TG}{tt:TT}{tk tv:TE}
end
end L2
namespace L2
open PySem PySem.Spec PyProof.Rows
open AutoSeq1 (wpAny_loadPart')
section
variable {prog:Program}{w:World}{A:Around}{E:Value->Shared->Prop}{s:Shared}
end
section
variable {X:Cx}
end
end L2
namespace L2
open PySem
end L2
namespace L2
open PySem PySem.Spec PyProof.Rows PySem.W PySem.Calls
noncomputable def Hd0 (vs:Array Value) (a0:Value):Prop:=vs[0]?=some a0/\vs[2]?=some Value.none
noncomputable def gi (fl:Value) (h:Heap) (e T:Addr) (cls a0:Value) (dx:Option Addr):Prop:=∃oe vs oT ts,h.get? e=some oe/\oe.cls=cls/\Hd0 vs a0/\oe.data=Data.fields vs/\vs[1]?=some (Value.ref T)/\T≠e/\h.get? T=some oT/\oT.data=Data.fields ts/\ts[3]?=some fl/\oe.dict=dx
noncomputable abbrev Trc:Heap->Addr->Addr->Value->Value->Option Addr->Prop:=gi .none
noncomputable def CXE (P:Program) (w:World):CXT:=fun outer H s E e s'=>∃(ea T:Addr) (cls a0:Value) (dx:Option Addr) (H':Hp),e=.ref ea/\s'.os=s.os/\AllBare s'.gens/\Un (frs outer) [] H H' s.heap s'.heap/\HOk P w H' s'.heap/\s.heap.get? ea=none/\s.heap.get? T=none/\H' ea=none/\H' T=none/\Trc s'.heap ea T cls a0 dx/\E cls dx H'
theorem e7 {h base:Heap}:∀{l:List Env},h.FunFrames base l->∀b∈frs l,∃o,h.get? b=some o/\∀vs:Array Value,o.data≠Data.fields vs
 | [],_,b,hb=>by simp [frs] at hb
 | e::l,k,b,hb=>by
  simp only [Heap.FunFrames] at k
  obtain⟨k1,⟨L,o,k2,k3,k4,k5⟩,k6⟩:=k
  unfold frs at hb
  rw [List.filterMap_cons,k2] at hb
  rcases List.mem_cons.mp hb with z | z
  ·rw [z];exact⟨o,k4,k5⟩
  ·exact e7 k6 b z
theorem pZ (o:Obj) (f:Array Value->Array Value):(o.mapFields f).dict=o.dict:=by
 obtain⟨c,d,dt,sl⟩:=o
 cases dt <;> rfl
structure Moved (fr:List Addr) (g:List Addr) (h h':Heap):Prop where
 keep:∀b o,h.get? b=some o->b∉fr->b∉g->h'.get? b=some o
 slot:∀b o,h.get? b=some o->b∈fr->∃sl,h'.get? b=some { o with slots:=sl }
section
variable {M:Model}{A:Around}{E:Value->Shared->Prop}{s:Shared}{env:Env}{outer:List Env}{L e T:Addr}{base:Heap}{cls a0:Value}{dx:Option Addr}{Q:Unit->Shared->Prop}
theorem lH {oe:Obj}{vs:Array Value}{head:Value}{had:Bool}
  (hf:A.frames=some (env::outer)) (ff:s.heap.FunFrames base (env::outer)) (hL:env.frame=some L) (he:s.heap.get? e=some oe) (hd:oe.data=Data.fields vs) (hz:1 < vs.size) (h0:Hd0 vs a0)
  (k:∀(h':Heap) (T':Addr),Moved (frs (env::outer)) [e] s.heap h'->s.heap.get? T'=none->gi (rawInt L) h' e T' oe.cls a0 oe.dict->Q () { s with heap:=h' }) :
  wpAny M A (do let a <- frameOf env;let pl <- entryPlaceOf L had;let b <- EntryCells.newEntry head a .none (rawInt L) .none pl;setField (.ref e) 1 b) Q E s:=by
 have efr:e∉frs (env::outer):=fun hm=>by
  obtain⟨o,q,nf⟩:=e7 ff e hm
  rw [he] at q;cases q
  exact nf _ hd
 refine wpAny_bind (wpAny_frameOf_fun hf ff hL fun g1 so=>wpAny_bind (wpAny_entryPlaceOf fun pl hpl=>?_))
 unfold EntryCells.newEntry newFields
 refine wpAny_bind (wpAny_newObj_type ?_ (hpl.sizeOk5 _ _ _ _ _))
 generalize hob:({ cls:=.type "traceback",dict:=none,data:=.fields ([head,.ref L,.none,rawInt L,.none]++(if pl.isEmpty then List.replicate 6 Value.none else pl)).toArray }:Obj)=ob
 have obf:ob.isFreed=false:=by rw [<- hob];rfl
 have e1:g1.get? e=some oe:=(so.2.1 e efr).trans he
 have nz:g1.objs.size≠e:=Nat.ne_of_gt (Heap.lt_size e1)
 have e2:=Heap.get?_push_of_some (h:=g1) ob e1
 refine wpAny_setField e2 hd hz ?_
 have hd3:=Obj.data_mapFields hd (fun z=>z.setIfInBounds 1 (Value.ref g1.objs.size))
 have e3:=Heap.get?_update_self (Obj.mapFields fun z=>z.setIfInBounds 1 (Value.ref g1.objs.size)) e2 (Obj.isFreed_of_fields hd3)
 have fresh:s.heap.get? g1.objs.size=none:=by
  cases hc:s.heap.get? g1.objs.size with
  | none=>rfl
  | some o =>
   obtain⟨sl,q⟩:=so.2.2 _ o hc
   exact absurd (Heap.lt_size q) (Nat.lt_irrefl _)
 have up:∀b o,b≠e->g1.get? b=some o->((g1.push ob).update e (Obj.mapFields fun z=>z.setIfInBounds 1 (Value.ref g1.objs.size))).get? b=some o:=fun b o n q=>by
  rw [Heap.get?_update_other _ _ (Ne.symm n)]
  exact Heap.get?_push_of_some _ q
 refine k _ g1.objs.size ⟨fun b o q hb hg=>up b o (fun z=>hg (by simp [z])) ((so.2.1 b hb).trans q),fun b o q hb=>?_⟩ fresh ⟨_,_,ob,_,e3,Obj.cls_mapFields _ _,?_,hd3,?_,nz,?_,by rw [<- hob],?_,pZ _ _⟩
 ·obtain⟨sl,q1⟩:=so.2.2 b o q
  exact⟨sl,up b _ (fun z=>efr (z ▸ hb)) q1⟩
 ·exact⟨by rw [Array.getElem?_setIfInBounds_ne (by decide)];exact h0.1,by rw [Array.getElem?_setIfInBounds_ne (by decide)];exact h0.2⟩
 ·simp [hz]
 ·rw [Heap.get?_update_other _ _ (Ne.symm nz)]
  exact Heap.get?_push_size g1 obf
 ·first | (simp;done) | (rcases hpl with rfl | ⟨_,_,_,_,_,_,_,rfl⟩ <;> simp)
theorem ground {fl:Value} (ht:gi fl s.heap e T cls a0 dx)
  (k:∀h':Heap,(∀b,b≠T->h'.get? b=s.heap.get? b)->Trc h' e T cls a0 dx->Q () { s with heap:=h' }) :
  wpAny M A (setFlight (.ref e) none) Q E s:=by
 obtain⟨oe,vs,oT,ts,h1,h2,h3,h4,h5,h6,h7,h8,h9,h10⟩:=ht
 have z3:3 < ts.size:=(Array.getElem?_eq_some_iff.mp h9).1
 unfold setFlight
 refine wpAny_bind (wpAny_field h1 h4 h5 ?_)
 rw [if_pos (show (Value.ref T != Value.none)=true from by simp)]
 refine wpAny_setField h7 h8 z3 (k _ (fun b n=>Heap.get?_update_other _ _ (Ne.symm n)) ?_)
 have d8:=Obj.data_mapFields h8 (fun z=>z.setIfInBounds 3 ((none:Option Addr).elim Value.none fun f=>rawInt f))
 exact⟨oe,vs,_,_,(Heap.get?_update_other _ _ h6).trans h1,h2,h3,h4,h5,h6,Heap.get?_update_self _ h7 (Obj.isFreed_of_fields d8),d8,by simp [z3],h10⟩
theorem qS {oe:Obj}{vs:Array Value} (hf:A.frames=some (env::outer)) (hL:env.frame=some L) (ff:s.heap.FunFrames base (env::outer)) (h1:s.heap.get? e=some oe) (h2:oe.data=Data.fields vs) (h3:vs[1]?=some Value.none) (h4:Hd0 vs a0)
  (k:∀(h':Heap) (T':Addr),Moved (frs (env::outer)) [e] s.heap h'->s.heap.get? T'=none->gi (rawInt L) h' e T' oe.cls a0 oe.dict->Q () { s with heap:=h' }) :
  wpAny M A (noteFrame (.ref e) env) Q E s:=by
 unfold noteFrame
 simp only [hL]
 refine wpAny_bind (wpAny_field h1 h2 h3 ?_)
 rw [if_neg (by decide)]
 exact lH hf ff hL h1 h2 (Array.getElem?_eq_some_iff.mp h3).1 h4 k
theorem kh (hf:A.frames=some (env::outer)) (hL:env.frame=some L) (ff:s.heap.FunFrames base (env::outer)) (ht:Trc s.heap e T cls a0 dx)
  (k:∀(h':Heap) (T':Addr),Moved (frs (env::outer)) [e,T] s.heap h'->s.heap.get? T'=none->gi (rawInt L) h' e T' cls a0 dx->Q () { s with heap:=h' }) :
  wpAny M A (noteFrame (.ref e) env) Q E s:=by
 obtain⟨oe,vs,oT,ts,h1,rfl,h3,h4,h5,h6,h7,h8,h9,rfl⟩:=ht
 unfold noteFrame
 simp only [hL]
 refine wpAny_bind (wpAny_field h1 h4 h5 ?_)
 rw [if_pos (show (Value.ref T != Value.none)=true from by simp)]
 refine wpAny_bind (wpAny_field h7 h8 h9 ?_)
 rw [if_neg (show ¬ ((Value.none == rawInt L)=true) from by simp [rawInt])]
 refine wpAny_bind (wpAny_setField h7 h8 (Array.getElem?_eq_some_iff.mp h9).1 ?_)
 have oth:∀b,b≠T->(s.heap.update T (Obj.mapFields fun z=>z.setIfInBounds 3 Value.none)).get? b=s.heap.get? b:=fun b n=>Heap.get?_update_other _ _ (Ne.symm n)
 have nT:∀b,b∈frs (env::outer)->b≠T:=fun b hb z=>by
  obtain⟨o,q,nf⟩:=e7 ff b hb
  rw [z,h7] at q;cases q
  exact nf _ h8
 refine lH (s:={ s with heap:=s.heap.update T (Obj.mapFields fun z=>z.setIfInBounds 3 Value.none) }) hf (ff.of_keeps fun b o q nf=>⟨o,(oth b fun z=>?_).trans q,rfl⟩) hL ((oth e (Ne.symm h6)).trans h1) h4 (Array.getElem?_eq_some_iff.mp h5).1 h3 fun h' T' mv nw tr=>k h' T' ⟨fun b o q hb hg=>?_,fun b o q hb=>?_⟩ ?_ tr
 ·rw [z,h7] at q;cases q
  exact nf _ h8
 ·exact mv.keep b o ((oth b fun z=>hg (by simp [z])).trans q) hb fun z=>hg (by simp at z;simp [z])
 ·exact mv.slot b o ((oth b (nT b hb)).trans q) hb
 ·have z:T'≠T:=fun z=>by
   have d8:=Obj.data_mapFields h8 (fun z=>z.setIfInBounds 3 Value.none)
   have g7:=Heap.get?_update_self (Obj.mapFields fun z=>z.setIfInBounds 3 Value.none) h7 (Obj.isFreed_of_fields d8)
   have nw':(s.heap.update T (Obj.mapFields fun z=>z.setIfInBounds 3 Value.none)).get? T'=none:=nw
   rw [z,g7] at nw'
   cases nw'
  exact (oth T' z).symm.trans nw
theorem Moved.ground {fr g:List Addr}{h h' h'':Heap} (m:Moved fr g h h') (nT:h.get? T=none) (nf:∀b∈fr,∃o,h.get? b=some o) (k:∀b,b≠T->h''.get? b=h'.get? b):Moved fr g h h'' :=
 ⟨fun b o q hb hg=>(k b fun z=>by rw [z,nT] at q;cases q).trans (m.keep b o q hb hg),fun b o q hb=>by
  obtain⟨sl,e⟩:=m.slot b o q hb
  exact⟨sl,(k b fun z=>by rw [z,nT] at q;cases q).trans e⟩⟩
theorem oa (hf:A.frames=some (env::outer)) (hL:env.frame=some L) (ff:s.heap.FunFrames base (env::outer)) (ht:Trc s.heap e T cls a0 dx)
  (k:∀(h':Heap) (T':Addr),Moved (frs (env::outer)) [e,T] s.heap h'->s.heap.get? T'=none->Trc h' e T' cls a0 dx->Q () { s with heap:=h' }) :
  wpAny M A (leaving env (.ref e)) Q E s:=by
 unfold leaving
 refine wpAny_bind (kh hf hL ff ht fun h1 T1 mv nw tr=>ground tr fun h2 same tr2=>k h2 T1 (mv.ground nw (fun b hb=>let ⟨o,q,_⟩:=e7 ff b hb;⟨o,q⟩) same) nw tr2)
theorem leave_new {oe:Obj}{vs:Array Value} (hf:A.frames=some (env::outer)) (hL:env.frame=some L) (ff:s.heap.FunFrames base (env::outer)) (h1:s.heap.get? e=some oe) (h2:oe.data=Data.fields vs) (h3:vs[1]?=some Value.none) (h4:Hd0 vs a0)
  (k:∀(h':Heap) (T':Addr),Moved (frs (env::outer)) [e] s.heap h'->s.heap.get? T'=none->Trc h' e T' oe.cls a0 oe.dict->Q () { s with heap:=h' }) :
  wpAny M A (leaving env (.ref e)) Q E s:=by
 unfold leaving
 refine wpAny_bind (qS hf hL ff h1 h2 h3 h4 fun g1 T1 mv nw tr=>ground tr fun g2 same tr2=>k g2 T1 (mv.ground nw (fun b hb=>let ⟨o,q,_⟩:=e7 ff b hb;⟨o,q⟩) same) nw tr2)
theorem ou (hf:A.frames=some (env::outer)) (hL:env.frame=some L) (ff:s.heap.FunFrames base (env::outer)) (ht:Trc s.heap e T cls a0 dx)
  (k:∀(h':Heap) (T':Addr),Moved (frs (env::outer)) [e,T] s.heap h'->s.heap.get? T'=none->Trc h' e T' cls a0 dx->Q () { s with heap:=h' }) :
  wpAny M A (noteFrame (.ref e) env) (fun _ s2=>wpAny M A (setFlight (.ref e) none) (fun _ s3=>Q () s3) E s2) E s :=
 kh hf hL ff ht fun h1 T1 mv nw tr=>ground tr fun h2 same tr2=>k h2 T1 (mv.ground nw (fun b hb=>let ⟨o,q,_⟩:=e7 ff b hb;⟨o,q⟩) same) nw tr2
end
theorem aX.got {P:Program}{w:World}{H:Hp}{h:Heap}{a:Addr}{o:HO} (x:aX P w H h a o):∃ob,h.get? a=some ob:=by
 cases o with
 | lst xs=>obtain⟨_,_,_,_,e⟩:=x;exact⟨_,e⟩
 | tup xs=>obtain⟨_,_,_,o,e,_⟩:=x;exact⟨_,e⟩
 | dK kvs=>obtain⟨_,_,_,_,o,_,_,e,_⟩:=x;exact⟨_,e⟩
 | dT kvs=>obtain⟨_,_,_,_,o,_,_,e,_⟩:=x;exact⟨_,e⟩
 | set S n=>obtain⟨o,_,_,_,e,_⟩:=x;exact⟨_,e⟩
 | ins C dx fs=>obtain⟨_,_,_,e,_⟩:=x;exact⟨_,e⟩
 | own y=>exact x
 | xd fs=>obtain⟨_,⟨_,_,_,e,_⟩,_⟩:=x;exact⟨_,e⟩
 | rng lo hi=>obtain⟨_,_,_,e⟩:=x;exact⟨_,e⟩
 | frz ob u=>obtain⟨e,_⟩:=x;exact⟨_,e⟩
 | tbl ps=>exact⟨_,(show h.get? a=some _ from x)⟩
 | met f y=>exact⟨_,(show h.get? a=some _ from x)⟩
 | ext φ=>obtain⟨_,e,_⟩:=x;exact e
theorem lU {CX:CXT}{P:Program}{w:World}{K:PySem.W.Frag}{mg:Str->Option Value}{base:Heap}{N:List Str}{qual:Str}{scope:Scope}{f:Addr}{cd:Value}{A:Around}{outer:List Env}{s0:Shared}{H0:Hp}{E0':XK}
  {pins:List (Addr×Obj)}{σ:St}{H':Hp}{s':Shared}{E:XK}{ea T':Addr}{cls a0:Value}{dx:Option Addr}{h':Heap}{G:List Addr}
  (I:Inv (aJ CX P w K mg base N qual scope f cd A outer s0 H0 E0') pins σ H' s')
  (mv:Moved (frs (envOfC qual scope s0.heap.objs.size f cd::outer)) G s'.heap h')
  (hG:∀b∈G,s0.heap.get? b=none/\H' b=none) (tr:Trc h' ea T' cls a0 dx) (e1:s0.heap.get? ea=none) (e2:H' ea=none) (e3:T'∈G\/s'.heap.get? T'=none) (hE:E cls dx H') :
  CXE P w outer H0 s0 E (.ref ea) { s' with heap:=h' }:=by
 have kp:=mv.keep
 have sl:=mv.slot
 have base':=I.base
 have hok:=I.hok
 have nL:∀b o,s0.heap.get? b=some o->b∉frs outer->b∉frs (envOfC qual scope s0.heap.objs.size f cd::outer):=fun b o q hb hm=>by
  have hm':b∈s0.heap.objs.size::frs outer:=hm
  rcases List.mem_cons.mp hm' with z | z
  ·exact absurd (Heap.lt_size q) (by rw [z];exact Nat.lt_irrefl _)
  ·exact hb z
 have nG:∀b o,s0.heap.get? b=some o->b∉G:=fun b o q hb=>by rw [(hG b hb).1] at q;cases q
 have mO:∀b,b∈frs outer->b∈frs (envOfC qual scope s0.heap.objs.size f cd::outer):=fun b hb=>List.mem_cons_of_mem _ hb
 have T0:s0.heap.get? T'=none:=by
  rcases e3 with z | z
  ·exact (hG _ z).1
  ·cases hc:s0.heap.get? T' with
   | none=>rfl
   | some o =>
    obtain⟨o',q⟩:=base'.there T' o hc (by show T'∉[];simp)
    rw [z] at q;cases q
 have TH:H' T'=none:=by
  rcases e3 with z | z
  ·exact (hG _ z).2
  ·cases hc:H' T' with
   | none=>rfl
   | some o =>
    obtain⟨ob,q⟩:=aX.got (hok T' o hc)
    rw [z] at q;cases q
 refine⟨ea,T',cls,a0,dx,H',rfl,I.os,I.bare,?_,?_,e1,T0,e2,TH,tr,hE⟩
 ·refine⟨fun b o q n hb hx=>?_,fun b o q n hb hx=>?_,fun b o q n hx=>base'.free b o q n hx,fun b o q hx=>?_,base'.tups,base'.frzs,base'.tbls⟩
  ·exact kp b o (base'.keep b o q n hb hx) (nL b o q hb) (nG b o q)
  ·obtain⟨s1,q1⟩:=base'.slot b o q n hb hx
   obtain⟨s2,q2⟩:=sl b _ q1 (mO b hb)
   exact⟨s2,q2⟩
  ·obtain⟨o',q'⟩:=base'.there b o q hx
   by_cases hb:b∈frs (envOfC qual scope s0.heap.objs.size f cd::outer)
   ·obtain⟨s2,q2⟩:=sl b _ q' hb
    exact⟨_,q2⟩
   ·exact⟨o',kp b o' q' hb (nG b o q)⟩
 ·intro a o hH
  have nf:∀b u,H' b=some u->b∉frs (envOfC qual scope s0.heap.objs.size f cd::outer)/\b∉G:=fun b u q=>⟨fun hm=>(by
   have:=I.stkFree b hm
   rw [q] at this;cases this),fun hm=>(by rw [(hG b hm).2] at q;cases q)⟩
  refine (hok a o hH).stay (fun b u hb q=>?_) (fun _ q=>q) fun _ _ q=>q
  rcases hb with z | z
  ·rw [z] at q ⊢;exact kp a u q (nf a o hH).1 (nf a o hH).2
  ·exact kp b u q (nf b _ z).1 (nf b _ z).2
theorem cM {P:Program}{w:World}{K:PySem.W.Frag}{mg:Str->Option Value}{base:Heap}{N:List Str}{qual:Str}{scope:Scope}{f:Addr}{cd:Value}{A:Around}{outer:List Env}{s0:Shared}{H0:Hp}{E:XK} :
  eU (CXE P w) (aJ (CXE P w) P w K mg base N qual scope f cd A outer s0 H0 E) E:=by
 intro pins σ H s e s' I h
 obtain⟨ea,T,cls,a0,dx,H',rfl,os,bare,un,hok,n1,n2,m1,m2,trc,hE⟩:=h
 have I':Inv (aJ (CXE P w) P w K mg base N qual scope f cd A outer s0 H0 E) pins σ H' s':=I.call' (ch:=[]) os un hok bare (by simp)
 have back:∀b,s.heap.get? b=none->s0.heap.get? b=none:=fun b q=>by
  cases hc:s0.heap.get? b with
  | none=>rfl
  | some o =>
   obtain⟨o',q'⟩:=I.base.there b o hc (by show b∉[];simp)
   rw [q] at q';cases q'
 show wpAny (model P w) (A.deeper (envOfC qual scope s0.heap.objs.size f cd)) (leaving (envOfC qual scope s0.heap.objs.size f cd) (.ref ea)) _ _ s'
 refine oa (outer:=outer) (L:=s0.heap.objs.size) I'.ok.frames rfl I'.stack trc fun h' T' mv nw tr'=>?_
 exact lU (G:=[ea,T]) I' mv (fun b hb=>by
  simp at hb
  rcases hb with z | z
  ·rw [z];exact⟨back _ n1,m1⟩
  ·rw [z];exact⟨back _ n2,m2⟩) tr' (back _ n1) m1 (.inr nw) hE
theorem lY {P:Program}{w:World}{K:PySem.W.Frag}{mg:Str->Option Value}{base:Heap}{N:List Str}{qual:Str}{scope:Scope}{f:Addr}{cd:Value}{A:Around}{outer:List Env}{s0:Shared}{H0:Hp}{E:XK}
  {pins:List (Addr×Obj)}{σ:St}{H:Hp}{s:Shared}{ea:Addr}{oe:Obj}{vs:Array Value}{a0:Value}
  (I:Inv (aJ (CXE P w) P w K mg base N qual scope f cd A outer s0 H0 E) pins σ H s) (h1:s.heap.get? ea=some oe) (h2:oe.data=Data.fields vs) (h3:vs[1]?=some Value.none) (h4:Hd0 vs a0) (back:s0.heap.get? ea=none) (he:H ea=none) (hE:E oe.cls oe.dict H) :
  (aJ (CXE P w) P w K mg base N qual scope f cd A outer s0 H0 E).xe (.ref ea) s:=by
 show wpAny (model P w) (A.deeper (envOfC qual scope s0.heap.objs.size f cd)) (leaving (envOfC qual scope s0.heap.objs.size f cd) (.ref ea)) _ _ s
 refine leave_new (outer:=outer) (L:=s0.heap.objs.size) I.ok.frames rfl I.stack h1 h2 h3 h4 fun h'' T' mv nT tr=>?_
 exact lU (G:=[ea]) I mv (fun b hb=>by
  have z:b=ea:=by simpa using hb
  rw [z];exact⟨back,he⟩) tr back he (.inr nT) hE
theorem iY {P:Program}{w:World}{K:PySem.W.Frag}{mg:Str->Option Value}{base:Heap}{N:List Str}{qual:Str}{scope:Scope}{f:Addr}{cd:Value}{A:Around}{outer:List Env}{s0:Shared}{H0:Hp}{E:XK}
  {pins:List (Addr×Obj)}{σ:St}{H:Hp}{s:Shared}{h':Heap}{ea:Addr}{cls:Value}{args:List Value}
  (I:Inv (aJ (CXE P w) P w K mg base N qual scope f cd A outer s0 H0 E) pins σ H s) (m:s.heap.MadeExcOf h' ea cls args) (hE:E cls none H) :
  (aJ (CXE P w) P w K mg base N qual scope f cd A outer s0 H0 E).xe (.ref ea) { s with heap:=h' }:=by
 obtain⟨keeps,new,t,there,tn,tt⟩:=m
 have I':Inv (aJ (CXE P w) P w K mg base N qual scope f cd A outer s0 H0 E) pins σ H { s with heap:=h' }:=I.kept (t':=s.toks) keeps
 have back:s0.heap.get? ea=none:=by
  cases hc:s0.heap.get? ea with
  | none=>rfl
  | some o =>
   obtain⟨o',q'⟩:=I.base.there ea o hc (by show ea∉[];simp)
   rw [new] at q';cases q'
 have he:H ea=none:=by
  cases hc:H ea with
  | none=>rfl
  | some o =>
   obtain⟨ob,q⟩:=aX.got (I.hok ea o hc)
   rw [new] at q;cases q
 exact lY I' there rfl rfl ⟨rfl,rfl⟩ back he hE
noncomputable def eO (h:Heap) (C:Addr):Prop:=∃(nm q:Str) (N:Addr) (bs bm bmB:List Value) (hdct:Bool) (sn:List Str) (sub:List Value) (ab:Bool) (col:Option Bool) (dd:Option Addr) (k0 k1 k2 k3 k5:Option Value) (mN:Str->Option Value) (B Bn newId nid initId inN:String) (bmN:List Value),
 h.get? C=some (excClassObj nm q C N bs bm hdct sn sub ab col dd k0 k1 k2 k3 k5 newId)/\h.Ns N mN/\mN (Str.ofString "__init__")=none/\OwnTail h bmB bm/\bm.contains (Value.type "BaseException")=true/\ExcBaseFacts Bn newId inN bmN/\bmB.contains (Value.type Bn)=true/\ExcBaseFacts B nid initId bmB
theorem OwnTail.stays {h h':Heap} (k:∀b o,h.get? b=some o->h'.get? b=some o) {a b:List Value} (x:OwnTail h a b):OwnTail h' a b:=by
 induction x with
 | base=>exact .base
 | own e n i _ ih=>exact .own (k _ _ e) (n.keeps k) i ih
section
variable {X:Cx}{x:Str}{C:Addr}{e:Expr}{es:List Expr}{t:TA}{np cpos pos:Pos}{W:Hp->Prop}
noncomputable def sO (t:TA) (W:Hp->Prop):TS:=fun _ σ H=>t σ H fun vs H1=>vs.length<=sizeLine/\W H1
theorem iw (hx:X.mg x=some (.ref C)) (hC:eO X.base C) (hd:X.A.handled=none) (ha:PA X (e::es) t) (xe:∀(pins:List (Addr×Obj)) (σ:St) (H:Hp) (s:Shared) (h':Heap) (ea:Addr) (args:List Value),Inv X pins σ H s->s.heap.MadeExcOf h' ea (.ref C) args->W H->X.xe (.ref ea) { s with heap:=h' })
  (hg:Gl X x:=by rfl) (hdb:(x == ("__debug__":Str))=false:=by decide) (he:starEach (e::es) X.env=(false,eval e X.env)::starEach es X.env:=by rfl) (hpl:(backTo cpos (starEach (e::es) X.env)).any (·.1)=false:=by rfl) :
  PS X (.Raise (some (.Call (.Name x np) (e::es) [] cpos)) none pos) (sO t W):=by
 intro pins s σ H D I h
 obtain⟨nm,q,N,bs,bm,bmB,hdct,sn,sub,ab,col,dd,k0,k1,k2,k3,k5,mN,B,Bn,newId,nid,initId,inN,bmN,a1,a2,a3,a4,a5,a6,a7,a8⟩:=hC
 refine wpAny_Raise_call_subU (nm:=nm) (q:=q) (N:=N) (bs:=bs) (hdct:=hdct) (sn:=sn) (sub:=sub) (ab:=ab) (col:=col) (dd:=dd) (k0:=k0) (k1:=k1) (k2:=k2) (k3:=k3) (k5:=k5) a6 a7 a8 a5 hd hpl a3 (eR I hg hx ⟨rfl,?_⟩ hdb)
 have hpa:=ha cpos pins s σ H _ I h
 have eb:backTo cpos (starEach (e::es) X.env)=(false,eval e X.env)::backTo cpos (starEach es X.env):=by rw [he];rfl
 rw [eb] at hpa ⊢
 refine Calls.evalArgs_plain (thn hpa fun us s2 hq=>?_)
 obtain⟨vs,H1,I1,r1,hl,hw⟩:=hq
 have k:=I1.bk
 exact⟨rfl,by rw [<- r1.length];exact hl,k _ _ a1,a2.keeps k,OwnTail.stays k a4,fun h' ea m=>xe pins σ H1 s2 h' ea _ I1 m hw⟩
end
section
variable {P:Program}{w:World}{K:PySem.W.Frag}{mg:Str->Option Value}{base:Heap}
theorem Fun.okX {x qual:Str}{st:Stmt}{f:Addr}{fd:FuncData}{N ps:List Str}{k:Nat}{sp:Sp} (F:Fun K x qual st f fd) (S:aP N ps (ao st)) (len:∀vs H Q E,sp vs H Q E->vs.length=ps.length)
  (hbody:∀(cdv:Value) (A:Around) (outer:List Env) (s:Shared) (H:Hp) (vs:List V) (Q:VK) (E:XK),aK k (A.deeper (envOfC qual (ao st) s.heap.objs.size f cdv))->sp vs H Q E ->
   ∃t,PSs (aJ (CXE P w) P w K mg base N qual (ao st) f cdv A outer s H E) (cu st) t/\t { nx:=fun _ H'=>Q .non H',rt:=Q } (start N vs) H):ax P w K mg base (CXE P w) (k + 1) f fd ps sp:=by
 obtain⟨oc,od,kV,doc,pm,an,cdv,ct,osl,rfl,lk,hcd⟩:=F.ex
 exact mQ lk hcd S len fun A outer s H vs Q E hr hsp=>hbody cdv A outer s H vs Q E hr hsp
theorem ax.lift {k:Nat}{f:Addr}{fd:FuncData}{ps:List Str}{sp:Sp} (F:ax P w K mg base CX0 k f fd ps sp):ax P w K mg base (CXE P w) k f fd ps sp :=
 ⟨F.len,fun A outer s H args us vs Q E hr he hb hv hs=>codeAny_mono (F.run A outer s H args us vs Q E hr he hb hv hs) fun r s' hq=>by
  cases r with
  | error e=>exact False.elim hq
  | ok fl=>cases fl <;> exact hq⟩
noncomputable def FnX (P:Program) (w:World) (K:PySem.W.Frag) (mg:Str->Option Value) (base:Heap) (k:Nat) (x:Str) (ps:List Str) (sp:Sp):Prop :=
 ∃f fd,mg x=some (.ref f)/\PySem.W.keepIn K (.ref f)=true/\Binds K fd ps []/\ax P w K mg base (CXE P w) k f fd ps sp
end
theorem cL {X:Cx}{k:Nat}{x:Str}{ps:List Str}{sp:Sp}{E:XK}{e:Expr}{es:List Expr}{t:TA}{p pos:Pos} (F:FnX X.prog X.w X.K X.mg X.base k x ps sp) (hr:aK k X.A) (hx:eU (CXE X.prog X.w) X E) (ha:PA X (e::es) t) (hg:Gl X x:=by rfl)
  (hdb:(x == ("__debug__":Str))=false:=by decide) (he:starEach (e::es) X.env=(false,eval e X.env)::starEach es X.env:=by rfl) (hpl:(backTo pos (starEach es X.env)).any (·.1)=false:=by rfl) :
  PE X (.Call (.Name x p) (e::es) [] pos) (dM sp [] E t):=by
 obtain⟨f,fd,h1,h2,h3,h4⟩:=F
 exact lP h4 hr hg h1 h2 h3 .nil hx ha hdb he hpl
noncomputable def XP (X:Cx) (pins:List (Addr×Obj)) (Ex:St->Value->Option Addr->Hp->Prop) (e:Value) (s1:Shared):Prop :=
 ∃(σ:St) (H:Hp) (s:Shared),Inv X pins σ H s/\CXE X.prog X.w X.stack H s (fun cls dx H'=>Ex σ cls dx H') e s1
noncomputable abbrev TEX:=(St->Value->Option Addr->Hp->Prop)->St->Hp->VK->Prop
noncomputable abbrev TSX:=(St->Value->Option Addr->Hp->Prop)->Ends->St->Hp->Prop
noncomputable def PEX (X:Cx) (e:Expr) (t:TEX):Prop:=∀(pins:List (Addr×Obj)) (s:Shared) (σ:St) (H:Hp) (Q:VK) (Ex:St->Value->Option Addr->Hp->Prop),Inv X pins σ H s->t Ex σ H Q->wpAny (model X.prog X.w) X.A (eval e X.env) (EP X pins σ Q) (XP X pins Ex) s
noncomputable def PSX (X:Cx) (st:Stmt) (t:TSX):Prop:=∀(pins:List (Addr×Obj)) (s:Shared) (σ:St) (H:Hp) (D:Ends) (Ex:St->Value->Option Addr->Hp->Prop),Inv X pins σ H s->t Ex D σ H->wpAny (model X.prog X.w) X.A (exec st X.env) (SP X pins D) (XP X pins Ex) s
section
variable {X:Cx}{k:Nat}{x:Str}{ps:List Str}{sp:Sp}{e:Expr}{es:List Expr}{t:TA}{p pos:Pos}
noncomputable def tH (sp:Sp) (t:TA):TEX:=fun Ex σ H Q=>t σ H fun vs H1=>sp vs H1 Q (fun cls dx H'=>Ex σ cls dx H')
theorem gO (F:FnX X.prog X.w X.K X.mg X.base k x ps sp) (hr:aK k X.A) (ha:PA X.nox (e::es) t) (hg:Gl X x:=by rfl)
  (hdb:(x == ("__debug__":Str))=false:=by decide) (he:starEach (e::es) X.env=(false,eval e X.env)::starEach es X.env:=by rfl) (hpl:(backTo pos (starEach es X.env)).any (·.1)=false:=by rfl) :
  PEX X (.Call (.Name x p) (e::es) [] pos) (tH sp t):=by
 obtain⟨f,fd,hm,hk,hb,F⟩:=F
 intro pins s σ H Q Ex I h
 refine wpAny_Call_Name_kw (eR I hg hm ?_ hdb)
 have I0:Inv X.nox pins σ H s:=⟨⟨I.ok.mod,I.ok.kind,I.ok.glob,I.ok.blt,I.ok.above,I.ok.inj,I.ok.has,I.ok.cab,I.ok.hd,I.ok.frames,I.ok.stk,I.ok.exf,I.ok.bs,I.ok.bsz,I.ok.noex,I.ok.exfs,I.ok.funs,I.ok.frf⟩,I.os,I.bare,I.base,I.loc,I.cell,I.free,I.freeC,I.pin,I.hok,I.len⟩
 refine PySem.W.callWith_K (h₀:=X.base) I.ok.mod.kin hk (wpAny_mono (ha pos pins s σ H _ I0 h) (fun us s1 hq=>?_) fun _ _ z=>False.elim z) he hpl
 obtain⟨vs,H1,I1,r,q⟩:=hq
 have I2:Inv X pins σ H1 s1:=⟨⟨I1.ok.mod,I1.ok.kind,I1.ok.glob,I1.ok.blt,I1.ok.above,I1.ok.inj,I1.ok.has,I1.ok.cab,I1.ok.hd,I1.ok.frames,I1.ok.stk,I1.ok.exf,I1.ok.bs,I1.ok.bsz,I1.ok.noex,I1.ok.exfs,I1.ok.funs,I1.ok.frf⟩,I1.os,I1.bare,I1.base,I1.loc,I1.cell,I1.free,I1.freeC,I1.pin,I1.hok,I1.len⟩
 refine⟨I2.kIn,?_⟩
 have hl:us.length=ps.length:=by rw [<- r.length];exact F.len _ _ _ _ q
 have hbb:=hb s1 us I2.kIn (by simpa using hl)
 simp only [List.append_nil] at hbb
 refine wpAny_call (codeAny_mono (F.run X.A X.stack s1 H1 ⟨us,[]⟩ us vs Q (fun cls dx H'=>Ex σ cls dx H') hr I2.env0 hbb r q) fun r s' hq=>?_)
 cases r with
 | error e=>exact⟨σ,H1,s1,I2,hq⟩
 | ok fl =>
  cases fl with
  | ret u=>exact I2.after hq
  | next=>exact False.elim hq
  | brk=>exact False.elim hq
  | cont=>exact False.elim hq
noncomputable def sH (te:TEX):TSX:=fun Ex D σ H=>te Ex σ H fun _ H1=>D.nx σ H1
theorem gI {te:TEX} (he:PEX X e te) (hs:swapsWith e none pos.line X.env=pure false:=by rfl):PSX X (.Expr e pos) (sH te):=by
 intro pins s σ H D Ex I h
 exact wpAny_Expr_any (thn (he pins s σ H _ Ex I h) fun v s1 ⟨x,H1,I1,r1,q1⟩=>⟨σ,H1,I1,q1⟩) I.quiet hs
end
theorem OwnTail.has {h:Heap}{a b:List Value}{v:Value} (x:OwnTail h a b) (hv:a.contains v=true):b.contains v=true:=by
 induction x with
 | base=>exact hv
 | own _ _ _ _ ih=>rw [List.contains_cons,ih,Bool.or_true]
theorem rQ {K:Frag}{h:Heap}{C:Addr}{bmB:List Value}{newId initId B:String} (X:K.In h) (hx:excIn K C bmB newId=true) (f:ExcBaseFacts B newId initId bmB):eO h C:=by
 unfold excIn at hx
 split at hx
 ·rename_i dct cd sl heq
  split at hx
  ·rename_i C' bm k0 k1 k2 k3 n k5 hm hs
   simp only [Bool.and_eq_true,Bool.not_eq_true',beq_iff_eq] at hx
   obtain⟨⟨⟨⟨⟨h1,h2⟩,h3⟩,h4⟩,h5⟩,h6⟩:=hx
   subst h1
   subst h2
   have ho:=X _ _ heq
   have hsl:sl=#[k0,k1,k2,k3,some (.builtin n),k5]:=by
    rw [<- Array.toList_inj];exact hs
   obtain⟨nm,bs,mro,ns,qn,hdct,sn,sub,ab,col,hdel⟩:=cd
   simp only at hm h3 h4 h5 h6
   subst hm
   subst h3
   subst hsl
   refine⟨nm,qn,ns,bs,bm,bmB,hdct,sn,sub,ab,col,dct,k0,k1,k2,k3,k5,h.nsMap ns,B,B,n,n,initId,initId,bmB,ho,?_,nsMap_none_of_in X h5 h6,tail_of_in X h4,OwnTail.has (tail_of_in X h4) f.hasBase,f,f.hasB,f⟩
   exact Heap.Ns.of_isNs (isNs_of_in X h5)
  ·cases hx
 ·cases hx
theorem nW:isSubtype (.type "type") (.type "tuple")=pure false:=by rw [isSubtype_type];kernel_rfl
theorem pw {M:Model}{A:Around}{E:Value->Shared->Prop}{nm q nm' q':Str}{C N R N':Addr}{bs bm bs' bm':List Value}{hdct hdct':Bool}{sn sn':List Str}{sub sub':List Value}{ab ab':Bool}{col col':Option Bool}{dd dd':Option Addr}{k0 k1 k2 k3 k5 l0 l1 l2 l3 l5:Option Value}{newId newId':String}
  {s:Shared}{e:Addr}{oe:Obj}{Q:Bool->Shared->Prop} (hC:s.heap.get? C=some (excClassObj nm q C N bs bm hdct sn sub ab col dd k0 k1 k2 k3 k5 newId)) (hR:s.heap.get? R=some (excClassObj nm' q' R N' bs' bm' hdct' sn' sub' ab' col' dd' l0 l1 l2 l3 l5 newId'))
  (he:s.heap.get? e=some oe) (hc:oe.cls=.ref C) (hb:bm'.contains (.type "BaseException")=true) (k:Q ((Value.ref C::bm).contains (.ref R)) s):wpAny M A (excMatches (.ref e) (.ref R)) Q E s:=by
 unfold excMatches
 refine wpAny_bind (wpAny_isInstance (T:="type") ⟨_,hR,rfl⟩ nW ?_)
 simp only [Bool.false_eq_true,if_false,pure_bind,List.forIn_cons,List.forIn_nil]
 obtain⟨h,g,d,tk,os⟩:=s
 have hex:∀{Q':Bool->Shared->Prop},Q' true ⟨h,g,d,tk,os⟩->wpAny M A (isExcClass (.ref R)) Q' E ⟨h,g,d,tk,os⟩:=fun {Q'} qq=>by
  unfold isExcClass isType
  simp only [bind_assoc,pure_bind]
  refine wpAny_bind (wpAny_loadPart hR ?_)
  simp only [if_true]
  refine wpAny_isSubtype_exc hR ?_
  rw [List.contains_cons,hb,Bool.or_true]
  exact qq
 refine wpAny_bind (wpAny_bind (wpAny_bind (hex ?_)))
 simp only [Bool.not_true,Bool.false_eq_true,if_false]
 refine wpAny_pure (wpAny_pure (wpAny_bind (wpAny_typeOf_ref he ?_)))
 rw [hc]
 refine wpAny_bind (wpAny_bind (wpAny_bind (wpAny_isSubtype_exc hC ?_)))
 cases c:(Value.ref C::bm).contains (Value.ref R) with
 | true =>
  rw [c] at k
  exact wpAny_pure (wpAny_pure (wpAny_pure k))
 | false =>
  rw [c] at k
  exact wpAny_pure (wpAny_pure (wpAny_pure k))
section
variable {X:Cx}{pins:List (Addr×Obj)}{σ:List (Option V)}{H H':Hp}{s:Shared}{h':Heap}
theorem Inv.stepN {g':Array GenState}{t':Nat}{d':Drawn}{ch:List Addr} (I:Inv X pins σ H s)
  (hch:∀b∈ch,X.s₀.heap.get? b=none/\b≠X.env.locals/\(∀x c,X.env.cells.lookup x=some c->c≠b)/\∀p∈X.pn++pins,p.1≠b)
  (keep:∀b o,b≠X.env.locals->b∉X.fs->b∉ch->s.heap.get? b=some o->H b=none->h'.get? b=some o)
  (slot:∀b o,b≠X.env.locals->b∈X.fs->b∉ch->s.heap.get? b=some o->H b=none->∃sl,h'.get? b=some { o with slots:=sl }) (free:∀b o,b∉ch->s.heap.get? b=some o->H b=none->H' b=none)
  (there:∀b o,b∉ch->s.heap.get? b=some o->∃o',h'.get? b=some o')
  (tups:∀b xs,H b=some (.tup xs)->H' b=some (.tup xs)) (frzs:∀b o u,H b=some (.frz o u)->H' b=some (.frz o u)) (tbls:∀b ps,H b=some (.tbl ps)->∃more,H' b=some (.tbl (ps++more)))
  (ns:∀m,s.heap.Ns X.env.locals m->h'.Ns X.env.locals m) (hok:HOk X.prog X.w H' h') (hg:AllBare g') :
  Inv X pins σ H' { s with heap:=h',gens:=g',drawn:=d',toks:=t' }:=by
 have neL:∀b o,X.s₀.heap.get? b=some o->b≠X.env.locals:=fun b o e=>Nat.ne_of_lt (Nat.lt_of_lt_of_le (Heap.lt_size e) I.ok.above)
 have neC:∀b o,X.s₀.heap.get? b=some o->b∉X.ex->b∉ch:=fun b o e hx hb=>by
  rw [(hch b hb).1] at e;cases e
 have cellK:∀x c,X.env.cells.lookup x=some c->∀v,s.heap.IsCell c v->h'.IsCell c v:=fun x c e v ⟨o,ho,hd⟩=>by
  have nch:c∉ch:=fun z=>(hch c z).2.2.1 x c e rfl
  by_cases hc:c∈X.fs
  ·obtain⟨sl,q⟩:=slot c o (I.cne x c e) hc nch ho (I.freeC x c e)
   exact⟨_,q,hd⟩
  ·exact⟨o,keep c o (I.cne x c e) hc nch ho (I.freeC x c e),hd⟩
 refine⟨I.ok,I.os,hg,⟨fun b o e n hb hx=>?_,fun b o e n hb hx=>?_,fun b o e n hx=>?_,fun b o e hx=>?_,fun b xs e=>tups b xs (I.base.tups b xs e),fun b o xs e=>frzs b o xs (I.base.frzs b o xs e),fun b ps e=>?_⟩,?_,fun x c e=>?_,?_,fun x c e=>?_,fun p hp=>?_,hok,I.len⟩
 ·exact keep b o (neL b o e) hb (neC b o e hx) (I.base.keep b o e n hb hx) (I.base.free b o e n hx)
 ·obtain⟨sl,e1⟩:=I.base.slot b o e n hb hx
  obtain⟨sl',e2⟩:=slot b _ (neL b o e) hb (neC b o e hx) e1 (I.base.free b o e n hx)
  exact⟨sl',e2⟩
 ·obtain⟨o',e1⟩:=I.base.there b o e hx
  exact free b o' (neC b o e hx) e1 (I.base.free b o e n hx)
 ·obtain⟨o',e1⟩:=I.base.there b o e hx
  exact there b o' (neC b o e hx) e1
 ·obtain⟨m1,e1⟩:=I.base.tbls b ps e
  obtain⟨m2,e2⟩:=tbls b _ e1
  exact⟨m1++m2,by rw [e2,Array.append_assoc]⟩
 ·obtain⟨m,hn,hl⟩:=I.loc
  refine⟨m,ns m hn,fun i x v e1 e2 e3=>?_⟩
  obtain⟨u,r,l⟩:=hl i x v e1 e2 e3
  refine⟨u,r,?_⟩
  rcases l with l | ⟨k,c,e,z⟩
  ·exact .inl l
  ·exact .inr ⟨k,c,e,cellK x c e _ z⟩
 ·obtain⟨v,z⟩:=I.cell x c e
  exact⟨v,cellK x c e v z⟩
 ·obtain⟨m,⟨o,_,_,ho,_⟩,_⟩:=I.loc
  exact free _ o (fun z=>(hch _ z).2.1 rfl) ho I.free
 ·obtain⟨v,o,ho,hd⟩:=I.cell x c e
  exact free c o (fun z=>(hch c z).2.2.1 x c e rfl) ho (I.freeC x c e)
 ·obtain⟨e,n,ne,nf,d⟩:=I.pin p hp
  have nch:p.1∉ch:=fun z=>(hch p.1 z).2.2.2 p hp rfl
  exact⟨keep p.1 p.2 ne nf nch e n,free p.1 p.2 nch e n,ne,nf,d⟩
theorem Inv.moved {G:List Addr} (I:Inv X pins σ H s) (hG:∀b∈G,X.s₀.heap.get? b=none/\H b=none/\b≠X.env.locals/\(∀x c,X.env.cells.lookup x=some c->c≠b)/\∀p∈X.pn++pins,p.1≠b)
  (kp:∀b o,s.heap.get? b=some o->b∉frs X.stack->b∉G->h'.get? b=some o) (sl:∀b o,s.heap.get? b=some o->b∈frs X.stack->∃sl,h'.get? b=some { o with slots:=sl }) :
  Inv X pins σ H { s with heap:=h' }:=by
 refine I.stepN (g':=s.gens) (d':=s.drawn) (t':=s.toks) (ch:=G) (fun b hb=>⟨(hG b hb).1,(hG b hb).2.2⟩) (fun b o hL hb hc e _=>kp b o e (fun z=>(List.mem_cons.mp (I.stkSub b z)).elim hL hb) hc) (fun b o hL hb hc e _=>?_) (fun _ _ _ _ n=>n) (fun b o hc e=>?_) (fun _ _ e=>e) (fun _ _ _ e=>e) (fun b ps e=>⟨#[],by rw [e];simp⟩) (fun m hm=>?_) (fun b u e=>?_) I.bare
 ·by_cases z:b∈frs X.stack
  ·exact sl b o e z
  ·exact⟨o.slots,kp b o e z hc⟩
 ·by_cases z:b∈frs X.stack
  ·obtain⟨q,q'⟩:=sl b o e z
   exact⟨_,q'⟩
  ·exact⟨o,kp b o e z hc⟩
 ·obtain⟨o,es,ep,ho,r⟩:=hm
  by_cases z:X.env.locals∈frs X.stack
  ·obtain⟨q,q'⟩:=sl _ o ho z
   exact⟨_,es,ep,q',r⟩
  ·exact⟨o,es,ep,kp _ o ho z (fun y=>(hG _ y).2.2.1 rfl),r⟩
 ·have nf:∀c v,H c=some v->c∉frs X.stack/\c∉G:=fun c v q=>⟨fun hm=>(by
   have:=I.stkFree c hm
   rw [q] at this;cases this),fun hm=>(by rw [(hG c hm).2.1] at q;cases q)⟩
  refine (I.hok b u e).stay (fun c v hc q=>?_) (fun _ q=>q) fun _ _ q=>q
  rcases hc with z | z
  ·rw [z] at q ⊢;exact kp b v q (nf b u e).1 (nf b u e).2
  ·exact kp c v q (nf c _ z).1 (nf c _ z).2
end
section
variable {X:Cx}{pins:List (Addr×Obj)}{σ:List (Option V)}{H:Hp}{s:Shared}
theorem p5 {M:Model}{A:Around}{E:Value->Shared->Prop}{i:Nat}{x:Str}{v:V}{Q:Unit->Shared->Prop} (I:Inv X pins σ H s) (hN:X.N.Nodup) (hi:X.N[i]?=some x) (hk:X.env.scope.names.lookup x=some .local) (hv:σ[i]?=some (some v))
  (h:∀s',Inv X pins (σ.set i none) H s'->Q () s'):wpAny M A (unbindName X.env x) Q E s:=by
 obtain⟨m,hn,hl⟩:=id I.loc
 have hcls:(X.env.scope.kind == .class || (X.env.scope.kind == .module && X.env.locals != X.env.globals))=false:=by rw [I.ok.kind];rfl
 have hlen:i < σ.length:=by rw [I.len];exact (List.getElem?_eq_some_iff.mp hi).1
 obtain⟨u,r,lk⟩:=hl i x v hi hv (.inl hk)
 have hm:m x=some u:=by
  rcases lk with ⟨_,e⟩ | ⟨z,_⟩
  ·exact e
  ·have hk':X.env.kindOf x=some .local:=hk
   rcases z with z | z <;> (rw [hk'] at z;cases z)
 refine wpAny_unbindName_local hk hn hm hcls fun h' u' hn' hs=>?_
 have nb:∀b o,X.s₀.heap.get? b=some o->b≠X.env.locals:=fun b o e=>Nat.ne_of_lt (Nat.lt_of_lt_of_le (Heap.lt_size e) I.ok.above)
 have cne:=I.cne
 refine h _ ⟨I.ok,I.os,I.bare,⟨fun b o e n hb hx=>(hs.2 b (nb b o e)).trans (I.base.keep b o e n hb hx),fun b o e n hb hx=>?_,I.base.free,fun b o e hx=>?_,I.base.tups,I.base.frzs,I.base.tbls⟩,⟨_,hn',fun j y w e1 e2 e3=>?_⟩,fun y c e=>?_,I.free,I.freeC,fun p hp=>?_,fun b ob e=>?_,?_⟩
 ·obtain⟨sl,e1⟩:=I.base.slot b o e n hb hx
  exact⟨sl,(hs.2 b (nb b o e)).trans e1⟩
 ·obtain⟨o',e1⟩:=I.base.there b o e hx
  exact⟨o',(hs.2 b (nb b o e)).trans e1⟩
 ·by_cases hj:j=i
  ·subst hj
   rw [List.getElem?_set_self hlen] at e2
   cases e2
  ·rw [List.getElem?_set_ne (Ne.symm hj)] at e2
   obtain⟨u2,r2,q⟩:=hl j y w e1 e2 e3
   refine⟨u2,r2,?_⟩
   rcases q with ⟨k,e⟩ | ⟨k,c,e,z⟩
   ·refine .inl ⟨k,?_⟩
    have:y≠x:=fun e=>hj (iI hN e1 (e ▸ hi))
    simp [this,e]
   ·exact .inr ⟨k,c,e,z.sameBut hs (cne y c e)⟩
 ·obtain⟨w',z⟩:=I.cell y c e
  exact⟨w',z.sameBut hs (cne y c e)⟩
 ·obtain⟨e,n,ne,nf,d⟩:=I.pin p hp
  exact⟨(hs.2 p.1 ne).trans e,n,ne,nf,d⟩
 ·refine (I.hok b ob e).stay (fun c w' hc q=>(hs.2 c ?_).trans q) (fun _ q=>q) fun _ _ q=>q
  rintro rfl
  rcases hc with z | z
  ·have:=I.free
   rw [z] at this;rw [this] at e;cases e
  ·rw [I.free] at z;cases z
 ·rw [List.length_set];exact I.len
end
section
variable {X:Cx}{pins:List (Addr×Obj)}{σ:St}{H:Hp}{s:Shared}{ea C:Addr}{o:HO}
theorem Inv.track (I:Inv X pins σ H s) (hn:H ea=none) (h0:X.s₀.heap.get? ea=none) (hl:ea≠X.env.locals) (hc:∀x c,X.env.cells.lookup x=some c->c≠ea) (hp:∀p∈X.pn++pins,p.1≠ea)
  (new:aX X.prog X.w (upd H ea o) s.heap ea o):Inv X pins σ (upd H ea o) s:=by
 have J:=I.stepN (h':=s.heap) (H':=upd H ea o) (g':=s.gens) (d':=s.drawn) (t':=s.toks) (ch:=[ea]) (fun b hb=>by
   have z:b=ea:=by simpa using hb
   rw [z];exact⟨h0,hl,hc,hp⟩) (fun b o _ _ _ e _=>e) (fun b o _ _ _ e _=>⟨o.slots,e⟩) (fun b o hb e n=>by rw [au (fun z=>hb (by simp [z]))];exact n) (fun b o _ e=>⟨o,e⟩)
  (fun b xs e=>by rw [au (aZ e hn)];exact e) (fun b o u e=>by rw [au (aZ e hn)];exact e) (fun b ps e=>⟨#[],by rw [au (aZ e hn),e];simp⟩) (fun m hm=>hm) (fun b u e=>?_) I.bare
 ·exact J
 ·by_cases z:b=ea
  ·rw [z,aj] at e
   cases e
   rw [z];exact new
  ·rw [au z] at e
   exact (I.hok b u e).stay (fun _ _ _ q=>q) (fun b q=>by rw [au (aZ q hn)];exact q) (fun b xs q=>by rw [au (aZ q hn)];exact q)
noncomputable def bB (ea C:Addr) (dx:Option Addr):HO:=.ext fun h=>∃oe vs,h.get? ea=some oe/\oe.cls=.ref C/\oe.dict=dx/\oe.data=Data.fields vs/\vs[2]?=some Value.none
theorem rK {P:Program}{w:World}{H:Hp}{h:Heap}{oe:Obj}{dx:Option Addr}{vs:Array Value} (h1:h.get? ea=some oe) (h2:oe.cls=.ref C) (h3:oe.dict=dx) (h4:oe.data=Data.fields vs) (h5:vs[2]?=some Value.none):aX P w H h ea (bB ea C dx) :=
 ⟨⟨oe,vs,h1,h2,h3,h4,h5⟩,⟨oe,h1⟩,fun h1' h2' ⟨o,vs',q1,q2⟩ k=>⟨o,vs',k o q1,q2⟩⟩
end
noncomputable def Cx.held (X:Cx) (ea:Addr):Cx:={ X with A:=X.A.mark (some (.ref ea)),calm:=false,xe:=fun _ _=>False }
section
variable {X:Cx}{pins:List (Addr×Obj)}{σ:St}{H:Hp}{s:Shared}{ea:Addr}
theorem Inv.held (I:Inv X pins σ H s) (ea:Addr):Inv (X.held ea) pins σ H s :=
 ⟨⟨I.ok.mod,I.ok.kind,I.ok.glob,I.ok.blt,I.ok.above,I.ok.inj,I.ok.has,I.ok.cab,(fun z=>by cases z),I.ok.frames,I.ok.stk,I.ok.exf,I.ok.bs,I.ok.bsz,I.ok.noex,I.ok.exfs,I.ok.funs,I.ok.frf⟩,I.os,I.bare,I.base,I.loc,I.cell,I.free,I.freeC,I.pin,I.hok,I.len⟩
theorem Inv.unheld (ok:X.Ok) (I:Inv (X.held ea) pins σ H s):Inv X pins σ H s :=
 ⟨ok,I.os,I.bare,I.base,I.loc,I.cell,I.free,I.freeC,I.pin,I.hok,I.len⟩
theorem gP {M:Model}{A:Around}{E:Value->Shared->Prop}{i:Nat}{n:Str}{pos:Pos}{Q:Unit->Shared->Prop} (I:Inv X pins σ H s) (hN:X.N.Nodup) (hi:X.N[i]?=some n) (hk:X.env.scope.names.lookup n=some .local)
  (h:∀s',Inv X pins (σ.set i none) H s'->Q () s'):wpAny M A (do bindName X.env n Value.none;unbindBehindTheSuite X.env n pos) Q E s:=by
 refine wpAny_bind (wpAny_bindName (fL I hN hi (.inl hk) (v:=.non) rfl (fun s' I'=>?_) (.inr hk)))
 have hl:i < σ.length:=by rw [I.len];exact (List.getElem?_eq_some_iff.mp hi).1
 unfold unbindBehindTheSuite
 refine wpAny_onRaise (p5 I' hN hi hk (v:=.non) (List.getElem?_set_self hl) fun s2 I2=>h s2 ?_)
 rw [List.set_set] at I2
 exact I2
noncomputable def Under (h:Heap) (C R:Addr):Prop:=∃(nm q:Str) (N:Addr) (bs bm:List Value) (hdct:Bool) (sn:List Str) (sub:List Value) (ab:Bool) (col:Option Bool) (dd:Option Addr) (k0 k1 k2 k3 k5:Option Value) (newId:String),
 h.get? C=some (excClassObj nm q C N bs bm hdct sn sub ab col dd k0 k1 k2 k3 k5 newId)/\(Value.ref C::bm).contains (.ref R)=true
noncomputable def mH (D:Ends) (j:Nat):Ends:={ nx:=fun σ H=>D.nx (σ.set j none) H,rt:=D.rt,bk:=fun σ H=>D.bk (σ.set j none) H,ct:=fun σ H=>D.ct (σ.set j none) H }
end
section
variable {X:Cx}{st b0:Stmt}{suite:List Stmt}{tx:TSX}{th:TS}{x n:Str}{R:Addr}{j:Nat}{np hpos pos:Pos}
end
section
variable {X:Cx}{pins:List (Addr×Obj)}{σ:St}{H:Hp}{s:Shared}
theorem Inv.toNox (I:Inv X pins σ H s):Inv X.nox pins σ H s:=⟨⟨I.ok.mod,I.ok.kind,I.ok.glob,I.ok.blt,I.ok.above,I.ok.inj,I.ok.has,I.ok.cab,I.ok.hd,I.ok.frames,I.ok.stk,I.ok.exf,I.ok.bs,I.ok.bsz,I.ok.noex,I.ok.exfs,I.ok.funs,I.ok.frf⟩,I.os,I.bare,I.base,I.loc,I.cell,I.free,I.freeC,I.pin,I.hok,I.len⟩
theorem Inv.ofNox (I:Inv X.nox pins σ H s):Inv X pins σ H s:=⟨⟨I.ok.mod,I.ok.kind,I.ok.glob,I.ok.blt,I.ok.above,I.ok.inj,I.ok.has,I.ok.cab,I.ok.hd,I.ok.frames,I.ok.stk,I.ok.exf,I.ok.bs,I.ok.bsz,I.ok.noex,I.ok.exfs,I.ok.funs,I.ok.frf⟩,I.os,I.bare,I.base,I.loc,I.cell,I.free,I.freeC,I.pin,I.hok,I.len⟩
end
noncomputable def js (X:Cx) (sts:List Stmt) (t:TSX):Prop:=∀(pins:List (Addr×Obj)) (s:Shared) (σ:St) (H:Hp) (D:Ends) (Ex:St->Value->Option Addr->Hp->Prop),Inv X pins σ H s->t Ex D σ H->wpAny (model X.prog X.w) X.A (execs sts X.env) (SP X pins D) (XP X pins Ex) s
section
variable {X:Cx}{st:Stmt}{rest:List Stmt}{t u:TSX}{pos:Pos}
theorem fj (h1:PSX X st t):js X [st] t:=by
 intro pins s σ H D Ex I h
 refine wpAny_execs_cons (thn (h1 pins s σ H D Ex I h) fun f s1 q=>?_)
 cases f with
 | next=>exact wpAny_execs_nil q
 | ret v=>exact q
 | brk=>exact q
 | cont=>exact q
noncomputable def uI (c:TT) (t u:TSX):TSX:=fun Ex D σ H=>c σ H fun b H1=>if b=true then t Ex D σ H1 else u Ex D σ H1
theorem jk {c:Expr}{a b:List Stmt}{tc:TT} (hc:PT X.nox c tc) (ha:js X a t) (hb:js X b u):PSX X (.If c a b pos) (uI tc t u):=by
 intro pins s σ H D Ex I h
 refine wpAny_If (wpAny_mono (hc pins s σ H _ I.toNox h) (fun d s1 hq=>?_) fun _ _ z=>False.elim z)
 obtain⟨H1,I1,q1⟩:=hq
 cases d with
 | true=>exact ha pins s1 σ H1 D Ex I1.ofNox q1
 | false=>exact hb pins s1 σ H1 D Ex I1.ofNox q1
end
open Builtin Builtin.ObjectAttr
inductive cg (h:Heap) (S:List Str) (bmB:List Value):List Value->Prop
 | base:cg h S bmB bmB
 | own {B:Addr}{c0:Value}{dd:Option Addr}{cd:ClassData}{sl:Array (Option Value)}{m:Str->Option Value}{tl:List Value} (e:h.get? B=some ⟨c0,dd,.cls cd,sl⟩) (n:h.Ns cd.ns m) (i:∀x∈S,m x=none) (r:cg h S bmB tl):cg h S bmB (.ref B::tl)
section
variable {h h':Heap}{S:List Str}{bmB tl:List Value}
theorem cg.stays (k:∀b o,h.get? b=some o->h'.get? b=some o) (x:cg h S bmB tl):cg h' S bmB tl:=by
 induction x with
 | base=>exact .base
 | own e n i _ ih=>exact .own (k _ _ e) (n.keeps k) i ih
theorem cg.plain (hS:Str.ofString "__init__"∈S) (x:cg h S bmB tl):OwnTail h bmB tl:=by
 induction x with
 | base=>exact .base
 | own e n i _ ih=>exact .own e n (i _ hS) ih
theorem cg.has (x:cg h S bmB tl) {T:String}{b:Bool} (hb:bmB.contains (.type T)=b):tl.contains (.type T)=b:=by
 induction x with
 | base=>exact hb
 | own _ _ _ _ ih=>rw [List.contains_cons,ih];rfl
theorem cg.passes {self:Value}{what:Str} (x:cg h S bmB tl) (hb:refuseLoop self what bmB=pure ()):refuseLoop self what tl=pure ():=by
 induction x with
 | base=>exact hb
 | own _ _ _ _ ih=>rw [refuseLoop_ref];exact ih
end
section
variable {M:Model}{A:Around}{E:Value->Shared->Prop}{h:Heap}{g:Array GenState}{d:Drawn}{t:Nat}{os:OsState}{S:List Str}{bmB tl:List Value}{x:Str}{y:Option Value}{Q:Option Value->Shared->Prop}
theorem rY (hx:x∈S) (T:cg h S bmB tl) (hr:lookupAlong bmB x=pure y) (hq:Q y ⟨h,g,d,t,os⟩):wpAny M A (lookupAlong tl x) Q E ⟨h,g,d,t,os⟩:=by
 induction T with
 | base=>rw [hr];exact wpAny_pure hq
 | own e n i _ ih =>
  rw [lookupAlong_cons]
  refine wpAny_bind (wpAny_classOwn_cls e n ?_)
  rw [i x hx]
  exact ih
variable {nm q:Str}{C N:Addr}{bs bm:List Value}{hdct:Bool}{sn:List Str}{sub:List Value}{ab:Bool}{col:Option Bool}{dd:Option Addr}{k0 k1 k2 k3 k5:Option Value}{B newId:String}{mN:Str->Option Value}
theorem ky (c1:h.get? C=some (excClassObj nm q C N bs bm hdct sn sub ab col dd k0 k1 k2 k3 k5 newId)) (c2:h.Ns N mN) (c3:mN x=none) (hx:x∈S) (T:cg h S bmB bm) (mr:mroOf (.type B)=pure bmB) (hB:typeLookup (.type B) x=pure y) (hq:Q y ⟨h,g,d,t,os⟩) :
  wpAny M A (typeLookup (.ref C) x) Q E ⟨h,g,d,t,os⟩:=by
 have hr:lookupAlong bmB x=pure y:=by rw [typeLookup_eq,mr] at hB;exact hB
 rw [typeLookup_eq]
 refine wpAny_bind (wpAny_mroOf_exc c1 ?_)
 rw [lookupAlong_cons]
 refine wpAny_bind (wpAny_classOwn_exc c1 c2 ?_)
 rw [c3]
 exact rY hx T hr hq
end
structure el (S:List Str) (h:Heap) (C f:Addr) (nm q:Str) (N:Addr) (bs bm bmB:List Value) (sn:List Str) (sub:List Value) (ab:Bool) (col:Option Bool) (dd:Option Addr) (k0 k1 k2 k3 k5:Option Value) (mN:Str->Option Value) (B newId initId sa ow:String):Prop where
 at_:h.get? C=some (excClassObj nm q C N bs bm true sn sub ab col dd k0 k1 k2 k3 k5 newId)
 ns:h.Ns N mN
 init:mN (Str.ofString "__init__")=some (.ref f)
 no:∀x∈S,mN x=none
 tail:cg h (Str.ofString "__init__"::S) bmB bm
 bf:ExcBaseFacts B newId initId bmB
 sf:StoreFacts B bmB sa ow
 af:ExcAttrBase B bmB
theorem el.stays {S:List Str}{h h':Heap}{C f:Addr}{nm q:Str}{N:Addr}{bs bm bmB:List Value}{sn:List Str}{sub:List Value}{ab:Bool}{col:Option Bool}{dd:Option Addr}{k0 k1 k2 k3 k5:Option Value}{mN:Str->Option Value}{B newId initId sa ow:String}
  (x:el S h C f nm q N bs bm bmB sn sub ab col dd k0 k1 k2 k3 k5 mN B newId initId sa ow) (k:∀b o,h.get? b=some o->h'.get? b=some o):el S h' C f nm q N bs bm bmB sn sub ab col dd k0 k1 k2 k3 k5 mN B newId initId sa ow :=
 ⟨k _ _ x.at_,x.ns.keeps k,x.init,x.no,x.tail.stays k,x.bf,x.sf,x.af⟩
section
variable {prog:Program}{w:World}{A:Around}{E:Value->Shared->Prop}{h:Heap}{g:Array GenState}{d:Drawn}{t:Nat}{os:OsState}
 {S:List Str}{C f:Addr}{nm q:Str}{N:Addr}{bs bm bmB:List Value}{sn:List Str}{sub:List Value}{ab:Bool}{col:Option Bool}{dd:Option Addr}{k0 k1 k2 k3 k5:Option Value}{mN:Str->Option Value}{B newId initId sa ow:String}
theorem o7 (x:el S h C f nm q N bs bm bmB sn sub ab col dd k0 k1 k2 k3 k5 mN B newId initId sa ow) {us:List Value}{oI:Obj}{Q:Fin->Shared->Prop} (f1:h.get? f=some oI) (f2:oI.cls=.type "function")
  (k:∀h' e,h.MadeExcOf h' e (.ref C) us->wpAny (model prog w) A (call (.ref f) (.ref e::us)) (fun r s'=>r=.none/\Q (.done (.ret (.ref e))) s') E ⟨h',g,d,t,os⟩) (hl:us.length<=sizeLine) :
  wpAny (model prog w) A (Builtin.«type.__call__» ⟨.ref C::us,[]⟩) Q E ⟨h,g,d,t,os⟩:=by
 have c1:=x.at_
 have T:=x.tail.plain (List.mem_cons_self ..)
 repeat (first | with_reducible refine wpAny_loadPart_at c1 ?_ | with_reducible refine wpAny_madeBy_exc c1 ?_ | wp_step)
 refine codeAny_call_builtin_code (Code.quiet_builtin _ x.bf.quiet) (wpAny_check_new_subT x.bf T c1 (codeAny_exc_new_subT x.bf T c1 ?_ hl))
 show wpAny _ _ _ _ _ _
 generalize hob:({ cls:=.ref C,data:=.fields #[.ref h.objs.size,.none,.none,.none,.bool false,.none] }:Obj)=ob
 generalize hot:({ cls:=.type "tuple",data:=.seq us.toArray }:Obj)=ot
 have kp:∀b o,h.get? b=some o->((h.push ot).push ob).get? b=some o:=fun b o z=>Heap.get?_push_of_some _ (Heap.get?_push_of_some _ z)
 have g1:((h.push ot).push ob).get? (h.objs.size + 1)=some ob:=by
  have:=Heap.get?_push_size (h.push ot) (o:=ob) (by rw [<- hob];rfl)
  rwa [Heap.size_push] at this
 have oc:ob.cls=.ref C:=by rw [<- hob]
 have c2:=kp _ _ c1
 have cC:(Value.ref C::bm).contains (.ref C)=true:=by simp
 unfold isInstance
 repeat (first | (with_reducible refine wpAny_loadPart_at g1 ?_;rw [oc]) | (with_reducible refine wpAny_isSubtype_exc c2 ?_;rw [cC]) | wp_step)
 show wpAny _ _ (typeLookup (.ref C) _) _ _ _
 refine wpAny_typeLookup_tail c2 (x.ns.keeps kp) (T.keeps kp) x.bf.mroIs x.bf.init.lookup ?_
 rw [show mN "__init__"=some (.ref f) from x.init]
 refine wpAny_holding (wpAny_bind ?_)
 unfold bindSpecial
 refine wpAny_bind (wpAny_typeOf (T:="function") ⟨_,kp _ _ f1,f2⟩ ?_)
 rw [if_pos (by decide)]
 refine wpAny_pure (wpAny_bind (wpAny_mono (k _ (h.objs.size + 1) ⟨kp,Heap.get?_none_of_le (Nat.le_succ _),h.objs.size,by rw [hob];exact g1,Heap.get?_none_of_le (Nat.le_refl _),?_⟩) (fun r s' hr=>?_) fun _ _ z=>z))
 ·rw [hot]
  exact Heap.get?_push_of_some _ (Heap.get?_push_size h (by rw [<- hot];rfl))
 ·obtain⟨rfl,hQ⟩:=hr
  wp_walk
  exact hQ
theorem tN (x:el S h C f nm q N bs bm bmB sn sub ab col dd k0 k1 k2 k3 k5 mN B newId initId sa ow) {us:List Value}{oI:Obj}{Q:Value->Shared->Prop} (f1:h.get? f=some oI) (f2:oI.cls=.type "function")
  (k:∀h' e,h.MadeExcOf h' e (.ref C) us->wpAny (model prog w) (A.under (.builtin "type.__call__" ⟨.ref C::us,[]⟩)) (call (.ref f) (.ref e::us)) (fun r s'=>r=.none/\Q (.ref e) s') E ⟨h',g,d,t,os⟩) (hl:us.length<=sizeLine) :
  wpAny (model prog w) A (call (.ref C) us) Q E ⟨h,g,d,t,os⟩:=by
 have l1:=tc_lookup
 have l2:=tc_bind (.ref C)
 have c1:=x.at_
 have hT:(⟨h,g,d,t,os⟩:Shared).TypeIs (.ref C) "type":=⟨_,c1,rfl⟩
 refine wpAny_call (codeAny_of_tree ?_)
 show wpAny _ _ (callAny (.ref C) _) _ _ _
 repeat (any_goals (first | assumption | with_reducible refine wpAny_loadPart_at c1 ?_ | wp_step))
 refine⟨rfl,codeAny_call_builtin_at (Code.quiet_builtin _ (by decide +kernel)) entry_typeCall (wpAny_check_type_call_sub c1 (o7 x f1 f2 (fun h' e m=>?_) hl))⟩
 exact k h' e m
end
noncomputable def fU (C:Addr) (dx:Option Addr) (t:Addr):Obj:={ cls:=.ref C,dict:=dx,data:=.fields #[.ref t,.none,.none,.none,.bool false,.none] }
noncomputable def dO (e C:Addr) (dx:Option Addr):HO:=.ext fun h=>∃t,h.get? e=some (fU C dx t)
theorem lb {P:Program}{w:World}{H:Hp}{h:Heap}{e C t:Addr}{dx:Option Addr} (q:h.get? e=some (fU C dx t)):aX P w H h e (dO e C dx) :=
 ⟨⟨t,q⟩,⟨_,q⟩,fun h1 h2 ⟨t',z⟩ k=>⟨t',k _ z⟩⟩
theorem lC {P:Program}{w:World}{H:Hp}{h:Heap}{e C:Addr}{dx:Option Addr} (x:aX P w H h e (dO e C dx)):∃t,h.get? e=some (fU C dx t):=x.1
noncomputable def del (H:Hp) (a:Addr):Hp:=fun b=>if b=a then none else H b
theorem iD {H:Hp}{a:Addr}:del H a a=none:=by unfold del;rw [if_pos rfl]
theorem dH {H:Hp}{a b:Addr} (h:b≠a):del H a b=H b:=by unfold del;rw [if_neg h]
section
variable {X:Cx}{pins:List (Addr×Obj)}{σ:St}{H:Hp}{s:Shared}{ea:Addr}{φ:Heap->Prop}
theorem Inv.untrack (I:Inv X pins σ H s) (he:H ea=some (.ext φ)):Inv X pins σ (del H ea) s:=by
 have ne:∀b u,H b=some u->(∀ψ,u≠.ext ψ)->b≠ea:=fun b u q n z=>by
  rw [z,he] at q;cases q
  exact n _ rfl
 have J:=I.step (h':=s.heap) (H':=del H ea) (g':=s.gens) (d':=s.drawn) (t':=s.toks) (ch:=[]) (fun b hb=>absurd hb (by simp)) (fun b o _ _ _ e _=>e) (fun b o _ _ _ e _=>⟨o.slots,e⟩) (fun b o _ _ n=>by
   by_cases z:b=ea
   ·rw [z];exact iD
   ·rw [dH z];exact n) (fun b o _ e=>⟨o,e⟩)
  (fun b xs e=>by rw [dH (ne b _ e fun _ z=>by cases z)];exact e) (fun b o u e=>by rw [dH (ne b _ e fun _ z=>by cases z)];exact e) (fun b ps e=>⟨#[],by rw [dH (ne b _ e fun _ z=>by cases z),e];simp⟩) (fun m hm=>hm) (fun b u e=>?_) I.bare
 ·exact J
 ·by_cases z:b=ea
  ·rw [z,iD] at e;cases e
  ·rw [dH z] at e
   exact (I.hok b u e).stay (fun _ _ _ q=>q) (fun b q=>by rw [dH (ne b _ q fun _ z=>by cases z)];exact q) (fun b xs q=>by rw [dH (ne b _ q fun _ z=>by cases z)];exact q)
end
section
variable {M:Model}{A:Around}{E:Value->Shared->Prop}{s:Shared}{env:Env}{x:Sem Value}{Q:Flow->Shared->Prop}
 {nm q:Str}{C N:Addr}{bs bm:List Value}{hdct:Bool}{sn:List Str}{sub:List Value}{ab:Bool}{col:Option Bool}{dd:Option Addr}{k0 k1 k2 k3 k5:Option Value}{newId:String}
theorem oW (hb:bm.contains (.type "BaseException")=true) (hh:A.handled=none)
  (h:wpAny M A x (fun v s1=>∃e t dx,v=.ref e/\s1.heap.get? C=some (excClassObj nm q C N bs bm hdct sn sub ab col dd k0 k1 k2 k3 k5 newId)/\s1.heap.get? e=some (fU C dx t)/\E (.ref e) s1) E s) :
  wpAny M A (raiseStmt env (some x) none) Q E s:=by
 have cB:(Value.ref C::bm).contains (.type "BaseException")=true:=by rw [List.contains_cons,hb,Bool.or_true]
 unfold raiseStmt
 refine wpAny_bind (wpAny_mono h (fun v s1 h1=>?_) fun _ _ z=>z)
 obtain⟨e,t,dx,rfl,c1,e1,hE⟩:=h1
 unfold fU at e1
 obtain⟨hp,g,d,tk,os⟩:=s1
 repeat (first | with_reducible refine wpAny_loadPart_at e1 ?_ | with_reducible refine wpAny_loadPart_at c1 ?_ | (with_reducible refine wpAny_isSubtype_exc c1 ?_;rw [cB]) | wp_step)
 exact wpAny_raiseNew_none hh hE
end
noncomputable def fE (S:List Str) (h:Heap) (C f:Addr):Prop:=∃nm q N bs bm bmB sn sub ab col dd k0 k1 k2 k3 k5 mN B newId initId sa ow,el S h C f nm q N bs bm bmB sn sub ab col dd k0 k1 k2 k3 k5 mN B newId initId sa ow/\(∀x∈S,x≠Str.ofString "__setattr__"->x≠Str.ofString "__getattribute__"->x≠Str.ofString "__getattr__"->typeLookup (.type B) x=pure none)/\∃oI,h.get? f=some oI/\oI.cls=.type "function"
noncomputable def rJ (C:Addr) (t:TA) (sp:Sp) (W:Value->Option Addr->Hp->Prop):TS:=fun _ σ H=>t σ H fun vs H1=>vs.length<=sizeLine/\∀e,H1 e=none ->
 sp (.ref e::vs) (upd H1 e (dO e C none)) (fun v H2=>v=.non/\∃dx,H2 e=some (dO e C dx)/\W (.ref C) dx (del H2 e)) E0
section
variable {X:Cx}{x:Str}{C f:Addr}{fd:FuncData}{ps:List Str}{sp:Sp}{k:Nat}{e:Expr}{es:List Expr}{t:TA}{np cpos pos:Pos}{W:Value->Option Addr->Hp->Prop}{S:List Str}
theorem pO (hx:X.mg x=some (.ref C)) (hC:fE S X.base C f) (F:ax X.prog X.w X.K X.mg X.base CX0 k f fd ps sp) (hr:aK (k + 1) X.A) (hbi:Binds X.K fd ps []) (hd:X.A.handled=none) (ha:PA X (e::es) t)
  (xe:∀(pins:List (Addr×Obj)) (σ:St) (H:Hp) (s:Shared) (ea:Addr) (oe:Obj) (vs:Array Value) (a0:Value),Inv X pins σ H s->s.heap.get? ea=some oe->oe.data=Data.fields vs->vs[1]?=some Value.none->Hd0 vs a0->X.s₀.heap.get? ea=none->H ea=none->W oe.cls oe.dict H->X.xe (.ref ea) s)
  (hex:X.ex=[]) (hg:Gl X x:=by rfl) (hdb:(x == ("__debug__":Str))=false:=by decide) (he:starEach (e::es) X.env=(false,eval e X.env)::starEach es X.env:=by rfl) (hpl:(backTo cpos (starEach (e::es) X.env)).any (·.1)=false:=by rfl) :
  PS X (.Raise (some (.Call (.Name x np) (e::es) [] cpos)) none pos) (rJ C t sp W):=by
 intro pins s σ H D I h
 obtain⟨nm,q,N,bs,bm,bmB,sn,sub,ab,col,dd,k0,k1,k2,k3,k5,mN,B,newId,initId,sa,ow,EI,_,oI,f1,f2⟩:=hC
 rw [arm_exec_Raise]
 have hb:bm.contains (.type "BaseException")=true:=EI.tail.has EI.bf.hasBase
 refine wpAny_bind (wpAny_standAt (oW (C:=C) (nm:=nm) (q:=q) (N:=N) (bs:=bs) (bm:=bm) (hdct:=true) (sn:=sn) (sub:=sub) (ab:=ab) (col:=col) (dd:=dd) (k0:=k0) (k1:=k1) (k2:=k2) (k3:=k3) (k5:=k5) (newId:=newId) hb hd (wpAny_bind (wpAny_mono (wpAny_Call_ofName (eR I hg hx ?_ hdb)) (fun v s3 h3=>wpAny_bind (wpAny_standAt (wpAny_pure h3))) fun _ _ z=>z))))
 unfold callWith
 have hpa:=ha cpos pins s σ H _ I h
 have eb:backTo cpos (starEach (e::es) X.env)=(false,eval e X.env)::backTo cpos (starEach es X.env):=by rw [he];rfl
 rw [eb] at hpa hpl ⊢
 refine wpAny_bind (wpAny_holding (Calls.evalArgs_plain (thn hpa fun us s2 hq=>wpAny_bind (wpAny_standAt ?_))))
 obtain⟨vs,H1,I1,r1,hl,hw⟩:=hq
 simp only [hpl]
 have kb:=I1.bk
 have EI2:=EI.stays kb
 obtain⟨hp,g,d,tk,os⟩:=s2
 refine wpAny_bind (wpAny_keeperOf_exc EI2.at_ (wpAny_bind (tN EI2 (kb _ _ f1) f2 (fun h' ea m=>?_) (by show us.length<=sizeLine;rw [<- r1.length];exact hl))))
 obtain⟨keeps,new,t0,there,tn,tt⟩:=m
 have I2:Inv X pins σ H1 ⟨h',g,d,tk,os⟩:=I1.kept (s:=⟨hp,g,d,tk,os⟩) (t':=tk) keeps
 have he1:H1 ea=none:=by
  cases hc:H1 ea with
  | none=>rfl
  | some o =>
   obtain⟨ob,q⟩:=aX.got (I1.hok ea o hc)
   rw [new] at q;cases q
 have back:X.s₀.heap.get? ea=none:=by
  cases hc:X.s₀.heap.get? ea with
  | none=>rfl
  | some o =>
   obtain⟨o',q'⟩:=I1.base.there ea o hc (by rw [hex];simp)
   rw [new] at q';cases q'
 have nl:ea≠X.env.locals:=fun z=>by
  obtain⟨m,⟨o,_,_,ho,_⟩,_⟩:=I1.loc
  rw [<- z,new] at ho;cases ho
 have nc:∀x c,X.env.cells.lookup x=some c->c≠ea:=fun y c e z=>by
  obtain⟨v,o,ho,_⟩:=I1.cell y c e
  rw [z,new] at ho;cases ho
 have np':∀p∈X.pn++pins,p.1≠ea:=fun p hp z=>by
  have:=(I1.pin p hp).1
  rw [z,new] at this;cases this
 have I3:Inv X pins σ (upd H1 ea (dO ea C none)) ⟨h',g,d,tk,os⟩:=I2.track he1 back nl nc np' (lb (t:=t0) there)
 have hs:=hw ea he1
 have r2:ar (V.ref ea::vs) (Value.ref ea::us):=.cons rfl r1
 have hln:(Value.ref ea::us).length=ps.length:=by
  rw [<- r2.length];exact F.len _ _ _ _ hs
 have hbb:=hbi ⟨h',g,d,tk,os⟩ (.ref ea::us) I3.kIn (by simpa using hln)
 simp only [List.append_nil] at hbb
 refine wpAny_call (codeAny_mono (F.run _ X.stack _ _ ⟨Value.ref ea::us,[]⟩ (Value.ref ea::us) _ _ E0 (hr.make C us []) (I3.env0.make C us []) hbb r2 hs) fun r s' hq'=>?_)
 cases r with
 | error e=>exact False.elim hq'
 | ok fl =>
  cases fl with
  | ret u =>
   obtain⟨v,H',J,rv,ev,dx,hd2,hW⟩:=I3.after hq'
   subst ev
   cases (show u=Value.none from rv)
   obtain⟨t1,q1⟩:=lC (J.hok ea _ hd2)
   refine⟨rfl,wpAny_bind (wpAny_holding (wpAny_point (wpAny_pure ⟨ea,t1,dx,rfl,(J.bk _ _ EI.at_),q1,?_⟩)))⟩
   exact xe pins σ (del H' ea) s' ea _ _ _ (J.untrack hd2) q1 rfl rfl ⟨rfl,rfl⟩ back iD hW
  | next=>exact False.elim hq'
  | brk=>exact False.elim hq'
  | cont=>exact False.elim hq'
end
open Builtin Builtin.ObjectAttr
section
variable {prog:Program}{w:World}{A:Around}{E:Value->Shared->Prop}{h:Heap}{g:Array GenState}{d:Drawn}{t:Nat}{os:OsState}
 {S:List Str}{C f x:Addr}{nm q:Str}{N:Addr}{bs bm bmB:List Value}{sn:List Str}{sub:List Value}{ab:Bool}{col:Option Bool}{dd:Option Addr}{k0 k1 k2 k3 k5:Option Value}{mN:Str->Option Value}{B newId initId sa ow:String}
 {o:Obj}{vs:Array Value}{name:Str}{v:Value}
theorem qt {M:Model}{nv:Value}{Q:Unit->Shared->Prop} (K:el S h C f nm q N bs bm bmB sn sub ab col dd k0 k1 k2 k3 k5 mN B newId initId sa ow) (x1:h.get? x=some o) (x2:o.cls=.ref C) (hq:Q () ⟨h,g,d,t,os⟩) :
  wpAny M A (checkBuiltinCall sa ⟨[.ref x,nv,v],[]⟩) Q E ⟨h,g,d,t,os⟩:=by
 have c1:=K.at_
 have cB:(Value.ref C::bm).contains (.type ow)=true:=by rw [List.contains_cons,K.tail.has K.sf.hasOwner,Bool.or_true]
 have ha:=K.sf.args (.ref x) nv v
 simp only [checkBuiltinCall,K.sf.kind,K.sf.split]
 refine wpAny_bind ?_
 unfold isInstance
 repeat (first | (with_reducible refine wpAny_loadPart_at x1 ?_;rw [x2]) | (with_reducible refine wpAny_isSubtype_exc c1 ?_;rw [cB]) | wp_step)
 cases hs:Manifest.signature? sa with
 | none=>exact wpAny_pure hq
 | some sig =>
  simp only [argsOk,hs] at ha
  show wpAny M A (Bind.checkArgs sa sig ⟨[.ref x,nv,v],[]⟩) Q E _
  rw [show Bind.checkArgs sa sig ⟨[.ref x,nv,v],[]⟩=pure () from ha]
  exact wpAny_pure hq
theorem qi {tk:Tok}{Q:Fin->Shared->Prop} (K:el S h C f nm q N bs bm bmB sn sub ab col dd k0 k1 k2 k3 k5 mN B newId initId sa ow) (hS:name∈S) (hB:typeLookup (.type B) name=pure none)
  (x1:h.get? x=some o) (x2:o.cls=.ref C) (x3:o.dict=none) (x4:o.data=.fields vs)
  (hq:∀h' tk',h'.get? x=some { o with dict:=some h.objs.size }->h'.Ns1 h.objs.size (fun y=>if y=name then some v else none)->(∀b u,b≠x->h.get? b=some u->h'.get? b=some u)->Q (.done (.ret .none)) ⟨h',g,d,tk',os⟩) :
  wpAny (model prog w) A (Builtin.«object.__setattr__» ⟨[.ref x,.str name tk,v],[]⟩) Q E ⟨h,g,d,t,os⟩:=by
 have c1:=K.at_
 have hp:refuseLoop (.ref x) "__setattr__" bm=pure ():=K.tail.passes (K.sf.passes (.ref x))
 have hn:=K.no name hS
 unfold Builtin.«object.__setattr__»
 repeat (first | rw [refuse_eq] | (rw [refuseLoop_ref,hp]) | (with_reducible refine wpAny_loadPart_at x1 ?_;rw [x2]) | with_reducible refine wpAny_mroOf_exc c1 ?_ | with_reducible refine ky c1 K.ns hn (List.mem_cons_of_mem _ hS) K.tail K.sf.mro hB ?_ | wp_step)
 rw [x3,if_neg (by simp [typeHasDict])]
 split
 ·rename_i z
  cases z
 split
 ·rename_i c z
  rw [x4] at z;cases z
 ·generalize hod:({ cls:=.type "dict",data:=.dict #[] }:Obj)=od
  have e1:(h.push od).get? x=some o:=Heap.get?_push_of_some _ x1
  have nx:x≠h.objs.size:=Nat.ne_of_lt (Heap.lt_size x1)
  refine wpAny_bind (wpAny_alloc' (wpAny_bind (wpAny_update' e1 (wpAny_pure ?_))))
  generalize hU:(fun o:Obj=>({ cls:=o.cls,dict:=some h.objs.size,data:=o.data,slots:=o.slots }:Obj))=U
  have nf:(U o).isFreed=false:=by
   rw [<- hU]
   have z:=(Heap.get?_some_iff.mp x1).2
   obtain⟨_,_,dt,_⟩:=o
   cases dt <;> first | rfl | exact z
  have gd:((h.push od).update x U).get? h.objs.size=some od:=(Heap.get?_update_ne _ _ _ _ nx.symm).trans (Heap.get?_push_at rfl (by rw [<- hod];rfl))
  have nd:((h.push od).update x U).Ns h.objs.size (fun _=>none):=⟨_,#[],_,gd,by rw [<- hod],fun e he=>absurd he (by simp),fun _=>rfl⟩
  show wpAny _ _ (storeInDict h.objs.size (.str name tk) name v) _ _ _
  unfold storeInDict newKeyGuard
  refine wpAny_bind (wpAny_pure (wpAny_bind (wpAny_nsSet1 (Heap.Ns1.of_empty nd) fun h' n' hs=>?_)))
  obtain⟨oD,esD,epD,hoD,hdD,hcD⟩:=n'.count (Within.cons name v Within.nil)
  refine wpAny_bind (wpAny_lookBehind hoD (by rw [hdD];exact pastItsLine_dict (Nat.le_trans hcD (by rw [List.length_cons,List.length_nil,sizeLine_eq];omega))) ?_)
  wp_walk
  refine hq h' _ ?_ n' fun b u n q=>(hs.2 b (Nat.ne_of_lt (Heap.lt_size q))).trans ((Heap.get?_update_ne _ _ _ _ n).trans (Heap.get?_push_of_some _ q))
  have e2:=(hs.2 x nx).trans (Heap.get?_update_self U e1 nf)
  rw [e2,<- hU]
theorem qY {Q:Unit->Shared->Prop} (K:el S h C f nm q N bs bm bmB sn sub ab col dd k0 k1 k2 k3 k5 mN B newId initId sa ow) (hsa:Str.ofString "__setattr__"∈S) (hS:name∈S) (hB:typeLookup (.type B) name=pure none)
  (x1:h.get? x=some o) (x2:o.cls=.ref C) (x3:o.dict=none) (x4:o.data=.fields vs)
  (hq:∀h' tk',h'.get? x=some { o with dict:=some h.objs.size }->h'.Ns1 h.objs.size (fun y=>if y=name then some v else none)->(∀b u,b≠x->h.get? b=some u->h'.get? b=some u)->Q () ⟨h',g,d,tk',os⟩) :
  wpAny (model prog w) A (setAttr (.ref x) name v) Q E ⟨h,g,d,t,os⟩:=by
 have c1:=K.at_
 have b3:=K.sf.slot.bind (.ref x)
 have hn:=K.no _ hsa
 unfold setAttr callSpecial? specialOf
 repeat (any_goals (first | assumption | (with_reducible refine wpAny_loadPart_at x1 ?_;rw [x2]) | with_reducible refine ky c1 K.ns hn (List.mem_cons_of_mem _ hsa) K.tail K.sf.mro K.sf.slot.lookup ?_ | wp_step))
 refine codeAny_call_builtin K.sf.slot.plain K.sf.entry (qt K x1 x2 (qi K hS hB x1 x2 x3 x4 fun h' tk' a b c=>?_))
 repeat (any_goals (first | assumption | wp_step))
 exact hq h' tk' a b c
end
open Builtin Builtin.ObjectAttr
section
variable {prog:Program}{w:World}{A:Around}{E:Value->Shared->Prop}{h:Heap}{g:Array GenState}{d:Drawn}{t:Nat}{os:OsState}
 {S:List Str}{C f x dx:Addr}{nm q:Str}{N:Addr}{bs bm bmB:List Value}{sn:List Str}{sub:List Value}{ab:Bool}{col:Option Bool}{dd:Option Addr}{k0 k1 k2 k3 k5:Option Value}{mN mA:Str->Option Value}{B newId initId sa ow:String}
 {o:Obj}{vs:Array Value}{name:Str}{v:Value}
end
section
variable {X:Cx}{S:List Str}{o e value:Expr}{n:Str}{pos pos':Pos}{ta tv:TE}{C f:Addr}
noncomputable def tT (C:Addr) (ta tv:TE) (n:Str):TS:=fun D σ H=>tv σ H fun y H1=>ta σ H1 fun x H2=>∃a,x=.ref a/\H2 a=some (dO a C none)/\∀dx,H2 dx=none->dx≠a->D.nx σ (upd (upd H2 a (dO a C (some dx))) dx (.xd [(n,y)]))
theorem sm (hC:fE S X.base C f) (h1:Str.ofString "__setattr__"∈S) (h3:n∈S) (h4:n≠Str.ofString "__setattr__"/\n≠Str.ofString "__getattribute__"/\n≠Str.ofString "__getattr__") (ha:PE X o ta) (hv:PE X value tv) (hs:swapsWith value (some (.Attribute o n pos')) pos.line X.env=pure false:=by rfl) :
  PS X (.Assign [.Attribute o n pos'] value pos) (tT C ta tv n):=by
 intro pins s σ H D I h
 obtain⟨nm,q,N,bs,bm,bmB,sn,sub,ab,col,dd,k0,k1,k2,k3,k5,mN,B,newId,initId,sa,ow,EI,noB,_⟩:=hC
 refine plainObj_wpAny_Assign_Attribute (thn (hv pins s σ H _ I h) fun u s1 ⟨y,H1,I1,ry,q⟩=>thn (ha pins s1 σ H1 _ I1 q) fun ov s2 ⟨x,H2,I2,rx,a,ex,ea,q2⟩=>?_) hs
 subst ex
 obtain rfl:ov=Value.ref a:=rx
 obtain⟨t0,o1⟩:=lC (I2.hok a _ ea)
 obtain⟨hp,g,d,tk,os⟩:=s2
 refine qY (EI.stays I2.bk) h1 h3 (noB n h3 h4.1 h4.2.1 h4.2.2) o1 rfl rfl rfl fun h' tk' a1 a2 a3=>?_
 have hn:H2 hp.objs.size=none:=I2.hok.fresh (Nat.le_refl _)
 have ne:hp.objs.size≠a:=Nat.ne_of_gt (Heap.lt_size o1)
 refine⟨σ,_,?_,q2 hp.objs.size hn ne⟩
 obtain⟨oD,es,ep,b1,b2⟩:=id a2
 have J:=I2.write (x:=a) (e:=a) (o:=dO a C (some hp.objs.size)) (h':=h') (t':=tk') (by rw [ea];exact True.intro) (.inl rfl) (fun b u n q=>a3 b u n q) ⟨_,a1⟩ (lb (t:=t0) a1)
 refine Inv.track (s:=⟨h',g,d,tk',os⟩) J (by rw [au ne];exact hn) ?_ ?_ ?_ ?_ ⟨_,a2,fun z=>?_⟩
 ·exact Heap.get?_none_of_le I2.sz
 ·exact Nat.ne_of_gt I2.lt
 ·intro y c e z
  obtain⟨v,o,ho,_⟩:=I2.cell y c e
  exact absurd (Heap.lt_size ho) (by rw [z];exact Nat.lt_irrefl _)
 ·intro p hp' z
  have:=(I2.pin p hp').1
  exact absurd (Heap.lt_size this) (by rw [z];exact Nat.lt_irrefl _)
 ·show hZ (List.lookup z [(n,y)]) (if z=n then some u else none)
  by_cases c:z=n
  ·rw [c,if_pos rfl]
   have:List.lookup n [(n,y)]=some y:=by simp [List.lookup]
   rw [this];exact ry
  ·rw [if_neg c]
   have:List.lookup z [(n,y)]=none:=by
    unfold List.lookup
    rw [show (z == n)=false from beq_eq_false_iff_ne.mpr c]
    rfl
   rw [this];exact True.intro
end
theorem oU {K:Frag}{h:Heap}{N:Addr}{m:Str->Option Value}{x:Str}{v:Value} (X:K.In h) (G:h.Ns N m) (e:nsIn K N x=some (some v)):m x=some v:=by
 obtain⟨o,es,ep,ho,hd,_,hf⟩:=G
 unfold nsIn at e
 split at e
 ·rename_i c d es' n' sl q
  have q2:=X _ _ q
  rw [ho] at q2
  cases q2
  cases hd
  split at e
  ·rename_i z hz
   rw [<- hf]
   unfold nsFind findBy
   rw [<- Array.find?_toList,hz]
   simpa using e
  ·split at e <;> simp at e
 ·cases e
noncomputable def gU (K:Frag) (S:List Str) (bmB:List Value):List Value->Bool
 | []=>bmB == []
 | v::r=>(v::r) == bmB || (match v with
  | .ref A=>(match K.lookup A with
   | some ⟨_,_,.cls cd,_⟩=>nsOkIn K cd.ns && S.all (fun x=>nsIn K cd.ns x == some none) && gU K S bmB r
   | _=>false)
  | _=>false)
theorem kI {K:Frag}{h:Heap}{S:List Str}{bmB:List Value} (X:K.In h):∀{l:List Value},gU K S bmB l=true->cg h S bmB l
 | [],e=>by
  have z:bmB=[]:=beq_iff_eq.mp e
  rw [z];exact .base
 | v::r,e=>by
  unfold gU at e
  rcases Bool.or_eq_true_iff.mp e with q | q
  ·rw [beq_iff_eq.mp q];exact .base
  ·split at q
   ·split at q
    ·rename_i ho
     simp only [Bool.and_eq_true,List.all_eq_true,beq_iff_eq] at q
     exact .own (X _ _ ho) (.of_isNs (isNs_of_in X q.1.1)) (fun x hx=>nsMap_none_of_in X q.1.1 (q.1.2 x hx)) (kI X q.2)
    ·cases q
   ·cases q
noncomputable def fX (K:Frag) (S:List Str) (C f:Addr) (bmB:List Value) (newId:String):Bool:=match K.lookup C with
 | some ⟨.type "type",_,.cls cd,sl⟩=>(match cd.mro,sl.toList with
  | .ref C'::bm,[_,_,_,_,some (.builtin n),_]=>C' == C && n == newId && !cd.hasDel && cd.hasDict && gU K (Str.ofString "__init__"::S) bmB bm && nsOkIn K cd.ns && nsIn K cd.ns (Str.ofString "__init__") == some (some (.ref f)) && S.all (fun x=>nsIn K cd.ns x == some none) && (match K.lookup f with | some o=>o.cls == .type "function" | none=>false)
  | _,_=>false)
 | _=>false
theorem sy {K:Frag}{h:Heap}{S:List Str}{C f:Addr}{bmB:List Value}{newId initId B sa ow:String} (X:K.In h) (hx:fX K S C f bmB newId=true) (b:ExcBaseFacts B newId initId bmB) (sf:StoreFacts B bmB sa ow) (af:ExcAttrBase B bmB)
  (no:∀x∈S,x≠Str.ofString "__setattr__"->x≠Str.ofString "__getattribute__"->x≠Str.ofString "__getattr__"->typeLookup (.type B) x=pure none):fE S h C f:=by
 unfold fX at hx
 split at hx
 ·rename_i dct cd sl heq
  split at hx
  ·rename_i C' bm k0 k1 k2 k3 n k5 hm hs
   simp only [Bool.and_eq_true,Bool.not_eq_true',beq_iff_eq,List.all_eq_true] at hx
   obtain⟨⟨⟨⟨⟨⟨⟨⟨h1,h2⟩,h3⟩,h3'⟩,h4⟩,h5⟩,h6⟩,h7⟩,h8⟩:=hx
   subst h1
   subst h2
   have ho:=X _ _ heq
   have hsl:sl=#[k0,k1,k2,k3,some (.builtin n),k5]:=by
    rw [<- Array.toList_inj];exact hs
   obtain⟨nm,bs,mro,ns,qn,hdct,sn,sub,ab,col,hdel⟩:=cd
   simp only at hm h3 h3' h4 h5 h6 h7
   subst hm
   subst h3
   subst h3'
   subst hsl
   have G:h.Ns ns (h.nsMap ns):=Heap.Ns.of_isNs (isNs_of_in X h5)
   refine⟨nm,qn,ns,bs,bm,bmB,sn,sub,ab,col,dct,k0,k1,k2,k3,k5,h.nsMap ns,B,n,initId,sa,ow,⟨ho,G,oU X G h6,fun x hx=>nsMap_none_of_in X h5 (h7 x hx),kI X h4,b,sf,af⟩,no,?_⟩
   split at h8
   ·rename_i o hf
    exact⟨o,X _ _ hf,beq_iff_eq.mp h8⟩
   ·cases h8
  ·cases hx
 ·cases hx
noncomputable def eK:List Str:=[Str.ofString "lot",Str.ofString "__setattr__",Str.ofString "__getattribute__",Str.ofString "__getattr__"]
theorem sU:∀x∈eK,x≠Str.ofString "__setattr__"->x≠Str.ofString "__getattribute__"->x≠Str.ofString "__getattr__"->typeLookup (.type "ValueError") x=pure none:=by
 intro x hx a b c
 have z:x=Str.ofString "lot":=by
  unfold eK at hx
  simp only [List.mem_cons,List.not_mem_nil,or_false] at hx
  rcases hx with z | z | z | z
  ·exact z
  ·exact absurd z a
  ·exact absurd z b
  ·exact absurd z c
 rw [z,typeLookup_type,builtinLookup_eq_fast];kernel_rfl
noncomputable abbrev veM:List Value:=[.type "ValueError",.type "Exception",.type "BaseException",.type "object"]
theorem qI {K:Frag}{h:Heap}{C f:Addr} (X:K.In h) (hx:fX K eK C f veM "ValueError.__new__"=true):fE eK h C f :=
 sy X hx F.excBase_ValueError F.store_ValueError F.attrBase_ValueError sU
theorem iP {K:Frag}{h:Heap}{C:Addr} (X:K.In h) (hx:excIn K C veM "ValueError.__new__"=true):eO h C:=rQ X hx F.excBase_ValueError
noncomputable def fT (K:Frag) (C R:Addr):Bool:=match K.lookup C with
 | some ⟨.type "type",_,.cls cd,sl⟩=>(match cd.mro,sl.toList with
  | .ref C'::bm,[_,_,_,_,some (.builtin _),_]=>C' == C && !cd.hasDel && (Value.ref C::bm).contains (.ref R)
  | _,_=>false)
 | _=>false
theorem iB {K:Frag}{h:Heap}{C R:Addr} (X:K.In h) (hx:fT K C R=true):Under h C R:=by
 unfold fT at hx
 split at hx
 ·rename_i dct cd sl heq
  split at hx
  ·rename_i C' bm k0 k1 k2 k3 n k5 hm hs
   simp only [Bool.and_eq_true,Bool.not_eq_true',beq_iff_eq] at hx
   obtain⟨⟨h1,h2⟩,h3⟩:=hx
   subst h1
   have ho:=X _ _ heq
   have hsl:sl=#[k0,k1,k2,k3,some (.builtin n),k5]:=by
    rw [<- Array.toList_inj];exact hs
   obtain⟨nm,bs,mro,ns,qn,hdct,sn,sub,ab,col,hdel⟩:=cd
   simp only at hm h2 h3
   subst hm
   subst h2
   subst hsl
   exact⟨nm,qn,ns,bs,bm,hdct,sn,sub,ab,col,dct,k0,k1,k2,k3,k5,n,ho,h3⟩
  ·cases hx
 ·cases hx
section
variable {X:Cx}{st b0:Stmt}{suite:List Stmt}{tx:TSX}{th:TS}{x n:Str}{R:Addr}{j:Nat}{np hpos pos:Pos}
end
section
variable {X:Cx}{e:Expr}{es:List Expr}{pos:Pos}
end
section
variable {X:Cx}{st b0:Stmt}{suite:List Stmt}{tx:TSX}{th:TS}{x:Str}{R:Addr}{np hpos pos:Pos}
end
open Builtin Builtin.ObjectAttr
section
variable {prog:Program}{w:World}{A:Around}{E:Value->Shared->Prop}{K:Frag}{x D:Addr}{ox:Obj}{odo:Option Obj}{hh:Heap}{g:Array GenState}{d:Drawn}{t:Nat}{os:OsState}
theorem p7 {M:Model}{nv:Value}{Q:Unit->Shared->Prop} (L0:Looks M hh (typeOf (.ref x)) (.ref D)) (L1:Looks M hh (isSubtype (.ref D) (.type "BaseException")) true) (hq:Q () ⟨hh,g,d,t,os⟩) :
  wpAny M A (checkBuiltinCall "BaseException.__getattribute__" ⟨[.ref x,nv],[]⟩) Q E ⟨hh,g,d,t,os⟩:=by
 have b1:builtinKind "BaseException.__getattribute__"=some .slot:=by decide +kernel
 have b2:splitId "BaseException.__getattribute__"=some ("BaseException","__getattribute__"):=by decide +kernel
 have ha:=F.args_bexc_ga (.ref x) nv
 simp only [checkBuiltinCall,b1,b2]
 refine wpAny_bind ?_
 unfold isInstance
 repeat (first | with_reducible refine L0.at ?_ | with_reducible refine L1.at ?_ | wp_step)
 exact hq
theorem pP {Q:Option Value->Shared->Prop}{s:Shared} (X:K.In s.heap) (I:InstAt s.heap x ox D odo) (SL:Slot "ValueError" "__getattribute__" "BaseException.__getattribute__") (hc:(clsIn K D).isSome=true) (hga:findIn K (.ref D) "__getattribute__"=some (some (.builtin "BaseException.__getattribute__"))) (hgb:findIn K (.ref D) "__getattr__"=some none)
  (ha:findIn K (.ref D) "__class__"=some (some (.builtin "object.__class__"))) (hn:specialIn K (.builtin "object.__class__") "__get__"=some (some (.builtin "getset_descriptor.__get__"))) (htk:takesIn K (.builtin "object.__class__")=some true)
  (hb:subIn K (.ref D) (.type "BaseException")=some true) (hm:mroIn K D (.type "object")=some true) (h:Q (some (.ref D)) { s with toks:=s.toks + 1 }) :
  wpAny (model prog w) A (getAttr? (.ref x) "__class__") Q E s:=by
 obtain⟨hh,g,d,t,os⟩:=s
 have L0:=I.type (M:=model prog w)
 have L1:=looks_findIn (M:=model prog w) X hga
 have L2:=looks_findIn (M:=model prog w) X hgb
 have L4:Looks (model prog w) hh (isSubtype (.ref D) (.type "BaseException")) true:=looks_subIn X hb
 obtain⟨cd,hc⟩:=Option.isSome_iff_exists.mp hc
 have hf:findObj K D odo "__class__"=some (.bind (.builtin "getset_descriptor.__get__") (.builtin "object.__class__")):=by
  simp only [findObj,hc,ha,hn,htk,Option.bind_some]
 have L3:=looks_find (M:=model prog w) X I hf
 have b3:=SL.bind (.ref x)
 have z2:(Value.builtin "BaseException.__getattribute__" == Value.builtin "object.__getattribute__")=false:=by decide +kernel
 unfold getAttr? getAttrBy? getAttrBy
 refine wpAny_bind (wpAny_mkText (wpAny_bind (wpAny_attempt (wpAny_holding (wpAny_bind (L0.at (wpAny_bind (L1.at ?_))))))))
 dsimp only
 rw [z2,Bool.and_false,if_neg Bool.false_ne_true]
 unfold getAttrByItsOwn hookBefore
 repeat (any_goals (first | assumption | with_reducible refine L2.at ?_ | wp_step))
 refine codeAny_call_builtin SL.plain F.entry_bexc_ga (p7 L0 L4 ?_)
 unfold Builtin.«object.__getattribute__»
 repeat (any_goals (first | assumption | with_reducible refine L0.at ?_ | with_reducible refine L3.at ?_ | wp_step))
 refine class_get (s:=⟨hh,g,d,t + 1,os⟩) X I hm (wpAny_pure ?_)
 exact handed_on rfl (wpAny_pure h)
structure gj (K:Frag) (D:Addr):Prop where
 cls:(clsIn K D).isSome=true
 ga:findIn K (.ref D) "__getattribute__"=some (some (.builtin "BaseException.__getattribute__"))
 gb:findIn K (.ref D) "__getattr__"=some none
 kl:findIn K (.ref D) "__class__"=some (some (.builtin "object.__class__"))
 gt:specialIn K (.builtin "object.__class__") "__get__"=some (some (.builtin "getset_descriptor.__get__"))
 tk:takesIn K (.builtin "object.__class__")=some true
 sb:subIn K (.ref D) (.type "BaseException")=some true
 mr:mroIn K D (.type "object")=some true
noncomputable def fV (K:Frag) (D:Addr):Bool:=(clsIn K D).isSome && findIn K (.ref D) "__getattribute__" == some (some (.builtin "BaseException.__getattribute__")) && findIn K (.ref D) "__getattr__" == some none && findIn K (.ref D) "__class__" == some (some (.builtin "object.__class__")) &&
 specialIn K (.builtin "object.__class__") "__get__" == some (some (.builtin "getset_descriptor.__get__")) && takesIn K (.builtin "object.__class__") == some true && subIn K (.ref D) (.type "BaseException") == some true && mroIn K D (.type "object") == some true
theorem iR {K:Frag}{D:Addr} (h:fV K D=true):gj K D:=by
 unfold fV at h
 simp only [Bool.and_eq_true,beq_iff_eq] at h
 obtain⟨⟨⟨⟨⟨⟨⟨h1,h2⟩,h3⟩,h4⟩,h5⟩,h6⟩,h7⟩,h8⟩:=h
 exact⟨h1,h2,h3,h4,h5,h6,h7,h8⟩
theorem qQ {K:Frag}{x D:Addr} (k:gj K D):KitX K (.ref x) (.ref D) (fun h=>∃ox odo,InstAt h x ox D odo) where
 ty:=fun _ _ _ ⟨_,_,I⟩=>I.type
 it:=fun _ _ X _=>by
  obtain⟨cd,hc⟩:=Option.isSome_iff_exists.mp k.cls
  unfold clsIn at hc
  split at hc
  ·rename_i ho
   intro A' Q' E' s' kk q
   unfold isType loadHead
   exact wpAny_bind (wpAny_loadPart (kk _ _ (X _ _ ho)) (wpAny_pure q))
  ·cases hc
 ne:=fun h tp dd its n sl X htp=>by
  obtain⟨cd,hc⟩:=Option.isSome_iff_exists.mp k.cls
  refine Bool.eq_false_iff.mpr fun q=>?_
  have e:D=tp:=Value.ref.inj (beq_iff_eq.mp q)
  subst e
  unfold clsIn at hc
  split at hc
  ·rename_i ho
   have z:=(X _ _ ho).symm.trans htp
   cases z
  ·cases hc
 ca:=fun X ⟨_,_,I⟩ h=>pP X I F.attrBase_ValueError.ga k.cls k.ga k.gb k.kl k.gt k.tk k.sb k.mr h
end
section
variable {X:Cx}
theorem qW {pins:List (Addr×Obj)}{σ:St}{H:Hp}{s:Shared}{a C:Addr}{dx:Option Addr} (I:Inv X pins σ H s) (ea:H a=some (bB a C dx)) (hd:∀d,dx=some d->∃fs,H d=some (.xd fs)):∃ox odo,InstAt s.heap a ox C odo:=by
 obtain⟨⟨oe,vs,o1,o2,o3,o4,_⟩,_⟩:=(show aX X.prog X.w H s.heap a (bB a C dx) from I.hok a _ ea)
 cases dx with
 | none=>exact⟨oe,none,o1,o2,by unfold notCls;rw [o4],by rw [o3];exact True.intro⟩
 | some d =>
  obtain⟨fs,hf⟩:=hd d rfl
  obtain⟨mA,nA,rA⟩:=(show aX X.prog X.w H s.heap d (.xd fs) from I.hok d _ hf)
  obtain⟨o,es,ep,h1,h2⟩:=nA.ns
  exact⟨oe,some o,o1,o2,by unfold notCls;rw [o4],by rw [o3];exact h1⟩
theorem cU {C:Addr}{c:V}{cv:Value}{b:Bool} (k:gj X.K C) (rc:∀u,RelV c u->u=cv) (e:kitOne X.K (.ref C) cv=some b):cf X (.builtin "isinstance") (fun xs H Q=>∃a dx,xs=[.ref a,c]/\H a=some (bB a C dx)/\(∀d,dx=some d->∃fs,H d=some (.xd fs))/\Q (.bl b) H):=by
 intro pins s σ H xs us Q I r h
 obtain⟨a,dx,rfl,ea,hd,q⟩:=h
 obtain⟨u,w',rfl,rx,ry⟩:=vals2 r
 cases (show u=Value.ref a from rx)
 rw [rc _ ry]
 exact kia_one (qQ k) I.kIn (qW I ea hd) e (fun z=>nomatch z) fun tk=>⟨.bl b,H,I.tok tk,rfl,q⟩
end
end L2
namespace L2
open PySem PySem.Spec PyProof.Rows
structure cY (k:Nat) (A:Around):Prop where
 dp:A.depth + 3 * k + 5 < recursionLimit
 un:A.units + 16 * k + 200 < cLine
 gd:A.guards=some []
theorem cY.deeper {k:Nat}{A:Around} (r:cY (k + 1) A) (env:Env):cY k (A.deeper env) :=
 ⟨by have:=r.dp;show A.depth + 1 + 3 * k + 5 < _;omega,by have:=r.un;show A.units + 3 + 16 * k + 200 < _;omega,r.gd⟩
theorem cY.depth {k:Nat}{A:Around} (r:cY k A):A.depth < recursionLimit:=by have:=r.dp;omega
noncomputable def fv (CX:CXT) (P:Program) (w:World) (K:PySem.W.Frag) (mg:Str->Option Value) (base:Heap) (N:List Str) (qual:Str) (scope:Scope) (f:Addr) (cd:Value) (A:Around) (outer:List Env) (s:Shared) (H:Hp) (E:XK):Cx:={ aJ CX P w K mg base N qual scope f cd A outer s H E with calm:=false }
structure uX (P:Program) (w:World) (K:PySem.W.Frag) (mg:Str->Option Value) (base:Heap) (CX:CXT) (k:Nat) (f:Addr) (fd:FuncData) (ps:List Str) (sp:Sp):Prop where
 len:∀vs H Q E,sp vs H Q E->vs.length=ps.length
 run:∀(A:Around) (outer:List Env) (s:Shared) (H:Hp) (args:Args) (us:List Value) (vs:List V) (Q:VK) (E:XK),cY k A->dN P w K mg base A outer s H->BindsTo s fd args (ps.zip us)->ar vs us->sp vs H Q E ->
  codeAny (model P w) A (.call (.ref f) args) (CR CX outer P w H s Q E) s
theorem pf {CX:CXT}{P:Program}{w:World}{K:PySem.W.Frag}{mg:Str->Option Value}{base:Heap}{N ps:List Str}{qual:Str}{scope:Scope}{f:Addr}{cd:Value}{A:Around}{outer:List Env}{s s1:Shared}{H:Hp}{E:XK}{us:List Value}{vs:List V}
  (S:aP N ps scope) (e0:dN P w K mg base A outer s H) (hl:vs.length=ps.length) (r:ar vs us)
  (x:InCallC s s.heap.objs.size (bindL (envOfC qual scope s.heap.objs.size f cd).kindOf (ps.zip us) fun _=>none) (cellsFrom (s.heap.objs.size + 1) scope.names []) (bindC (envOfC qual scope s.heap.objs.size f cd).kindOf (ps.zip us) fun _=>none) s1) :
  Inv (fv CX P w K mg base N qual scope f cd A outer s H E) [] (start N vs) H s1:=by
 have hpl:ps.length<=N.length:=by have:=congrArg List.length S.pre;rw [List.length_take] at this;omega
 obtain⟨h1,tk,rfl,hk⟩:=x.done
 have noA:∀b:Addr,b∉(fv CX P w K mg base N qual scope f cd A outer s H E).ex:=fun b z=>absurd (show b∈([]:List Addr) from z) (by simp)
 refine⟨⟨e0.mod,S.kind,rfl,rfl,Nat.le_refl _,fun y z c h1 h2=>?_,fun y hy=>?_,fun y c _ h=>?_,fun z=>(nomatch (show false=true from z)),Around.frames_deeper e0.frames,.inr ⟨rfl,rfl⟩,fun b z=>absurd z (noA b),e0.bs,e0.bsz,fun b _ _=>noA b,fun b z=>absurd z (noA b),e0.funs,e0.frf⟩,
  rfl,e0.bare,Un.kept hk,⟨_,x.toInCall.ns,fun i y v h1 h2 h3=>?_⟩,fun y c h=>⟨_,x.cell y c h⟩,e0.hok.fresh (Nat.le_refl _),fun y c h=>?_,fun p hp=>absurd (show p∈([]:List (Addr×Obj)) from hp) (by simp),e0.hok.kept hk,?_⟩
 ·exact name_of_addr x.apart (PySem.mem_of_lookup h1) (PySem.mem_of_lookup h2)
 ·have hy:scope.names.lookup y=some .cell\/scope.names.lookup y=some .free:=hy
  rcases hy with hy | hy
  ·exact gy hy
  ·exact absurd rfl (S.nofree _ (PySem.mem_of_lookup hy))
 ·exact Nat.le_of_lt (x.above y c (PySem.mem_of_lookup h))
 ·have hi:i < vs.length:=by
   unfold start at h2
   by_cases hi:i < vs.length
   ·exact hi
   ·rw [List.getElem?_append_right (by simpa using hi)] at h2
    rw [List.getElem?_replicate] at h2
    split at h2 <;> cases h2
  have ha:vs[i]?=some v:=by
   unfold start at h2
   rw [List.getElem?_append_left (by simpa using hi),List.getElem?_map] at h2
   cases e:vs[i]? with
   | none=>rw [e] at h2;cases h2
   | some a=>rw [e] at h2;cases h2;rfl
  obtain⟨u,hu,rv⟩:=r.get ha
  have hp:ps[i]?=some y:=by
   rw [<- S.pre,List.getElem?_take_of_lt (by omega)];exact h1
  have ndP:ps.Nodup:=by rw [<- S.pre];exact S.nd.sublist (List.take_sublist _ _)
  refine⟨u,rv,?_⟩
  rcases S.par y (List.mem_of_getElem? hp) with k | k
  ·exact .inl ⟨k,ip ndP hp hu k⟩
  ·obtain⟨c,e⟩:=gy (n:=s.heap.objs.size + 1) k
   refine .inr ⟨.inl k,c,e,?_⟩
   have q:=x.cell y c e
   rw [iu ndP hp hu (by show scope.names.lookup y≠_;rw [k];decide)] at q
   exact q
 ·exact e0.hok.fresh (Nat.le_of_lt (x.above y c (PySem.mem_of_lookup h)))
 ·unfold start
  show _=N.length
  rw [List.length_append,List.length_map,List.length_replicate]
  omega
section
variable {X:Cx}{CX:CXT}{k:Nat}{f C:Addr}{fd:FuncData}{ps:List Str}{sp:Sp}{dvs:List V}{ds:List Value}{E:XK}{x m:Str}{p pos apos:Pos}{e o:Expr}{es:List Expr}{ta:TE}{t:TA}
end
section
variable {P:Program}{w:World}{K:PySem.W.Frag}{mg:Str->Option Value}{base:Heap}
end
structure cN (P:Program) (w:World) (K:PySem.W.Frag) (mg:Str->Option Value) (base:Heap) (CX:CXT) (k:Nat) (f:Addr) (fd:FuncData) (ps:List Str) (sp:Option Value->Sp):Prop where
 len:∀hv vs H Q E,sp hv vs H Q E->vs.length=ps.length
 run:∀(A:Around) (outer:List Env) (s:Shared) (H:Hp) (args:Args) (us:List Value) (vs:List V) (Q:VK) (E:XK),cY k A->dN P w K mg base A outer s H->BindsTo s fd args (ps.zip us)->ar vs us->sp A.handled vs H Q E ->
  codeAny (model P w) A (.call (.ref f) args) (CR CX outer P w H s Q E) s
theorem sX {CX:CXT}{P:Program}{w:World}{K:PySem.W.Frag}{mg:Str->Option Value}{base:Heap}{k:Nat}{f:Addr}{name qual:Str}{params:Arguments}{body:List Stmt}{scope:Scope}{dV kV doc pm cdv ct oc:Value}{an od:Option Addr}
  {osl:Array (Option Value)}{N ps:List Str}{sp:Option Value->Sp} (lk:K.lookup f=some ⟨oc,od,.func (PySem.W.fnOf name qual params body scope dV kV doc pm an cdv ct),osl⟩) (hcd:PySem.W.codeIn K cdv qual=true) (S:aP N ps scope)
  (len:∀hv vs H Q E,sp hv vs H Q E->vs.length=ps.length)
  (hbody:∀(A:Around) (outer:List Env) (s:Shared) (H:Hp) (vs:List V) (Q:VK) (E:XK),cY k (A.deeper (envOfC qual scope s.heap.objs.size f cdv))->sp A.handled vs H Q E ->
   ∃t,PSs (fv CX P w K mg base N qual scope f cdv A outer s H E) body t/\t { nx:=fun _ H'=>Q .non H',rt:=Q } (start N vs) H) :
  cN P w K mg base CX (k + 1) f (PySem.W.fnOf name qual params body scope dV kV doc pm an cdv ct) ps sp:=by
 refine⟨len,fun A outer s H args us vs Q E hr e0 hb r hsp=>?_⟩
 have hl:=len _ _ _ _ _ hsp
 have KX:K.In s.heap:=e0.mod.kin.keeps fun b o e=>(e0.bs b o e).1
 have lim:s.heap.NoLimit:=e0.mod.nolimit.keeps fun b o e=>(e0.bs b o e).1
 have hkind:∀y∈ps.zip us,scope.names.lookup y.1=some .local\/(scope.names.lookup y.1=some .cell/\((cellsFrom (s.heap.objs.size + 1) scope.names []).lookup y.1).isSome=true):=fun ⟨n,v⟩ hy=>by
  rcases S.par n (List.of_mem_zip hy).1 with q | q
  ·exact .inl q
  ·exact .inr ⟨q,PySem.W.cellsFrom_some _ _ _ (.inl q)⟩
 refine codeAny_call_function hr.depth (KX _ _ lk) rfl S.co S.gen rfl (PySem.W.codeRec_of KX hcd) (hb _ _ _ _ ?_)
 refine wpAny_newFunctionEnv_cells S.kind hkind fun env he s1 x=>?_
 subst he
 refine⟨lim.keeps x.toInCall.keep,codeAny_func ?_⟩
 obtain⟨t,ht,hq⟩:=hbody A outer s H vs Q E (hr.deeper _) hsp
 have I:Inv (fv CX P w K mg base N qual scope f cdv A outer s H E) [] (start N vs) H s1:=pf S e0 hl r x
 refine wpAny_mono (ht [] s1 (start N vs) H _ I hq) (fun fl s' hs=>?_) fun e s' hs=>hs
 have fin:∀{σ':St}{H':Hp}{v:V}{u:Value},Inv (fv CX P w K mg base N qual scope f cdv A outer s H E) [] σ' H' s'->RelV v u->Q v H'->CE outer P w H s Q u s' :=
  fun {σ' H' v u} J rv q=>⟨v,H',J.os,J.bare,J.base,J.hok,rv,q⟩
 cases fl with
 | ret u =>
  obtain⟨v,σ',H',J,rv,q⟩:=hs
  exact fin J rv q
 | next =>
  obtain⟨σ',H',J,q⟩:=hs
  exact fin (v:=V.non) (u:=Value.none) J rfl q
 | brk =>
  obtain⟨_,_,_,q⟩:=hs
  exact False.elim q
 | cont =>
  obtain⟨_,_,_,q⟩:=hs
  exact False.elim q
section
variable {X:Cx}{CX:CXT}{k:Nat}{f C:Addr}{fd:FuncData}{ps:List Str}{sp:Option Value->Sp}{dvs:List V}{ds:List Value}{E:XK}{x m:Str}{p pos apos:Pos}{e o:Expr}{es:List Expr}{ta:TE}{t:TA}
theorem sg {pins:List (Addr×Obj)}{σ:St}{H:Hp}{s:Shared}{Q:VK}{us:List Value}{vs:List V} (F:cN X.prog X.w X.K X.mg X.base CX k f fd ps sp) (hr:cY k X.A) (hb:Binds X.K fd ps ds) (hd:ar dvs ds) (hx:eU CX X E)
  (I:Inv X pins σ H s) (r:ar vs us) (h:sp X.A.handled (vs++dvs) H Q E):wpAny (model X.prog X.w) X.A (call (.ref f) us) (EP X pins σ Q) X.xe s:=by
 have r2:ar (vs++dvs) (us++ds):=r.append hd
 have hl:(us++ds).length=ps.length:=by rw [<- r2.length];exact F.len _ _ _ _ _ h
 refine wpAny_call (codeAny_mono (F.run X.A X.stack s H ⟨us,[]⟩ (us++ds) (vs++dvs) Q E hr I.env0 (hb s us I.kIn hl) r2 h) fun r s' hq=>?_)
 cases r with
 | error e=>exact hx pins σ H s e s' I hq
 | ok fl =>
  cases fl with
  | ret u=>exact I.after hq
  | next=>exact False.elim hq
  | brk=>exact False.elim hq
  | cont=>exact False.elim hq
theorem qR (F:cN X.prog X.w X.K X.mg X.base CX k f fd ps sp) (hr:cY k X.A) (hg:Gl X x) (hm:X.mg x=some (.ref f)) (hk:PySem.W.keepIn X.K (.ref f)=true) (hb:Binds X.K fd ps ds) (hd:ar dvs ds) (hx:eU CX X E)
  (ha:PA X (e::es) t) (hdb:(x == ("__debug__":Str))=false:=by decide) (he:starEach (e::es) X.env=(false,eval e X.env)::starEach es X.env:=by rfl) (hpl:(backTo pos (starEach es X.env)).any (·.1)=false:=by rfl) :
  PE X (.Call (.Name x p) (e::es) [] pos) (dM (sp X.A.handled) dvs E t):=by
 intro pins s σ H Q I h
 refine wpAny_Call_Name_kw (eR I hg hm ?_ hdb)
 refine PySem.W.callWith_K (h₀:=X.base) I.ok.mod.kin hk (thn (ha pos pins s σ H _ I h) fun us s1 ⟨vs,H1,I1,r,q⟩=>⟨I1.kIn,?_⟩) he hpl
 exact sg F hr hb hd hx I1 r q
end
section
variable {P:Program}{w:World}{K:PySem.W.Frag}{mg:Str->Option Value}{base:Heap}
theorem Fun.okG {x qual:Str}{st:Stmt}{f:Addr}{fd:FuncData}{N ps:List Str}{k:Nat}{sp:Option Value->Sp} (F:Fun K x qual st f fd) (S:aP N ps (ao st)) (len:∀hv vs H Q E,sp hv vs H Q E->vs.length=ps.length)
  (hbody:∀(cdv:Value) (A:Around) (outer:List Env) (s:Shared) (H:Hp) (vs:List V) (Q:VK) (E:XK),cY k (A.deeper (envOfC qual (ao st) s.heap.objs.size f cdv))->sp A.handled vs H Q E ->
   ∃t,PSs (fv CX0 P w K mg base N qual (ao st) f cdv A outer s H E).nox (cu st) t/\t { nx:=fun _ H'=>Q .non H',rt:=Q } (start N vs) H):cN P w K mg base CX0 (k + 1) f fd ps sp:=by
 obtain⟨oc,od,kV,doc,pm,an,cdv,ct,osl,rfl,lk,hcd⟩:=F.ex
 refine sX lk hcd S len fun A outer s H vs Q E hr hsp=>?_
 obtain⟨t,h,q⟩:=hbody cdv A outer s H vs Q E hr hsp
 exact⟨t,h.nox,q⟩
noncomputable def FnG (P:Program) (w:World) (K:PySem.W.Frag) (mg:Str->Option Value) (base:Heap) (k:Nat) (x:Str) (ps:List Str) (sp:Option Value->Sp):Prop :=
 ∃f fd,mg x=some (.ref f)/\PySem.W.keepIn K (.ref f)=true/\Binds K fd ps []/\cN P w K mg base CX0 k f fd ps sp
end
theorem tw {X:Cx}{k:Nat}{x:Str}{ps:List Str}{sp:Option Value->Sp}{e:Expr}{es:List Expr}{t:TA}{p pos:Pos} (F:FnG X.prog X.w X.K X.mg X.base k x ps sp) (hr:cY k X.A) (ha:PA X (e::es) t) (hg:Gl X x:=by rfl)
  (hdb:(x == ("__debug__":Str))=false:=by decide) (he:starEach (e::es) X.env=(false,eval e X.env)::starEach es X.env:=by rfl) (hpl:(backTo pos (starEach es X.env)).any (·.1)=false:=by rfl) :
  PE X (.Call (.Name x p) (e::es) [] pos) (dM (sp X.A.handled) [] E0 t):=by
 obtain⟨f,fd,h1,h2,h3,h4⟩:=F
 exact qR h4 hr hg h1 h2 h3 .nil mR ha hdb he hpl
end L2
namespace L2
open PySem PySem.Spec PyProof.Rows PySem.W PySem.Calls
noncomputable def fw (h:Heap) (ea:Addr):Prop:=∃oe vs,h.get? ea=some oe/\oe.data=Data.fields vs/\vs[2]?=some Value.none
theorem fw.at {h h':Heap}{ea:Addr} (x:fw h ea) (k:∀o,h.get? ea=some o->h'.get? ea=some o):fw h' ea:=by
 obtain⟨oe,vs,h1,h2⟩:=x
 exact⟨oe,vs,k _ h1,h2⟩
theorem oz:entryFor table "proto.unchain"=some Builtin.«proto.unchain»:=entryFor_of_fast (by kernel_rfl)
theorem o9:plainId "proto.unchain"=true:=by decide +kernel
section
variable {prog:Program}{w:World}{A:Around}{E:Value->Shared->Prop}{s:Shared}
theorem oh {ea:Addr}{e:Value}{R:Result->Shared->Prop} (hx:fw s.heap ea) (hR:R (.ok (.ret .none)) s):codeAny (model prog w) A (.builtin "proto.unchain" ⟨[e,.ref ea,.ref ea,.bool false],[]⟩) R s:=by
 obtain⟨oe,vs,h1,h2,h3⟩:=hx
 refine codeAny_builtin oz ?_
 rw [Around.under_plainId o9 _]
 show wpAny _ A.in1 (field (.ref ea) 2 >>= _) _ _ s
 refine wpAny_bind (wpAny_field h1 h2 h3 ?_)
 show wpAny _ A.in1 (if (Value.none == Value.none)=true then _ else _) _ _ s
 rw [if_pos (show (Value.none == Value.none)=true from rfl)]
 exact wpAny_pure hR
theorem oG {α:Type}{a ea:Addr}{Q:α->Shared->Prop}{o:Obj}{vs:Array Value} (hh:A.handled=some (.ref ea)) (hx:fw s.heap ea) (ho:s.heap.get? a=some o) (hd:o.data=Data.fields vs) (hz:2 < vs.size) (hn:ea≠a)
  (h:∀h',Heap.ExtBut a s.heap h'->(∃o',h'.get? a=some o'/\o'.cls=o.cls)->E (.ref a) { s with heap:=h' }):wpAny (model prog w) A (raiseNew (.ref a):Sem α) Q E s:=by
 unfold raiseNew
 refine wpAny_bind (wpAny_handled ?_)
 rw [hh]
 show wpAny _ _ (if (Value.ref ea != Value.ref a)=true then _ else _) _ _ s
 rw [if_pos (show (Value.ref ea != Value.ref a)=true from by simp [hn])]
 refine wpAny_bind (wpAny_holding (wpAny_runValue (oh hx ?_)))
 unfold updateField
 refine wpAny_bind (wpAny_bind (wpAny_load ho ?_))
 rw [hd]
 show wpAny _ _ (if 2 < vs.size then _ else _) _ _ s
 rw [if_pos hz]
 have d8:=Obj.data_mapFields hd (fun z=>z.setIfInBounds 2 (Value.ref ea))
 refine wpAny_update ho (wpAny_throw (h _ ((Heap.SameBut.update ..).extBut) ⟨_,Heap.get?_update_self _ ho (Obj.isFreed_of_fields d8),Obj.cls_mapFields _ _⟩))
end
section
variable {prog:Program}{w:World}{A:Around}{E:Value->Shared->Prop}{s:Shared}{R:Result->Shared->Prop}{I:Addr}{fp wr:List Addr}{n:Nat}{P:Nat->Value->Prop}{St:Nat->Heap->Prop}
end
section
variable {X:Cx}
end
noncomputable def tY (tx:TSX) (th:Addr->TS) (j:Nat) (U:Addr->Prop):TS:=fun D σ H=>tx (fun σ1 cls dx H'=>∃C,cls=.ref C/\U C/\∀ea,H' ea=none->th ea (mH D j) (σ1.set j (some (.ref ea))) (upd H' ea (bB ea C dx))) D σ H
section
variable {X:Cx}{st b0:Stmt}{suite:List Stmt}{tx:TSX}{th:Addr->TS}{x n:Str}{R:Addr}{j:Nat}{np hpos pos:Pos}
theorem rD (hst:PSX X st tx) (hx:X.mg x=some (.ref R)) (hR:eO X.base R) (hth:∀ea,PSs (X.held ea) (b0::suite) (th ea)) (hN:X.N.Nodup) (hj:X.N[j]?=some n) (hn:X.env.scope.names.lookup n=some .local) (hstk:X.stack=X.env::X.outer) (hfr:X.env.frame=some X.env.locals) (hex:X.ex=[])
  (hg:Gl X x:=by rfl) (hdb:(x == ("__debug__":Str))=false:=by decide) :
  PS X (.Try [st] [.ExceptHandler (some (.Name x np)) (some n) (b0::suite) hpos] [] [] pos) (tY tx th j fun C=>Under X.base C R):=by
 intro pins s σ H D I h
 refine wpAny_Try_except (wpAny_execs_cons (wpAny_mono (hst pins s σ H D _ I h) (fun f s1 q=>?_) (fun e s1 q=>?_)))
 ·cases f with
  | next=>exact wpAny_execs_nil (wpAny_execs_nil q)
  | ret v=>exact q
  | brk=>exact q
  | cont=>exact q
 ·obtain⟨σ1,H1,s2,I1,ea,T,cls,a0,dx,H',rfl,os,bare,un,hok,n1,n2,m1,m2,trc,C,rfl,hu,hth'⟩:=q
  have I':Inv X pins σ1 H' s1:=I1.call' (ch:=[]) os un hok bare (by simp)
  have ffs:=I'.stack
  rw [hstk] at ffs
  have afr:X.A.frames=some (X.env::X.outer):=by rw [<- hstk];exact I'.ok.frames
  have there:∀b o,s2.heap.get? b=some o->∃o',s1.heap.get? b=some o':=fun b o q=>un.there b o q (by simp)
  have newAt:∀b,s2.heap.get? b=none->X.s₀.heap.get? b=none/\b≠X.env.locals/\(∀x c,X.env.cells.lookup x=some c->c≠b)/\∀p∈X.pn++pins,p.1≠b:=fun b q=>by
   refine⟨?_,fun z=>?_,fun y c e z=>?_,fun p hp z=>?_⟩
   ·cases hc:X.s₀.heap.get? b with
    | none=>rfl
    | some o =>
     obtain⟨o',q'⟩:=I1.base.there b o hc (by rw [hex];simp)
     rw [q] at q';cases q'
   ·obtain⟨m,⟨o,_,_,ho,_⟩,_⟩:=I1.loc
    rw [<- z,q] at ho;cases ho
   ·obtain⟨v,o,ho,_⟩:=I1.cell y c e
    rw [z,q] at ho;cases ho
   ·have:=(I1.pin p hp).1
    rw [z,q] at this;cases this
  have noH:∀b,s1.heap.get? b=none->H' b=none:=fun b q=>by
   cases hc:H' b with
   | none=>rfl
   | some o =>
    obtain⟨ob,q'⟩:=aX.got (hok b o hc)
    rw [q] at q';cases q'
  have mk:∀b,s2.heap.get? b=none->H' b=none->X.s₀.heap.get? b=none/\H' b=none/\b≠X.env.locals/\(∀x c,X.env.cells.lookup x=some c->c≠b)/\∀p∈X.pn++pins,p.1≠b:=fun b q1 q2=>⟨(newAt b q1).1,q2,(newAt b q1).2⟩
  refine ou (Q:=fun _ s3=>wpAny (model X.prog X.w) X.A (handleBy (Value.ref ea) X.env [ExceptHandler.ExceptHandler (some (Expr.Name x np)) (some n) (b0::suite) hpos]) (SP X pins D) X.xe s3) (base:=X.base) afr hfr ffs trc fun h3 T3 mv3 nw3 tr3=>?_
  have nT3:s2.heap.get? T3=none/\H' T3=none:=by
   refine⟨?_,noH T3 nw3⟩
   cases hc:s2.heap.get? T3 with
   | none=>rfl
   | some o =>
    obtain⟨o',q'⟩:=there T3 o hc
    rw [nw3] at q';cases q'
  have I3:Inv X pins σ1 H' { s1 with heap:=h3 }:=I'.moved (G:=[ea,T]) (fun b hb=>by
   simp at hb
   rcases hb with z | z
   ·rw [z];exact mk ea n1 m1
   ·rw [z];exact mk T n2 m2) (fun b o q hb hg=>mv3.keep b o q (by rw [<- hstk];exact hb) hg) (fun b o q hb=>mv3.slot b o q (by rw [<- hstk];exact hb))
  refine wpAny_handleBy_cons (codeAny_handlers_test ?_) (by intro z;cases z)
  refine eR (X:=X.held ea) (I3.held ea) hg hx ?_ hdb
  obtain⟨nm,q,N,bs,bm,bmB,hdct,sn,sub,ab,col,dd,k0,k1,k2,k3,k5,mN,B,Bn,newId,nid,initId,inN,bmN,a1,a2,a3,a4,a5,a6,a7,a8⟩:=hR
  obtain⟨nm',q',N',bs',bm',hdct',sn',sub',ab',col',dd',l0,l1,l2,l3,l5,newId',c1,c2⟩:=hu
  obtain⟨oe,vs,oT,ts,g1,g2,g3,g4,g5,g6,g7,g8,g9,g10⟩:=id tr3
  refine pw (I3.bk _ _ c1) (I3.bk _ _ a1) g1 g2 a5 ?_
  rw [c2]
  show codeAny _ _ (Code.handlers (.ref ea) [ExceptHandler.ExceptHandler none (some n) (b0::suite) hpos] X.env) _ _
  refine codeAny_handlers_suite_as (ground tr3 fun h4 same4 tr4=>?_)
  have I4:Inv X pins σ1 H' { s1 with heap:=h4 }:=Inv.moved (s:={ s1 with heap:=h3 }) (h':=h4) (G:=[T3]) I3 (fun b hb=>by
   have z:b=T3:=by simpa using hb
   rw [z];exact mk T3 nT3.1 nT3.2) (fun b o q hb hg=>(same4 b fun z=>hg (by simp [z])).trans q) (fun b o q hb=>⟨o.slots,(same4 b fun z=>by
    obtain⟨o2,q2,nf⟩:=e7 I3.stack b hb
    rw [z,g7] at q2;cases q2;exact nf _ g8).trans q⟩)
  obtain⟨oe4,vs4,oT4,ts4,f1,f2,f3,f4,_,_,_,_,_,f10⟩:=id tr4
  have I4t:Inv X pins σ1 (upd H' ea (bB ea C dx)) { s1 with heap:=h4 }:=I4.track m1 (newAt ea n1).1 (newAt ea n1).2.1 (newAt ea n1).2.2.1 (newAt ea n1).2.2.2 (rK f1 f2 f10 f4 f3.2)
  refine fL (X:=X.held ea) (I4t.held ea) hN hj (.inl hn) (v:=.ref ea) rfl (fun s5 I5=>?_) (.inr hn)
  refine wpAny_mono (hth ea pins s5 (σ1.set j (some (.ref ea))) (upd H' ea (bB ea C dx)) (mH D j) I5 (hth' ea m1)) (fun f s6 q6=>?_) (fun _ _ z=>False.elim z)
  cases f with
  | next =>
   obtain⟨σ2,H2,J,q⟩:=q6
   exact gP (J.unheld I.ok) hN hj hn fun s7 I7=>⟨σ2.set j none,H2,I7,q⟩
  | brk =>
   obtain⟨σ2,H2,J,q⟩:=q6
   exact gP (J.unheld I.ok) hN hj hn fun s7 I7=>⟨σ2.set j none,H2,I7,q⟩
  | cont =>
   obtain⟨σ2,H2,J,q⟩:=q6
   exact gP (J.unheld I.ok) hN hj hn fun s7 I7=>⟨σ2.set j none,H2,I7,q⟩
  | ret u =>
   obtain⟨v,σ2,H2,J,rv,q⟩:=q6
   exact gP (J.unheld I.ok) hN hj hn fun s7 I7=>⟨v,σ2.set j none,H2,I7,rv,q⟩
end
section
variable {prog:Program}{w:World}{A:Around}{E:Value->Shared->Prop}{s:Shared}
theorem pd {it ea:Addr}{x left step:Int}{Q:Option Value->Shared->Prop} (hh:A.handled=some (.ref ea)) (hx:fw s.heap ea) (hit:IsRangeIter s.heap it x left step) (hleft:left<=0) (hne:ea≠it)
  (hQ:∀h',Heap.ExtBut it s.heap h'->Q none { s with heap:=h' }):wpAny (model prog w) A (pyNext (.ref it)) Q E s:=by
 have hT:s.TypeIs (.ref it) "range_iterator":=⟨_,hit,rfl⟩
 unfold pyNext
 refine wpAny_bind (wpAny_attempt (wpAny_callSpecial?_slot (name:=Str.ofString "__next__") hT F.slot_range_iterator_next (wpAny_call_entry F.slot_range_iterator_next hT F.entry_range_iterator_next ?_ (F.args_range_iterator_next_1 _))))
 refine (show wpAny _ _ (field (.ref it) 0 >>= _) _ _ s from wpAny_bind (wpAny_field hit rfl (x:=rawInt x) rfl ?_))
 refine (show wpAny _ _ (field (.ref it) 1 >>= _) _ _ s from wpAny_bind (wpAny_field hit rfl (x:=rawInt left) rfl ?_))
 refine (show wpAny _ _ (field (.ref it) 2 >>= _) _ _ s from wpAny_bind (wpAny_field hit rfl (x:=rawInt step) rfl ?_))
 show wpAny _ _ (if left<=0 then _ else _) _ _ s
 rw [if_pos hleft]
 refine wpAny_bind (wpAny_rule (wpAny_bind ?_))
 refine (show wpAny _ _ (newExc (.type "StopIteration") [] >>= _) _ _ _ from wpAny_bind ?_)
 simp only [newExc,newTuple]
 refine wpAny_bind (wpAny_newObj_type (wpAny_bind (m:=firstArgMember _ _) (wpAny_of_eq (a:=Value.none) (by first | rfl | (simp only [firstArgMember];rfl)) (wpAny_newObj_type ?_ (by size_fits)))) (by size_fits))
 refine oG (A:=A.in1) hh (hx.at fun o e=>Heap.get?_push_of_some _ (Heap.get?_push_of_some _ e)) (Heap.get?_push_size _ rfl) rfl (by simp;omega) ?_ fun h' k ⟨o',q1,q2⟩=>?_
 ·obtain⟨oe,vs,z,_⟩:=hx
  have lz:=Heap.lt_size z
  intro z2
  rw [z2] at lz
  simp only [Heap.size_push] at lz
  exact Nat.lt_asymm lz (Nat.lt_succ_self _)
 ·refine wpAny_bind (wpAny_isInstance (T:="StopIteration") (b:=true) ⟨_,q1,q2⟩ isSubtype_stop ?_)
  refine wpAny_pure (hQ _ ?_)
  intro b ob hb eb
  refine k b ob (fun z2=>?_) ((((Heap.ExtBut.refl it s.heap).push _).push _) b ob hb eb)
  have lz:=Heap.lt_size eb
  rw [z2] at lz
  simp only [Heap.size_push] at lz
  exact Nat.lt_asymm lz (Nat.lt_succ_self _)
end
structure jl (ea:Addr) (P:Program) (w:World) (K:PySem.W.Frag) (tg:Expr) (J:It) (fp:List Addr) (it:Addr) (tn:Nat->Heap->Prop):Prop where
 mem:it∈fp
 obj:∀i h,tn i h->∀b∈fp,∃o,h.get? b=some o/\∀v,o.data≠.cell v
 keep:∀i h h',tn i h->(∀b∈fp,∀o,h.get? b=some o->h'.get? b=some o)->tn i h'
 item:∀(X:Cx),X.prog=P->X.w=w->X.K=K->X.A.handled=some (.ref ea)->∀(i:Nat) (pins:List (Addr×Obj)) (s:Shared) (σ:St) (H:Hp) (E:Value->Shared->Prop),Inv X pins σ H s->(∀b∈fp,bR X pins H b)->tn i s.heap->J.go i H ->
  wpAny (model P w) X.A (pyNext (.ref it)) (fun r s1=>∃u,r=some u /\
   wpAny (model P w) X.A (letOwnedTupleGo tg (.ref it) u) (fun _ s2=>∃x H',Inv X pins σ H' s2/\RelV x u/\J.yld i H x H'/\tn (i + 1) s2.heap/\∀b∈fp,H' b=none) E s1) E s
 done:∀(X:Cx),X.prog=P->X.w=w->X.K=K->X.A.handled=some (.ref ea)->∀(i:Nat) (pins:List (Addr×Obj)) (s:Shared) (σ:St) (H:Hp) (E:Value->Shared->Prop),Inv X pins σ H s->(∀b∈fp,bR X pins H b)->tn i s.heap->J.stop i H ->
  wpAny (model P w) X.A (pyNext (.ref it)) (fun r s1=>r=none/\Inv X pins σ H s1) E s
 self:∀(A:Around) (i:Nat) (s:Shared) (Q:Value->Shared->Prop) (E:Value->Shared->Prop),tn i s.heap->Q (.ref it) s->wpAny (model P w) A (pyIter (.ref it)) Q E s
noncomputable def nF (ea:Addr) (X:Cx) (pins:List (Addr×Obj)) (σ:St) (tg:Expr) (R:It->Hp->Prop) (itv:Value) (s2:Shared):Prop :=
 ∃(it:Addr) (fp:List Addr) (tn:Nat->Heap->Prop) (J:It) (H':Hp),itv=.ref it/\Inv X pins σ H' s2/\jl ea X.prog X.w X.K tg J fp it tn/\tn 0 s2.heap/\(∀b∈fp,bR X pins H' b)/\R J H'
noncomputable def PIH (ea:Addr) (X:Cx) (tg iter:Expr) (wi:TI):Prop :=
 ∀(pins:List (Addr×Obj)) (s:Shared) (σ:St) (H:Hp) (R:It->Hp->Prop),Inv X pins σ H s->wi σ H R ->
  wpAny (model X.prog X.w) X.A (eval iter X.env) (fun v s1=>wpAny (model X.prog X.w) X.A (pyIter v) (nF ea X pins σ tg R) X.xe s1) X.xe s
noncomputable def ia (ea C:Addr) (dx:Option Addr) (lo:Int) (n:Nat):It:=⟨fun i _=>i < n,fun i H x H'=>H'=H/\x=.int (lo + i),fun i H=>n<=i/\H ea=some (bB ea C dx)⟩
theorem oM {ea C:Addr}{dx:Option Addr}{P:Program}{w:World}{K:PySem.W.Frag}{tg:Expr} (it:Addr) (lo:Int) (n:Nat):jl ea P w K tg (ia ea C dx lo n) [it] it (fun i h=>IsRangeIter h it (lo + (i:Nat) * 1) ((n:Int) - (i:Nat)) 1) where
 mem:=by simp
 obj:=fun i h st b hb=>by
  have e:b=it:=by simpa using hb
  subst e
  exact⟨_,st,fun v z=>by
   have z':Data.fields _=Data.cell v:=z
   cases z'⟩
 keep:=fun i h h' st k=>k it (by simp) _ st
 item:=by
  intro X hP hw hK hh i pins s σ H E I hf st hg
  subst hP hw hK
  obtain⟨f0,f1,f2,f3,f4,f5⟩:=hf it (by simp)
  have hg:i < n:=hg
  refine wpAny_pyNext_range_item st (by omega) fun h' hit' hs'=>?_
  have e1:lo + ((i + 1:Nat):Int) * 1=lo + (i:Int) * 1 + 1:=by omega
  have e2:(n:Int) - ((i + 1:Nat):Int)=(n:Int) - (i:Int) - 1:=by omega
  have st':IsRangeIter h' it (lo + ((i + 1:Nat):Int) * 1) ((n:Int) - ((i + 1:Nat):Int)) 1:=by rw [e1,e2];exact hit'
  have I1:Inv X pins σ H { s with heap:=h',toks:=s.toks + 1 }:=I.turned (fun b o hb e=>hs'.extBut b o hb e) f0 f1 f3 f4 f5
  refine⟨_,rfl,gg (s:={ s with heap:=h',toks:=s.toks + 1 }) (n:="range_iterator") st' rfl rfl (by decide) ⟨.int (lo + i),H,I1,⟨s.toks,?_⟩,⟨rfl,rfl⟩,st',fun b hb=>(hf b hb).1⟩⟩
  rw [Int.mul_one]
 done:=by
  intro X hP hw hK hh i pins s σ H E I hf st hg
  subst hP hw hK
  obtain⟨f0,f1,f2,f3,f4,f5⟩:=hf it (by simp)
  obtain⟨hg,he⟩:n<=i/\H ea=some (bB ea C dx):=hg
  obtain⟨⟨oe,vs,o1,o2,o3,o4,o5⟩,_⟩:=(show aX X.prog X.w H s.heap ea (bB ea C dx) from I.hok ea _ he)
  have hne:ea≠it:=fun z=>by rw [z,f0] at he;cases he
  exact pd hh ⟨oe,vs,o1,o4,o5⟩ st (by omega) hne fun h' k=>⟨rfl,I.turned (t':=s.toks) (fun b o hb e=>k b o hb e) f0 f1 f3 f4 f5⟩
 self:=fun _ _ _ _ _ st hQ=>wpAny_pyIter_rangeiter st hQ
section
variable {X:Cx}{tg:Expr}
theorem pR {ea C:Addr}{dx:Option Addr}{pins:List (Addr×Obj)}{σ:St}{H:Hp}{s:Shared}{R:It->Hp->Prop}{E:Value->Shared->Prop}{lo hi:Int}{t u v:Tok}{tk:Nat} (I:Inv X pins σ H s) (h1:-(2 ^ 62)<=lo) (h2:lo < 2 ^ 62) (h3:-(2 ^ 62)<=hi) (h4:hi < 2 ^ 62)
  (q:R (ia ea C dx lo (hi - lo).toNat) H):wpAny (model X.prog X.w) X.A (pyIter (.ref s.heap.objs.size)) (nF ea X pins σ tg R) E { s with heap:=s.heap.push { cls:=.type "range",data:=.fields #[.int lo t,.int hi u,.int 1 v] },toks:=tk }:=by
 refine wpAny_pyIter_range (IsRange.new ..) (small_one h1 h2 h3 h4) ?_
 have I1:Inv X pins σ H { s with heap:=s.heap.push { cls:=.type "range",data:=.fields #[.int lo t,.int hi u,.int 1 v] },toks:=tk }:=I.kept fun b o e=>Heap.get?_push_of_some _ e
 refine⟨(s.heap.push { cls:=.type "range",data:=.fields #[.int lo t,.int hi u,.int 1 v] }).objs.size,[(s.heap.push { cls:=.type "range",data:=.fields #[.int lo t,.int hi u,.int 1 v] }).objs.size],_,_,H,rfl,
  I1.kept (t':=tk) fun b o e=>Heap.get?_push_of_some _ e,oM _ lo (hi - lo).toNat,?_,fun b hb=>?_,q⟩
 ·have e1:lo + ((0:Nat):Int) * 1=lo:=by simp
  have e2:(((hi - lo).toNat:Nat):Int) - ((0:Nat):Int)=Builtin.Range.rangeSize lo hi 1:=by rw [rangeSize_one];split <;> omega
  show IsRangeIter _ _ (lo + ((0:Nat):Int) * 1) ((((hi - lo).toNat:Nat):Int) - ((0:Nat):Int)) 1
  rw [e1,e2]
  exact Heap.get?_push_size _ rfl
 ·have e:b=(s.heap.push { cls:=.type "range",data:=.fields #[.int lo t,.int hi u,.int 1 v] }).objs.size:=by simpa using hb
  subst e
  exact I1.fpOk (Nat.le_refl _) (I1.hok.fresh (Nat.le_refl _))
noncomputable def sS (ea C:Addr) (dx:Option Addr) (ta:TA):TI:=fun σ H R=>ta σ H fun vs H1=>∃j:Int,vs=[.int j]/\-(2 ^ 62)<=j/\j < 2 ^ 62/\R (ia ea C dx 0 j.toNat) H1
theorem oQ {ea C:Addr}{dx:Option Addr}{a:Expr}{ta:TA}{p pos:Pos} (hg:Gl X "range") (hm:X.mg "range"=none) (ha:PA X [a] ta) (hs:starEach [a] X.env=[(false,eval a X.env)]:=by rfl):PIH ea X tg (.Call (.Name "range" p) [a] [] pos) (sS ea C dx ta):=by
 intro pins s σ H R I h
 refine Call_ (eT I hg hm boot_range (PyProof.Rows.callWith_type1 (thn (ha pos pins s σ H _ I h) fun us s1 ⟨vs,H1,I1,r1,q1⟩=>?_) hs rfl))
 obtain⟨j,e,q1,q2,q⟩:=q1
 subst e
 cases r1 with
 | cons r rr =>
  cases rr
  obtain⟨t,rfl⟩:=r
  exact call_range_1 (pR I1 (by omega) (by omega) q1 q2 (by simpa using q))
end
section
variable {X:Cx}{scope:Scope}{N:List Str}{ix:List (Option Nat)}
variable {tg iter elt:Expr}{ifs:List Expr}{pos:Pos}{g:TG}{tt:TT}{te:TE}{wi:TI}
theorem rS {ea:Addr} (L:bQ X scope N ix) (hc:X.A.handled=some (.ref ea)) (hg:∀C s0 H0 fp,PG (aO X scope N C s0 H0 fp) tg g) (ht:∀C s0 H0 fp,PTs (aO X scope N C s0 H0 fp) ifs tt) (he:∀C s0 H0 fp,PE (aO X scope N C s0 H0 fp) elt te)
  {pins:List (Addr×Obj)}{σ:St}{H2:Hp}{s2:Shared}{it:Addr}{fp:List Addr}{tn:Nat->Heap->Prop}{J:It}{fin:List V->Hp->Prop}{E:Value->Shared->Prop}{RR:Value->Addr->Result->Shared->Prop}
  (I2:Inv X pins σ H2 s2) (T:jl ea X.prog X.w X.K tg J fp it tn) (st:tn 0 s2.heap) (f2:∀b∈fp,bR X pins H2 b) (hW:LcW J g tt te (emb ix σ) fin H2)
  (hRR:∀D C s' m ys H',s'.heap.Ns C m->s'.os=s2.os->D≠C->bR X pins (upd H' D (.lst ys)) C->(∀h',Heap.SameBut C s'.heap h'->Inv X pins σ (upd H' D (.lst ys)) { s' with heap:=h' })->H' D=none->fin ys H'->RR (.ref D) C (.ok .next) s') :
  wpAny (model X.prog X.w) X.A (newList []) (fun acc s3=>wpAny (model X.prog X.w) X.A (newFunctionEnv scope X.env.globals (bX X.env scope.names []) [] X.env.qual none .none (some X.env)) (fun cenv s4 =>
   codeAny (model X.prog X.w) X.A (.compStart (.ListComp elt [⟨tg,iter,ifs,0⟩] scope pos) 0 (.ref it) acc { cenv with scope:=relabel scope X.env }) (RR acc cenv.locals) s4) E s3) E s2:=by
 obtain⟨W,⟨m0,w0⟩,turn⟩:=hW
 have hb2:∀b∈fp,b < s2.heap.objs.size:=fun b hb=>by
  obtain⟨o,e,_⟩:=T.obj _ _ st b hb
  exact Heap.lt_size e
 refine wpAny_newObj_type (wpAny_newFunctionEnv L.nocell (by intro y hy;simp at hy) (fun h1 hns hsb=>?_) L.kind)
 dsimp only at hns hsb ⊢
 generalize hG:s2.heap.push { cls:=.type "list",dict:=none,data:=.seq ([]:List Value).toArray }=G at hns hsb ⊢
 have hGs:G.objs.size=s2.heap.objs.size + 1:=by rw [<- hG,Heap.size_push]
 generalize hDe:s2.heap.objs.size=D at hGs hb2
 generalize hCe:G.objs.size=C at hGs hns hsb ⊢
 have hDC:D≠C:=by omega
 have nq:∀b:Nat,b < s2.heap.objs.size->b≠C/\b≠D:=fun b h=>⟨by omega,by omega⟩
 have nq2:∀b∈fp,b≠C/\b≠D:=fun b hb=>nq b (by rw [hDe];exact hb2 b hb)
 have kG:∀b o,s2.heap.get? b=some o->G.get? b=some o:=fun b o e=>by rw [<- hG];exact Heap.get?_push_of_some _ e
 have kp:∀b o,s2.heap.get? b=some o->h1.get? b=some o:=fun b o e=>hsb.extBut b o (nq b (Heap.lt_size e)).1 (Heap.get?_push_of_some _ (kG b o e))
 have oD:∃n,h1.get? D=some { cls:=.type "list",data:=.seq ([]:List Value).toArray n }:=⟨_,hsb.extBut _ _ hDC (Heap.get?_push_of_some _ (by rw [<- hG,<- hDe];exact Heap.get?_push_size _ rfl))⟩
 have I4:=mG L (tk:=s2.toks + ([]:List (Str×Value)).length) I2 (C:=C) (by omega) f2 (by rw [hDe];exact hb2) kp hns
 have st4:tn 0 h1:=T.keep _ _ _ st fun b _ o e=>kp b o e
 have hDf:D∉(aO X scope N C s2 H2 fp).fs:=fun z=>by
  have z':D∈frs X.stack:=z
  rcases List.mem_cons.mp (I2.stkSub D z') with q | q
  ·exact (nq _ I2.lt).2 q.symm
  ·exact I2.nofs (a:=D) (by omega) q
 have cellD:∀x c,(aO X scope N C s2 H2 fp).env.cells.lookup x=some c->c≠D:=fun x c e z=>by
  obtain⟨v,o,ho,_⟩:=I2.cell x c (dD e)
  exact (nq c (Heap.lt_size ho)).2 z
 have stat:∀{H':Hp}{pl:List (Addr×Obj)},(∀b∈fp,H' b=none)->(∀p∈pl,p.1=D)->∀b∈fp,bR (aO X scope N C s2 H2 fp) pl H' b:=fun {H' pl} hn hp b hb=>by
  have hlt:=hb2 b hb
  refine⟨hn b hb,(nq2 b hb).1,fun z=>?_,.inl hb,fun x c e=>(f2 b hb).2.2.2.2.1 x c (dD e),fun p hq z=>?_⟩
  ·exact (List.mem_cons.mp (I2.stkSub b z)).elim (f2 b hb).2.1 (f2 b hb).2.2.1
  ·have hq':p∈pl:=by simpa [aO] using hq
   exact (nq2 b hb).2 (z.symm.trans (hp p hq'))
 have pinD:∀{pl:List (Addr×Obj)}{σ':St}{H':Hp}{s':Shared}{o:Obj},Inv (aO X scope N C s2 H2 fp) pl σ' H' s'->s'.heap.get? D=some o->H' D=none->(∀v,o.data≠.cell v)->Inv (aO X scope N C s2 H2 fp) [(D,o)] σ' H' s' :=
  fun {pl σ' H' s' o} I' ho hn hd=>I'.pins_of fun p hp=>by
   have e:p=(D,o):=by simpa using hp
   subst e
   exact⟨ho,hn,hDC,hDf,hd⟩
 have loop:∀s4:Shared,s4={ s2 with heap:=h1,toks:=s2.toks + ([]:List (Str×Value)).length } ->
   codeAny (model X.prog X.w) X.A (.compLoop (.ListComp elt [⟨tg,iter,ifs,0⟩] scope pos) 0 (.ref it) (.ref D) (aO X scope N C s2 H2 fp).env) (RR (.ref D) C) s4:=by
  rintro s4 rfl
  refine ll (fun n s'=>∃i σ' H' ys its k,Inv (aO X scope N C s2 H2 fp) [(D,{ cls:=.type "list",data:=.seq its.toArray k })] σ' H' s'/\tn i s'.heap/\(∀b∈fp,H' b=none)/\ar ys its/\W i n ys σ' H') ?_ m0 ?_
  ·rintro n s' ⟨i,σ',H',ys,its,k,I',st',fr',rv,w'⟩
   have hD':=I'.pin _ (List.mem_append_right _ List.mem_cons_self)
   rcases turn i n ys σ' H' w' with ⟨stop,hz,qf⟩ | ⟨go,hz,Nx,hN,step⟩
   ·refine thn (T.done (aO X scope N C s2 H2 fp) rfl rfl rfl hc i _ s' σ' H' _ I' (stat fr' (by simp)) st' stop) fun r s5 ⟨hr,I5⟩=>?_
    subst hr
    have hD5:=I5.pin _ (List.mem_append_right _ List.mem_cons_self)
    obtain⟨m5,hn5,_⟩:=I5.loc
    refine hRR D C s5 m5 ys H' hn5 I5.os hDC (I2.fpOk (by omega) (by rw [au (Ne.symm hDC)];exact I5.free)) (fun h' hs'=>?_) hD5.2.1 qf
    exact lW I2 f2 I5 (by omega) (by omega) hDC hD5.2.1 hD5.1 rv hz fun b o hb e=>hs'.extBut b o hb e
   ·refine thn (T.item (aO X scope N C s2 H2 fp) rfl rfl rfl hc i _ s' σ' H' _ I' (stat fr' (by simp)) st' go) fun r s5 ⟨u,hr,h5⟩=>?_
    subst hr
    refine thn h5 fun _ s6 ⟨x,H6,I6,r6,y6,st6,fr6⟩=>?_
    have I6':=I6.pinned (stat fr6 (by simp)) (T.obj _ _ st6)
    refine thn (hg C s2 H2 fp _ s6 σ' H6 x u _ I6' r6 (step x H6 y6)) fun _ s7 ⟨σ7,H7,I7,q7⟩=>?_
    refine thn (ht C s2 H2 fp _ s7 σ7 H7 _ I7 q7) fun ok s8 ⟨H8,I8,q8⟩=>?_
    have back:∀{H9:Hp}{s9:Shared},Inv (aO X scope N C s2 H2 fp) ([(D,{ cls:=.type "list",data:=.seq its.toArray k })]++fm fp s6.heap) σ7 H9 s9->tn (i + 1) s9.heap/\∀b∈fp,H9 b=none:=fun {H9 s9} I9=>by
     refine⟨T.keep _ _ _ st6 fun b hb o e=>(I9.pin (b,o) (List.mem_append_right _ (List.mem_append_right _ (fb hb e)))).1,fun b hb=>?_⟩
     obtain⟨o,e,d⟩:=T.obj _ _ st6 b hb
     exact (I9.pin (b,o) (List.mem_append_right _ (List.mem_append_right _ (fb hb e)))).2.1
    cases ok with
    | false =>
     rw [if_neg Bool.false_ne_true] at q8 ⊢
     obtain⟨m',hm,w8⟩:=hN _ _ _ q8
     obtain⟨st8,fr8⟩:=back I8
     exact⟨m',hm,i + 1,σ7,H8,ys,its,k,I8.unpinned,st8,fr8,rv,w8⟩
    | true =>
     rw [if_pos rfl] at q8 ⊢
     refine thn (he C s2 H2 fp _ s8 σ7 H8 _ I8 q8) fun y s9 ⟨v,H9,I9,r9,q9⟩=>?_
     have hD9:=I9.pin _ (List.mem_append_right _ (List.mem_append_left _ List.mem_cons_self))
     obtain⟨st9,fr9⟩:=back I9
     refine wpAny_list_append_plain (hsz:=by have:=rv.length;rw [List.size_toArray];omega) ⟨k,hD9.1⟩ fun h' hl' hs'=>?_
     obtain⟨m',hm,w9⟩:=hN _ _ _ q9
     obtain⟨k',ho'⟩:=hl'
     have I10:Inv (aO X scope N C s2 H2 fp) [] σ7 H9 { s9 with heap:=h' }:=(I9.pins_of (pins':=[]) fun p hp=>absurd hp (by simp)).turned (t':=s9.toks) (it:=D) (fun b o hb e=>hs'.extBut b o hb e) hD9.2.1 hDC (.inr (by show s2.heap.objs.size<=D;omega)) cellD (fun p hp=>absurd hp (by simp [aO]))
     refine⟨m',hm,i + 1,σ7,H9,ys++[v],its++[y],k',pinD I10 (by rw [ho'];simp) hD9.2.1 (fun v z=>by cases z),?_,fr9,rv.append (.cons r9 .nil),w9⟩
     exact T.keep _ _ _ st9 fun b hb o e=>hs'.extBut b o (nq2 b hb).2 e
  ·obtain⟨n,e⟩:=oD
   exact⟨0,emb ix σ,H2,[],[],n,pinD I4 e (I2.hok.fresh (by omega)) (fun v z=>by cases z),st4,fun b hb=>(f2 b hb).1,.nil,w0⟩
 have q:=loop _ rfl
 exact codeAny_compStart_list q (T.self _ 0 _ _ _ st4 q)
theorem tO {ea:Addr} (L:bQ X scope N ix) (hc:X.A.handled=some (.ref ea)) (hi:PIH ea X tg iter wi) (hg:∀C s0 H0 fp,PG (aO X scope N C s0 H0 fp) tg g) (ht:∀C s0 H0 fp,PTs (aO X scope N C s0 H0 fp) ifs tt) (he:∀C s0 H0 fp,PE (aO X scope N C s0 H0 fp) elt te)
  (hs:∀x,foldedSetIterable iter X.env x=pure x:=by intro _;rfl):PE X (.ListComp elt [⟨tg,iter,ifs,0⟩] scope pos) (tLc wi g tt te ix):=by
 intro pins s σ H Q I h
 rw [eval_ListComp]
 refine wpAny_comprehension_free (use:=none) rfl hs (L.clos I.ok) L.kind L.locals (thn (hi pins s σ H _ I h) fun v s1 h1=>thn h1 fun itv s2 h2=>?_)
 obtain⟨it,fp,tn,J,H2,rfl,I2,T,st2,f2,hW⟩:=h2
 refine rS (RR:=fun acc C=>compPost (model X.prog X.w) X.A X.xe none (EP X pins σ Q) acc C) L hc hg ht he I2 T st2 f2 hW ?_
 intro D C s' m ys H' hn ho hDC hC hI hD fin
 exact⟨m,hn,fun h' hs'=>⟨.ref D,_,hI h' hs',rfl,fin D hD⟩⟩
theorem oX {ea C:Addr}{dx:Option Addr}{lo:Int}{n:Nat}{σ':St}{fin:List V->Hp->Prop}{H1:Hp} (hn:n < sizeLine) (Pv:Nat->List V->St->Hp->Prop) (h0:Pv 0 [] σ' H1) (hl:∀i ys σ H,i<=n->Pv i ys σ H->ys.length<=i/\H ea=some (bB ea C dx))
  (hs:∀i ys σ H,i < n->Pv i ys σ H->g (.int (lo + i)) σ H fun σ2 H2=>tt σ2 H2 fun b H3=>if b=true then te σ2 H3 (fun v H4=>Pv (i + 1) (ys++[v]) σ2 H4) else Pv (i + 1) ys σ2 H3) (hd:∀ys σ H,Pv n ys σ H->fin ys H):LcW (ia ea C dx lo n) g tt te σ' fin H1:=by
 refine⟨fun i m ys σ H=>m=n - i/\i<=n/\Pv i ys σ H,⟨n,by simp,Nat.zero_le _,h0⟩,?_⟩
 rintro i m ys σ H ⟨rfl,hi,p⟩
 obtain⟨q0,q1⟩:=hl i ys σ H hi p
 by_cases h:i < n
 ·refine .inr ⟨h,by omega,fun ys' σ2 H2=>Pv (i + 1) ys' σ2 H2,fun ys' σ2 H2 q=>⟨n - (i + 1),by omega,rfl,h,q⟩,fun v H' y=>?_⟩
  obtain⟨rfl,rfl⟩:=y
  exact hs i ys σ H' h p
 ·have e:i=n:=by omega
  subst e
  exact .inl ⟨⟨Nat.le_refl _,q1⟩,by omega,hd ys σ H p⟩
end
end L2
namespace K24
open PySem L2
noncomputable def top (i:Nat):Stmt:=PySem.Challenge.pw_rootshares_k24_ways_refused.main.body.getD i (.Pass ⟨0,0,0,0⟩)
theorem bz:bootBuiltins "isinstance"=some (.builtin "isinstance"):=by decide +kernel
theorem eI:bootBuiltins "all"=some (.builtin "all"):=by decide +kernel
theorem gF:bootBuiltins "sorted"=some (.builtin "sorted"):=by decide +kernel
theorem mJ:bootBuiltins "max"=some (.builtin "max"):=by decide +kernel
theorem ue:bootBuiltins "min"=some (.builtin "min"):=by decide +kernel
theorem f7:bootBuiltins "str"=some (.type "str"):=by decide +kernel
theorem cI:bootBuiltins "tuple"=some (.type "tuple"):=by decide +kernel
theorem ma:bootBuiltins "list"=some (.type "list"):=by decide +kernel
theorem tV:bootBuiltins "int"=some (.type "int"):=by decide +kernel
theorem qA:bootBuiltins "divmod"=some (.builtin "divmod"):=by decide +kernel
structure Bl (mg:Str->Option Value):Prop where
 len:mg "len"=none
 isinstance:mg "isinstance"=none
 all:mg "all"=none
 range:mg "range"=none
 sorted:mg "sorted"=none
 repr:mg "repr"=none
 max:mg "max"=none
 min:mg "min"=none
 str:mg "str"=none
 tuple:mg "tuple"=none
 list:mg "list"=none
 int:mg "int"=none
 bool:mg "bool"=none
 zip:mg "zip"=none
 divmod:mg "divmod"=none
 abs:mg "abs"=none
 dict:mg "dict"=none
 lng:∃t,mg "LONGEST_NAME"=some (.int 8 t)
noncomputable def Fn (P:Program) (w:World) (K:PySem.W.Frag) (mg:Str->Option Value) (base:Heap) (k:Nat) (x:Str) (ps:List Str) (sp:Sp):Prop :=
 ∃f fd,mg x=some (.ref f)/\PySem.W.keepIn K (.ref f)=true/\Binds K fd ps []/\ax P w K mg base CX0 k f fd ps sp
theorem aw {X:Cx}{k:Nat}{x:Str}{ps:List Str}{sp:Sp}{e:Expr}{es:List Expr}{t:TA}{p pos:Pos} (F:Fn X.prog X.w X.K X.mg X.base k x ps sp) (hr:aK k X.A) (ha:PA X (e::es) t) (hg:Gl X x:=by rfl)
  (hdb:(x == ("__debug__":Str))=false:=by decide) (he:starEach (e::es) X.env=(false,eval e X.env)::starEach es X.env:=by rfl) (hpl:(backTo pos (starEach es X.env)).any (·.1)=false:=by rfl) :
  PE X (.Call (.Name x p) (e::es) [] pos) (dM sp [] E0 t):=by
 obtain⟨f,fd,h1,h2,h3,h4⟩:=F
 exact lP h4 hr hg h1 h2 h3 .nil mR ha hdb he hpl
theorem bp {X:Cx}{scope:Scope}{N:List Str}{C:Addr}{s0:Shared}{H0:Hp}{fp:List Addr}{x:Str}{pos:Pos} (i:Nat) (hN:N.Nodup) (hi:N[i]?=some x) (hx:scope.names.lookup x=some .local) :
  PG (aO X scope N C s0 H0 fp) (.Name x pos) (bV i) :=
 bv (X:=aO X scope N C s0 H0 fp) hN hi (.inl (lookup_relabel_local hx)) (.inr (lookup_relabel_local hx))
theorem ib {c A B:Prop} [Decidable c] (hc:c) (h:A):if decide c=true then A else B:=by
 rw [decide_eq_true hc];exact aA h
theorem jo {c A B:Prop} [Decidable c] (hc:¬ c) (h:B):if decide c=true then A else B:=by
 rw [decide_eq_false hc];exact aL h
theorem f9 {c A B:Prop} [Decidable c] (hc:¬ c) (h:A):if (!decide c)=true then A else B:=by
 rw [decide_eq_false hc];exact aA h
theorem lt1 (a b:Nat):([a] < [b]) ↔ a < b:=by rw [List.cons_lt_cons_iff];simp
structure be (x:Str):Prop where
 lo:1<=x.length
 hi:x.length<=8
 az:∀c∈x.cps.toList,97<=c/\c<=122
theorem be.fits {x:Str} (h:be x):x.length < sizeLine:=by have:=h.hi;rw [sizeLine_eq];omega
theorem be.ascii {x:Str} (h:be x):x.cps.all (· < 128)=true:=by
 rw [Array.all_eq_true']
 intro c hc
 have:=h.az c (by simpa using hc)
 simp;omega
section
variable {P:Program}{w:World}{K:PySem.W.Frag}{mg:Str->Option Value}{base:Heap}
noncomputable def iX:Sp:=fun vs H Q _=>∃x,vs=[.str x]/\be x/\∀H',ah H H'->Q (.bl true) H'
theorem mV:aP ["thing"] ["thing"] (ao (top 15)):=⟨rfl,rfl,rfl,by decide +kernel,rfl,by decide +kernel,by decide +kernel⟩
theorem am {H H':Hp}{p:Addr}{o:HO} (h:ah H H') (hp:H' p=none):ah H (upd H' p o):=fun b ob e=>by
 rw [au (aZ (h b ob e) hp)];exact h b ob e
theorem pB {f:Addr}{fd:FuncData} (F:Fun K "is_name" "is_name" (top 15) f fd) (B:Bl mg):ax P w K mg base CX0 1 f fd ["thing"] iX:=by
 refine F.ok mV (fun vs H Q E h=>?_) (fun cdv A outer s H vs Q E hr h=>?_)
 ·obtain⟨x,rfl,_⟩:=h
  rfl
 ·obtain⟨x,rfl,hx,k⟩:=h
  obtain⟨tl,hl⟩:=B.lng
  refine⟨_,ak (bq (PW.pt (df (bN (bO (aB (cG (T:="str")) rfl B.isinstance bz (ae (pv 0) (ae (cA (v:=.ty "str") rfl B.str f7 rfl) ag)))))
    (dF (bN (kJ gY gY ai (aB jF rfl B.len PySem.boot_len (ae (pv 0) ag)) (cJ (v:=.int 8) rfl hl ⟨_,rfl⟩)))))) (av (aI cZ)) bc)
   (av (aI (aB (eB rfl) rfl B.all eI (ae (bC (N:=["letter"]) (ix:=[none]) ⟨rfl,rfl,rfl,by decide⟩ rfl (mF (pv 0)) (fun _ _ _ _=>bp 0 (by decide) rfl rfl) (fun _ _ _ _=>bY)
    (fun _ _ _ _=>ku gu gu bF (pv 0) bF)) ag)))),?_⟩
  refine⟨_,rfl,_,_,true,rfl,.str x,?kit,true,rfl,aL ?_⟩
  case kit=>rfl
  refine⟨_,rfl,x,rfl,Nat.le_of_lt hx.fits,_,_,rfl,rfl,_,rfl,ib (by have:=hx.lo;omega) ⟨_,_,rfl,rfl,_,rfl,?_⟩⟩
  refine de (by have:=hx.hi;omega) ?_
  refine⟨_,rfl,x,rfl,hx.ascii,kC hx.fits (fun i ys σ H1=>ys=List.replicate i (.bl true)/\ah H H1/\∃v,σ=[v]) ⟨rfl,ah.refl _,_,rfl⟩ (fun i ys σ H1 _ q=>by rw [q.1];simp) ?_ ?_⟩
  ·rintro i c ys σ H1 hc ⟨rfl,hs,v,rfl⟩
   have hcm:=hx.az c (Array.mem_toList_iff.mpr (Array.mem_of_getElem? hc))
   refine⟨_,rfl,_,_,rfl,rfl,_,rfl,f9 ?_ ⟨_,_,rfl,rfl,?_,hs,_,rfl⟩⟩
   ·show ¬ ([c] < [97])
    rw [lt1];omega
   ·have e:(!decide ([122] < [c]))=true:=by rw [decide_eq_false (by rw [lt1];omega)];rfl
    show _++[V.bl (!decide ([122] < [c]))]=_
    rw [e,List.replicate_succ']
  ·rintro ys σ H1 ⟨rfl,hs,v,rfl⟩ p hp
   refine⟨p,List.replicate x.length true,rfl,SqL.of (by rw [aj,List.map_replicate]),?_⟩
   have e:(List.replicate x.length true).all id=true:=by simp
   rw [e]
   exact k _ (am hs hp)
end
theorem bJ (K:PySem.W.Frag) {X:Cx} (h:X.K=K:=by rfl):IxR X (rIx K):=by subst h;exact aF
theorem lF (K:PySem.W.Frag) {X:Cx} (h:X.K=K:=by rfl):OpR X (compareOp .In) (rIn K false):=by subst h;exact gx
theorem fc (K:PySem.W.Frag) {X:Cx} (h:X.K=K:=by rfl):OpR X (compareOp .NotIn) (rIn K true):=by subst h;exact fH
theorem ft {α:Type}{xs:List α}{z:Int}{j:Nat}{v:α} (hz:z=(j:Int)) (h:xs[j]?=some v):atI xs z=some v:=by subst hz;exact rG h
noncomputable def Sq (K:PySem.W.Frag) (H:Hp) (p:Addr) (xs:List V):Prop:=SqL K H p xs\/SqT K H p xs
theorem dU {K:PySem.W.Frag}{H H':Hp}{a:Addr}{xs:List V} (e:ah H H') (h:SqT K H a xs):SqT K H' a xs:=by
 rcases h with (h | ⟨o,h⟩) | h
 ·exact .inl (.inl (e _ _ h))
 ·exact .inl (.inr ⟨o,e _ _ h⟩)
 ·exact .inr h
theorem Sq.same {K:PySem.W.Frag}{H H':Hp}{a:Addr}{xs:List V} (h:Sq K H a xs) (e:ah H H'):Sq K H' a xs:=h.imp (fun z=>e.seq z) fun z=>dU e z
theorem aC {K:PySem.W.Frag}{H:Hp}{p:Addr}{xs:List V}{z:Int}{j:Nat}{v:V}{Q:VK} (h:Sq K H p xs) (hz:z=(j:Int)) (hx:xs[j]?=some v) (q:Q v H):rIx K (.ref p) (.int z) H Q :=
 h.elim (fun h=>.inl ⟨p,xs,z,v,rfl,rfl,h,ft hz hx,q⟩) fun h=>.inr (.inl ⟨p,xs,z,v,rfl,rfl,h,ft hz hx,q⟩)
theorem fits {n:Nat} (h:n<=1000):n < sizeLine:=pL h
theorem strAt {ss:List Str}{i:Nat} (h:i < ss.length):(ss.map V.str)[i]?=some (.str ss[i]):=by rw [List.getElem?_map,List.getElem?_eq_getElem h];rfl
theorem cn (x:Str) (ss:List Str):inV (.str x) (ss.map V.str)=decide (x∈ss):=by
 unfold inV
 rw [List.any_map]
 rw [Bool.eq_iff_iff,List.any_eq_true,decide_eq_true_iff]
 constructor
 ·rintro⟨y,hy,e⟩
  have e':y=x:=by simpa [eqV] using e
  exact e' ▸ hy
 ·intro h
  exact⟨x,h,by simp [eqV]⟩
theorem cm (ss:List Str):(ss.map V.str).all ed=true:=by
 rw [List.all_map,List.all_eq_true]
 intro y _
 rfl
noncomputable abbrev Row:=Str×Str×Str
noncomputable def e6 (H:Hp) (p:Addr) (r:Row):Prop:=H p=some (.tup [.str r.1,.str r.2.1,.str r.2.2])
noncomputable abbrev aq (rs:List (Addr×Row)):List V:=rs.map fun r=>V.ref r.1
structure br (H:Hp) (v pa ra:Addr) (ps:List Str) (rs:List (Addr×Row)):Prop where
 tp:H v=some (.tup [.ref pa,.ref ra])
 pl:H pa=some (.tup (ps.map V.str))
 rl:H ra=some (.tup (aq rs))
 rows:∀r∈rs,e6 H r.1 r.2
structure Good (ps:List Str) (rs:List Row):Prop where
 ne:ps≠[]
 nm:∀x∈ps,be x
 so:ps.Pairwise nlt
 rn:∀r∈rs,be r.1/\r.2.1∈ps/\r.2.2∈ps/\r.2.1≠r.2.2
 rso:(rs.map (·.1)).Pairwise nlt
 pz:ps.length<=100
 rz:rs.length<=60
theorem br.same {H H':Hp}{v pa ra:Addr}{ps:List Str}{rs:List (Addr×Row)} (h:br H v pa ra ps rs) (e:ah H H'):br H' v pa ra ps rs :=
 ⟨e _ _ h.tp,e _ _ h.pl,e _ _ h.rl,fun r hr=>e _ _ (h.rows r hr)⟩
section
variable {P:Program}{w:World}{K:PySem.W.Frag}{mg:Str->Option Value}{base:Heap}
noncomputable def iE (K:PySem.W.Frag):Sp:=fun vs H Q _=>∃(p:Addr) (ss:List Str),vs=[.ref p]/\Sq K H p (ss.map V.str)/\ss.Pairwise nlt/\ss.length<=1000/\∀H',ah H H'->Q (.bl true) H'
theorem nO:aP ["names"] ["names"] (ao (top 16)):=⟨rfl,rfl,rfl,by decide +kernel,rfl,by decide +kernel,by decide +kernel⟩
theorem jE {f:Addr}{fd:FuncData} (F:Fun K "is_rising" "is_rising" (top 16) f fd) (B:Bl mg):ax P w K mg base CX0 1 f fd ["names"] (iE K):=by
 refine F.ok nO (fun vs H Q E h=>?_) (fun cdv A outer s H vs Q E hr h=>?_)
 ·obtain⟨p,ss,rfl,_⟩:=h
  rfl
 ·obtain⟨p,ss,rfl,hq,hp,hz,k⟩:=h
  refine⟨_,av (aI (aB (eB rfl) rfl B.all eI (ae (bC (N:=["at","names"]) (ix:=[none,some 0]) ⟨rfl,rfl,rfl,by decide⟩ rfl
   (jY rfl B.range (ae ai (ae (aB bD rfl B.len PySem.boot_len (ae (pv 0) ag)) ag))) (fun _ _ _ _=>bp 0 (by decide) rfl rfl) (fun _ _ _ _=>bY)
   (fun _ _ _ _=>cV kg (ay (bJ K) (pv 1) (aE fY (pv 0) ai) (fun _ _=>rfl)) (ay (bJ K) (pv 1) (pv 0) (fun _ _=>rfl)) (aQ _))) ag))),?_⟩
  have hz':(ss.map V.str).length<=1000:=by simpa using hz
  refine⟨_,rfl,p,ss.map V.str,rfl,hq,1,_,rfl,⟨by decide,by decide,by omega,by omega⟩,ij (fits (by omega)) (fun i ys σ H1=>ys=List.replicate i (.bl true)/\ah H H1/\∃v,σ=[v,some (.ref p)])
   ⟨rfl,ah.refl _,_,rfl⟩ (fun i ys σ H1 _ q=>by rw [q.1];simp) ?_ ?_⟩
  ·rintro i ys σ H1 hi ⟨rfl,hs,v,rfl⟩
   have hl:i + 1 < ss.length:=by rw [List.length_map] at hi;omega
   refine⟨_,rfl,_,rfl,_,_,rfl,rfl,aC (j:=i) (hq.same hs) (by omega) (strAt (by omega)) ⟨_,rfl,_,rfl,aC (j:=i + 1) (hq.same hs) (by push_cast;omega) (strAt hl) ⟨_,_,rfl,rfl,?_,hs,_,rfl⟩⟩⟩
   have e:ss[i].cps.toList < ss[i + 1].cps.toList:=List.pairwise_iff_getElem.mp hp i (i + 1) (by omega) hl (by omega)
   show _++[V.bl (decide (ss[i].cps.toList < ss[i + 1].cps.toList))]=_
   rw [decide_eq_true e,List.replicate_succ']
  ·rintro ys σ H1 ⟨rfl,hs,v,rfl⟩ q hqn
   refine⟨q,List.replicate _ true,rfl,SqL.of (by rw [aj,List.map_replicate]),?_⟩
   have e:∀n:Nat,(List.replicate n true).all id=true:=by simp
   rw [e]
   exact k _ (am hs hqn)
noncomputable def kr:Sp:=fun vs H Q _=>∃(p:Addr) (ss:List Str),vs=[.ref p]/\H p=some (.tup (ss.map V.str))/\(∀x∈ss,be x)/\ss.Pairwise nlt/\ss.length<=1000/\∀H',ah H H'->Q (.bl true) H'
theorem nP:aP ["thing"] ["thing"] (ao (top 17)):=⟨rfl,rfl,rfl,by decide +kernel,rfl,by decide +kernel,by decide +kernel⟩
theorem n8 {f:Addr}{fd:FuncData} (F:Fun K "is_sorted_names" "is_sorted_names" (top 17) f fd) (B:Bl mg) (F1:Fn P w K mg base 1 "is_name" ["thing"] iX) (F2:Fn P w K mg base 1 "is_rising" ["names"] (iE K)) :
  ax P w K mg base CX0 2 f fd ["thing"] kr:=by
 refine F.ok nP (fun vs H Q E h=>?_) (fun cdv A outer s H vs Q E hr h=>?_)
 ·obtain⟨p,ss,rfl,_⟩:=h
  rfl
 ·obtain⟨p,ss,rfl,hp,hn,hs,hz,k⟩:=h
  refine⟨_,ak (bq (bN (bO (aB (cG (T:="tuple")) rfl B.isinstance bz (ae (pv 0) (ae (cA (v:=.ty "tuple") rfl B.tuple cI rfl) ag))))) (av (aI cZ)) bc)
   (av (aI (cw (aB (eB rfl) rfl B.all eI (ae (bC (N:=["name"]) (ix:=[none]) ⟨rfl,rfl,rfl,by decide⟩ rfl (cK (pv 0)) (fun _ _ _ _=>bp 0 (by decide) rfl rfl) (fun _ _ _ _=>bY)
    (fun _ _ _ _=>aw F1 hr (ae (pv 0) ag))) ag)) (du (aw F2 hr (ae (pv 0) ag)))))),?_⟩
  refine⟨_,rfl,_,_,true,rfl,.tup hp,rfl,true,rfl,aL ?_⟩
  refine⟨_,rfl,p,rfl,⟨_,SqT.of hp⟩,fi (xs:=ss.map V.str) (fits (by simpa using hz)) (fun i ys σ H1=>ys=List.replicate i (.bl true)/\ah H H1/\∃v,σ=[v]) ⟨rfl,ah.refl _,_,rfl⟩
   (fun i ys σ H1 _ q=>⟨by rw [q.1];simp,dU q.2.1 (SqT.of hp)⟩) ?_ ?_⟩
  ·rintro i x ys σ H1 hx ⟨rfl,hs1,v,rfl⟩
   obtain⟨y,hy,rfl⟩:∃y∈ss,x=V.str y:=by
    obtain⟨y,e1,e2⟩:=List.mem_map.mp (List.mem_of_getElem? hx)
    exact⟨y,e1,e2.symm⟩
   exact⟨_,rfl,y,rfl,hn y hy,fun H2 hs2=>⟨by rw [List.replicate_succ'],hs1.trans hs2,_,rfl⟩⟩
  ·rintro ys σ H1 ⟨rfl,hs1,v,rfl⟩ q hqn
   refine⟨q,List.replicate _ true,rfl,SqL.of (by rw [aj,List.map_replicate]),_,rfl,?_⟩
   have e:∀n:Nat,(List.replicate n true).all id=true:=by simp
   rw [e]
   have hs2:=am (o:=.lst (List.replicate (ss.map V.str).length (.bl true))) hs1 hqn
   exact aA ⟨_,rfl,p,ss,rfl,.inr (dU hs2 (SqT.of hp)),hs,hz,fun H3 hs3=>k _ (hs2.trans hs3)⟩
noncomputable def iJ (K:PySem.W.Frag):Sp:=fun vs H Q _=>∃(x:Str) (p:Addr) (ss:List Str),vs=[.str x,.ref p]/\Sq K H p (ss.map V.str)/\Q (.bl (decide (x∈ss))) H
theorem jz:aP ["thing","names"] ["thing","names"] (ao (top 18)):=⟨rfl,rfl,rfl,by decide +kernel,rfl,by decide +kernel,by decide +kernel⟩
theorem oE {f:Addr}{fd:FuncData} (F:Fun K "is_among" "is_among" (top 18) f fd) (B:Bl mg):ax P w K mg base CX0 1 f fd ["thing","names"] (iJ K):=by
 refine F.ok jz (fun vs H Q E h=>?_) (fun cdv A outer s H vs Q E hr h=>?_)
 ·obtain⟨x,p,ss,rfl,_⟩:=h
  rfl
 ·obtain⟨x,p,ss,rfl,hp,k⟩:=h
  refine⟨_,av (aI (cw (aB (cG (T:="str")) rfl B.isinstance bz (ae (pv 0) (ae (cA (v:=.ty "str") rfl B.str f7 rfl) ag)))
   (du (cV gx (pv 0) (pv 1) (by with_unfolding_all rfl))))),?_⟩
  refine⟨_,rfl,_,_,true,rfl,.str x,rfl,true,rfl,aA ⟨_,rfl,_,rfl,p,ss.map V.str,rfl,hp,rfl,cm ss,?_⟩⟩
  show Q (.bl (inV (.str x) (ss.map V.str))) H
  rw [cn]
  exact k
noncomputable def kH:Sp:=fun vs H Q _=>∃(p q:Addr) (r:Row) (ps:List Str),vs=[.ref p,.ref q]/\e6 H p r/\H q=some (.tup (ps.map V.str))/\be r.1/\r.2.1∈ps/\r.2.2∈ps/\r.2.1≠r.2.2/\∀H',ah H H'->Q (.bl true) H'
theorem eL:aP ["thing","places","name","start","end"] ["thing","places"] (ao (top 19)):=⟨rfl,rfl,rfl,by decide +kernel,rfl,by decide +kernel,by decide +kernel⟩
theorem nY {f:Addr}{fd:FuncData} (F:Fun K "is_tie_row" "is_tie_row" (top 19) f fd) (B:Bl mg) (F1:Fn P w K mg base 1 "is_name" ["thing"] iX) (F2:Fn P w K mg base 1 "is_among" ["thing","names"] (iJ K)) :
  ax P w K mg base CX0 2 f fd ["thing","places"] kH:=by
 refine F.ok eL (fun vs H Q E h=>?_) (fun cdv A outer s H vs Q E hr h=>?_)
 ·obtain⟨p,q,r,ps,rfl,_⟩:=h
  rfl
 ·obtain⟨p,q,r,ps,rfl,hp,hq,h1,h2,h3,h4,k⟩:=h
  have hp':H p=some (.tup [.str r.1,.str r.2.1,.str r.2.2]):=hp
  refine⟨_,ak (bq (PW.pt (df (bN (bO (aB (cG (T:="tuple")) rfl B.isinstance bz (ae (pv 0) (ae (cA (v:=.ty "tuple") rfl B.tuple cI rfl) ag)))))
    (dF (aM dI (aB bD rfl B.len PySem.boot_len (ae (pv 0) ag)) ai (aQ _))))) (av (aI cZ)) bc)
   (ak (dZ (pv 0) (d9 rfl (n:=3) (bt (bv (i:=2) eL.nd rfl (Or.inl rfl)) (bt (bv (i:=3) eL.nd rfl (Or.inl rfl)) (bt (bv (i:=4) eL.nd rfl (Or.inl rfl)) dn)))))
   (av (aI (cw (aw F1 hr (ae (pv 2) ag)) (cw (aw F2 hr (ae (pv 3) (ae (pv 1) ag))) (cw (aw F2 hr (ae (pv 4) (ae (pv 1) ag))) (du (cV dI (pv 3) (pv 4) (aQ _))))))))),?_⟩
  refine⟨_,rfl,_,_,true,rfl,.tup hp',rfl,true,rfl,aL ⟨_,rfl,p,_,rfl,.inr (SqT.of hp'),rfl,_,rfl,de rfl ?_⟩⟩
  refine⟨_,rfl,p,_,rfl,SqT.of hp',rfl,_,_,rfl,_,_,rfl,_,_,rfl,rfl,?_⟩
  refine⟨_,rfl,r.1,rfl,h1,fun H1 s1=>⟨true,rfl,aA ⟨_,rfl,_,rfl,r.2.1,q,ps,rfl,.inr (dU s1 (SqT.of hq)),_,rfl,ib h2 ⟨_,rfl,_,rfl,r.2.2,q,ps,rfl,.inr (dU s1 (SqT.of hq)),_,rfl,ib h3 ⟨_,rfl,_,rfl,rfl,?_⟩⟩⟩⟩⟩
  have e:(!decide (V.str r.2.1=V.str r.2.2))=true:=by
   rw [decide_eq_false (fun z=>h4 (V.str.inj z))];rfl
  rw [e]
  exact k H1 s1
end
theorem dC {α β:Type} (f:α->β) (l:List α) (i:Nat) (x:α) (h:l[i]?=some x):(l.take (i + 1)).map f=(l.take i).map f++[f x]:=by
 rw [List.take_add_one,h];simp
theorem ck {rs:List (Addr×Row)}{i:Nat}{x:V} (h:(aq rs)[i]?=some x):∃r,rs[i]?=some r/\x=.ref r.1:=by
 unfold aq at h
 rw [List.getElem?_map] at h
 cases e:rs[i]? with
 | none=>rw [e] at h;cases h
 | some r=>rw [e] at h;exact⟨r,rfl,(Option.some.inj h).symm⟩
section
variable {P:Program}{w:World}{K:PySem.W.Frag}{mg:Str->Option Value}{base:Heap}
noncomputable def dz (r:V):Sp:=fun vs H Q _=>∃(v pa ra:Addr) (ps:List Str) (rs:List (Addr×Row)),vs=[.ref v]/\br H v pa ra ps rs/\Good ps (rs.map (·.2))/\∀H',ah H H'->Q r H'
theorem fD:aP ["thing","places","rows"] ["thing"] (ao (top 20)):=⟨rfl,rfl,rfl,by decide +kernel,rfl,by decide +kernel,by decide +kernel⟩
theorem qh {f:Addr}{fd:FuncData} (F:Fun K "is_web" "is_web" (top 20) f fd) (B:Bl mg) (F1:Fn P w K mg base 2 "is_sorted_names" ["thing"] kr) (F2:Fn P w K mg base 2 "is_tie_row" ["thing","places"] kH)
  (F3:Fn P w K mg base 1 "is_rising" ["names"] (iE K)):ax P w K mg base CX0 3 f fd ["thing"] (dz (.bl true)):=by
 refine F.ok fD (fun vs H Q E h=>?_) (fun cdv A outer s H vs Q E hr h=>?_)
 ·obtain⟨v,pa,ra,ps,rs,rfl,_⟩:=h
  rfl
 ·obtain⟨v,pa,ra,ps,rs,rfl,W,G,k⟩:=h
  have hr1:aK 1 _:=hr.mono (by decide)
  refine⟨_,ak (bq (PW.pt (df (bN (bO (aB (cG (T:="tuple")) rfl B.isinstance bz (ae (pv 0) (ae (cA (v:=.ty "tuple") rfl B.tuple cI rfl) ag)))))
    (dF (aM dI (aB bD rfl B.len PySem.boot_len (ae (pv 0) ag)) ai (aQ _))))) (av (aI cZ)) bc)
   (ak (dZ (pv 0) (d9 rfl (n:=2) (bt (bv (i:=1) fD.nd rfl (Or.inr rfl)) (bt (bv (i:=2) fD.nd rfl (Or.inl rfl)) dn))))
   (ak (bq (PW.pt (df (bN (bO (aw F1 hr (ae (pv 1) ag)))) (df (aM cX (aB bD rfl B.len PySem.boot_len (ae (pv 1) ag)) ai (aQ _))
    (dF (bN (bO (aB (cG (T:="tuple")) rfl B.isinstance bz (ae (pv 2) (ae (cA (v:=.ty "tuple") rfl B.tuple cI rfl) ag))))))))) (av (aI cZ)) bc)
   (av (aI (cw (aB (eB rfl) rfl B.all eI (ae (bC (N:=["row","places"]) (ix:=[none,some 1]) ⟨rfl,rfl,rfl,by decide⟩ rfl (cK (pv 2)) (fun _ _ _ _=>bp 0 (by decide) rfl rfl) (fun _ _ _ _=>bY)
    (fun _ _ _ _=>aw F2 hr (ae (pv 0) (ae (pv 1) ag)))) ag))
    (du (aw F3 hr1 (ae (bC (N:=["row"]) (ix:=[none]) ⟨rfl,rfl,rfl,by decide⟩ rfl (cK (pv 2)) (fun _ _ _ _=>bp 0 (by decide) rfl rfl) (fun _ _ _ _=>bY)
     (fun _ _ _ _=>ay (bJ K) (pv 0) ai (fun _ _=>rfl))) ag)))))))),?_⟩
  have hlen:(aq rs).length<=1000:=by have:=G.rz;simp at this ⊢;omega
  refine⟨_,rfl,_,_,true,rfl,.tup W.tp,rfl,true,rfl,aL ⟨_,rfl,v,_,rfl,.inr (SqT.of W.tp),rfl,_,rfl,de rfl ?_⟩⟩
  refine⟨_,rfl,v,_,rfl,SqT.of W.tp,rfl,_,_,rfl,_,_,rfl,rfl,?_⟩
  refine⟨_,rfl,pa,ps,rfl,W.pl,G.nm,G.so,by have:=G.pz;omega,fun H1 s1=>⟨true,rfl,aL ?_⟩⟩
  refine⟨_,rfl,pa,_,rfl,.inr (SqT.of (s1 _ _ W.pl)),rfl,_,rfl,jo ?_ ?_⟩
  ·intro z
   have z':((ps.map V.str).length:Int)=0:=V.int.inj z
   have:ps.length≠0:=fun q=>G.ne (List.length_eq_zero_iff.mp q)
   rw [List.length_map] at z'
   omega
  refine⟨_,rfl,_,_,true,rfl,.tup (s1 _ _ W.rl),rfl,true,rfl,aL ?_⟩
  refine⟨_,rfl,ra,rfl,⟨_,SqT.of (s1 _ _ W.rl)⟩,fi (xs:=aq rs) (fits hlen) (fun i ys σ H2=>ys=List.replicate i (.bl true)/\ah H H2/\∃x,σ=[x,some (.ref pa)]) ⟨rfl,s1,_,rfl⟩
   (fun i ys σ H2 _ q=>⟨by rw [q.1];simp,SqT.of (q.2.1 _ _ W.rl)⟩) ?_ ?_⟩
  ·rintro i x ys σ H2 hx ⟨rfl,s2,y,rfl⟩
   obtain⟨r,hr',rfl⟩:=ck hx
   have hm:=List.mem_of_getElem? hr'
   obtain⟨g1,g2,g3,g4⟩:=G.rn r.2 (List.mem_map_of_mem hm)
   exact⟨_,rfl,_,rfl,r.1,pa,r.2,ps,rfl,s2 _ _ (W.rows r hm),s2 _ _ W.pl,g1,g2,g3,g4,fun H3 s3=>⟨by rw [List.replicate_succ'],s2.trans s3,_,rfl⟩⟩
  ·rintro ys σ H2 ⟨rfl,s2,y,rfl⟩ q hqn
   have s3:=am (o:=.lst (List.replicate (aq rs).length (.bl true))) s2 hqn
   refine⟨q,List.replicate _ true,rfl,SqL.of (by rw [aj,List.map_replicate]),_,rfl,?_⟩
   have e:∀n:Nat,(List.replicate n true).all id=true:=by simp
   rw [e]
   refine aA ⟨_,rfl,ra,rfl,⟨_,SqT.of (s3 _ _ W.rl)⟩,fi (xs:=aq rs) (fits hlen) (fun i ys σ H4=>ys=((rs.take i).map fun r=>V.str r.2.1)/\ah H H4/\∃x,σ=[x]) ⟨rfl,s3,_,rfl⟩
    (fun i ys σ H4 _ q=>⟨by rw [q.1];simp;omega,SqT.of (q.2.1 _ _ W.rl)⟩) ?_ ?_⟩
   ·rintro i x ys σ H4 hx ⟨rfl,s4,z,rfl⟩
    obtain⟨r,hr',rfl⟩:=ck hx
    have hm:=List.mem_of_getElem? hr'
    exact⟨_,rfl,aC (j:=0) (.inr (SqT.of (s4 _ _ (W.rows r hm)))) rfl rfl ⟨(dC _ _ _ _ hr').symm,s4,_,rfl⟩⟩
   ·rintro ys σ H4 ⟨rfl,s4,z,rfl⟩ q2 hq2
    refine⟨q2,rs.map (·.2.1),rfl,.inl (SqL.of (by rw [aj];simp)),?_,by simpa using hlen,fun H5 s5=>k _ ((am s4 hq2).trans s5)⟩
    have:=G.rso
    rw [List.map_map] at this
    exact this
end
theorem ic {α:Type} (p:α->Bool) (l:List α) (i:Nat) (x:α) (h:l[i]?=some x):(l.take (i + 1)).filter p=(l.take i).filter p++(if p x then [x] else []):=by
 rw [List.take_add_one,h,List.filter_append]
 simp only [Option.toList_some,List.filter_cons,List.filter_nil]
theorem take_all {α:Type} (l:List α) {n:Nat} (h:n=l.length):l.take n=l:=by subst h;exact List.take_length
noncomputable abbrev nms (rs:List (Addr×Row)):List Str:=rs.map (·.2.1)
theorem j5 {α β:Type} (f:α->β):∀(l':List β) (l:List α),l'.Perm (l.map f)->∃l'':List α,l''.Perm l/\l''.map f=l'
 | [],l,h=>by
  have:l=[]:=by simpa using h.length_eq.symm
  subst this
  exact⟨[],.refl _,rfl⟩
 | b::t,l,h=>by
  obtain⟨a,ha,rfl⟩:=List.mem_map.mp (h.mem_iff.mp List.mem_cons_self)
  obtain⟨u,v,rfl⟩:=List.append_of_mem ha
  have h2:(f a::t).Perm (f a::(u++v).map f):=by
   refine h.trans ?_
   rw [List.map_append,List.map_cons,List.map_append]
   exact List.perm_middle
  obtain⟨w,hw,e⟩:=j5 f t (u++v) h2.cons_inv
  exact⟨a::w,(hw.cons a).trans List.perm_middle.symm,by rw [List.map_cons,e]⟩
structure uZ (ps ls:List Str):Prop where
 ne:ls≠[]
 nm:∀x∈ls,be x
 so:ls.Pairwise nlt
 sub:∀x∈ls,x∈ps
 z:ls.length<=100
theorem rk {ss:List Str} (h:ss.Pairwise nlt):ss.Nodup:=h.imp fun {a b} hab e=>by
 subst e;exact absurd hab (List.lt_irrefl _)
theorem kS (rs:List (Addr×Row)):refs (rs.map fun r=>(r.1,r.2.1))=aq rs:=by
 unfold refs aq
 rw [List.map_map]
 rfl
theorem iT (K:PySem.W.Frag) {X:Cx}{es:List Expr}{k:Nat}{t:TGs}{n:Nat}{pos:Pos} (hc:X.calm=true) (h:PGs X es t) (hK:X.K=K:=by rfl) (hn:(assignEach es X.env).length=n:=by rfl) (hst:(assignEach es X.env).findIdx? (·.1)=none:=by rfl) :
  PG X (.Tuple es k pos) (nH K n t):=by subst hK;exact d9 hc h hn hst
section
variable {P:Program}{w:World}{K:PySem.W.Frag}{mg:Str->Option Value}{base:Heap}
theorem nE:aP ["thing"] ["thing"] (ao (top 22)):=⟨rfl,rfl,rfl,by decide +kernel,rfl,by decide +kernel,by decide +kernel⟩
theorem jJ {f:Addr}{fd:FuncData} (F:Fun K "need_web" "need_web" (top 22) f fd) (F1:Fn P w K mg base 3 "is_web" ["thing"] (dz (.bl true))):ax P w K mg base CX0 4 f fd ["thing"] (dz .non):=by
 refine F.ok nE (fun vs H Q E h=>?_) (fun cdv A outer s H vs Q E hr h=>?_)
 ·obtain⟨v,pa,ra,ps,rs,rfl,_⟩:=h
  rfl
 ·obtain⟨v,pa,ra,ps,rs,rfl,W,G,k⟩:=h
  refine⟨_,av (bq (bN (bO (aw F1 hr (ae (pv 0) ag)))) dk bc),?_⟩
  exact⟨_,rfl,v,pa,ra,ps,rs,rfl,W,G,fun H1 s1=>⟨true,rfl,aL (k H1 s1)⟩⟩
noncomputable def eA:Sp:=fun vs H Q _=>∃(v pa ra:Addr) (ps:List Str) (rs:List (Addr×Row)) (x:Str),vs=[.ref v,.str x]/\br H v pa ra ps rs/\x∈ps/\Q .non H
theorem ni:aP ["web","thing"] ["web","thing"] (ao (top 23)):=⟨rfl,rfl,rfl,by decide +kernel,rfl,by decide +kernel,by decide +kernel⟩
theorem jD {f:Addr}{fd:FuncData} (F:Fun K "need_place" "need_place" (top 23) f fd) (F1:Fn P w K mg base 1 "is_among" ["thing","names"] (iJ K)):ax P w K mg base CX0 2 f fd ["web","thing"] eA:=by
 refine F.ok ni (fun vs H Q E h=>?_) (fun cdv A outer s H vs Q E hr h=>?_)
 ·obtain⟨v,pa,ra,ps,rs,x,rfl,_⟩:=h
  rfl
 ·obtain⟨v,pa,ra,ps,rs,x,rfl,W,hx,k⟩:=h
  refine⟨_,av (bq (bN (bO (aw F1 hr (ae (pv 1) (ae (ay aF (pv 0) ai (fun _ _=>rfl)) ag))))) dk bc),?_⟩
  exact⟨_,rfl,_,rfl,aC (j:=0) (.inr (SqT.of W.tp)) rfl rfl ⟨x,pa,ps,rfl,.inr (SqT.of W.pl),_,rfl,de hx k⟩⟩
end
noncomputable def Pot (H:Hp) (p:Addr):Prop:=∃a b,H p=some (.lst [.int a,.int b])/\0<=b/\b < 2147483648
noncomputable def Kp (P:List Addr) (H H':Hp):Prop:=∀b o,H b=some o->b∉P->H' b=some o
theorem Kp.refl (P:List Addr) (H:Hp):Kp P H H:=fun _ _ h _=>h
theorem Kp.trans {P:List Addr}{H H1 H2:Hp} (a:Kp P H H1) (b:Kp P H1 H2):Kp P H H2:=fun c o h n=>b c o (a c o h n) n
theorem Kp.same {P:List Addr}{H H':Hp} (a:ah H H'):Kp P H H':=fun c o h _=>a c o h
theorem Kp.of_same {P:List Addr}{H H1 H2:Hp} (a:Kp P H H1) (b:ah H1 H2):Kp P H H2:=fun c o h n=>b c o (a c o h n)
theorem Kp.inn {P:List Addr}{H H1:Hp}{p:Addr}{o:HO} (a:Kp P H H1) (hp:p∈P):Kp P H (upd H1 p o):=fun c ob h n=>by rw [au (show c≠p from fun z=>n (by rw [z];exact hp))];exact a c ob h n
theorem Kp.new {P:List Addr}{H H1:Hp}{p:Addr}{o:HO} (a:Kp P H H1) (hp:H1 p=none):Kp P H (upd H1 p o):=fun c ob h n=>by rw [au (aZ (a c ob h n) hp)];exact a c ob h n
noncomputable def dW:Str:=Str.ofString "abcdefghijklmnopqrstuvwxyz"
theorem oJ:∀r:_root_.Fin 26,dW.cps.toList[r.val]?=some (97 + r.val):=by decide +kernel
theorem gs {r:Nat} (h:r < 26):dW.cps.toList[r]?=some (97 + r):=oJ ⟨r,h⟩
theorem gr:dW.length<=sizeLine:=by decide
theorem join_one (cs:List Nat):(Txt.join (Str.ofString "") (cs.map fun c=>(⟨#[c]⟩:Str))).cps.toList=cs:=by
 have e0:(Str.ofString "").cps=#[]:=by decide
 show (Builtin.Str.glued (Str.ofString "") _).cps.toList=cs
 rw [StrLaws.glued_eq_join]
 induction cs with
 | nil=>rfl
 | cons c t ih =>
  cases t with
  | nil=>rfl
  | cons d r =>
   show (((⟨#[c]⟩:Str)++Str.ofString ""++Str.join (Str.ofString "") ((d::r).map fun c=>(⟨#[c]⟩:Str))).cps).toList=_
   rw [Str.cps_append,Str.cps_append,e0,Array.toList_append,Array.toList_append,ih]
   rfl
theorem be.of_codes {x:Str}{l:List Nat} (e:x.cps.toList=l) (h1:1<=l.length) (h8:l.length<=8) (h:∀c∈l,97<=c/\c<=122):be x:=by
 have hl:x.length=l.length:=by rw [<- e];simp [Str.length]
 exact⟨by omega,by omega,by rw [e];exact h⟩
theorem jV:∀(r:List Str) (x:Str),PyProof.Rows.risingS x r=true->(x::r).Nodup->(x::r).Pairwise nlt
 | [],x,_,_=>by simp
 | y::r,x,h,hn=>by
  have h':(!PySem.Spec.ltCps y.cps.toList x.cps.toList && PyProof.Rows.risingS y r)=true:=h
  rw [Bool.and_eq_true,PyProof.Rows.ltCps_eq] at h'
  have hn':=List.nodup_cons.mp hn
  have ih:=jV r y h'.2 hn'.2
  have hxy:nlt x y:=by
   rcases lL (fun e=>hn'.1 (e ▸ List.mem_cons_self):x≠y) with z | z
   ·exact z
   ·rw [decide_eq_true z] at h'
    exact absurd h'.1 (by simp)
  refine List.pairwise_cons.mpr ⟨fun z hz=>?_,ih⟩
  rcases List.mem_cons.mp hz with rfl | hz
  ·exact hxy
  ·exact List.lt_trans hxy ((List.pairwise_cons.mp ih).1 z hz)
theorem j7 {ss:List Str} (h:PyProof.Rows.sortedS ss=true) (hn:ss.Nodup):ss.Pairwise nlt:=by
 cases ss with
 | nil=>exact .nil
 | cons x r=>exact jV r x h hn
theorem Kp.free {P:List Addr}{H H':Hp} (k:Kp P H H') (hP:∀b∈P,∃o,H' b=some o) {q:Addr} (hq:H' q=none):H q=none:=by
 cases e:H q with
 | none=>rfl
 | some o =>
  by_cases hm:q∈P
  ·obtain⟨o',e'⟩:=hP q hm
   rw [hq] at e';cases e'
  ·rw [k q o e hm] at hq;cases hq
theorem Pot.some {H:Hp}{p:Addr} (h:Pot H p):∃o,H p=some o:=let ⟨a,b,e,_⟩:=h;⟨_,e⟩
theorem Pot.keep {H H':Hp}{p:Addr} (h:Pot H p) (e:∀o,H p=Option.some o->H' p=Option.some o):Pot H' p:=let ⟨a,b,q,r⟩:=h;⟨a,b,e _ q,r⟩
theorem tup_ne {H:Hp}{a b:Addr}{xs ys:List V} (h1:H a=some (.tup xs)) (h2:H b=some (.lst ys)):a≠b:=tX h1 h2 (by intro z;cases z)
theorem sE {H H':Hp}{P:List Addr}{b:Addr}{xs:List V} (k:Kp P H H') (hP:∀c∈P,∃ys,H c=some (.lst ys)) (e:H b=some (.tup xs)):H' b=some (.tup xs) :=
 k b _ e fun hb=>by
  obtain⟨ys,e'⟩:=hP b hb
  exact tup_ne e e' rfl
theorem Pot.lst {H:Hp}{p:Addr} (h:Pot H p):∃ys,H p=Option.some (HO.lst ys):=let ⟨a,b,e,_⟩:=h;⟨_,e⟩
theorem gG {x:Str} (h:be x):PyData.strOk x=true:=by
 unfold PyData.strOk
 rw [Array.all_eq_true']
 intro c hc
 have:=h.az c (by simpa using hc)
 simp;omega
theorem qK {ss:List Str} (h:∀x∈ss,be x):PyData.canLayAll0 (ss.map PyData.str)=true/\PyData.depthAll (ss.map PyData.str)=0:=by
 induction ss with
 | nil=>exact⟨rfl,rfl⟩
 | cons x t ih =>
  have:=ih fun y hy=>h y (List.mem_cons_of_mem _ hy)
  rw [List.map_cons]
  simp only [PyData.canLayAll0,PyData.canLay0,PyData.depthAll,PyData.depth,gG (h x List.mem_cons_self),this.1,this.2]
  exact⟨rfl,rfl⟩
theorem jH {ss:List Str} (h:∀x∈ss,be x):SeqAt.shaped (.list (ss.map PyData.str))=true/\SeqAt.shaped (.tuple (ss.map PyData.str))=true:=by
 have q:=qK h
 unfold SeqAt.shaped
 simp only [PyData.canLay0,PyData.depth,q.1,q.2]
 exact⟨by decide,by decide⟩
theorem jI:∀(a b:List Str),PyData.eqvAll (a.map PyData.str) (b.map PyData.str)=decide (a=b)
 | [],[]=>by simp [PyData.eqvAll]
 | [],y::t=>by simp [PyData.eqvAll]
 | x::s,[]=>by simp [PyData.eqvAll]
 | x::s,y::t=>by
  simp only [List.map_cons,PyData.eqvAll,PyData.eqv,jI s t]
  rw [Bool.eq_iff_iff]
  simp
theorem Pot.ne_new {H:Hp}{p q:Addr} (h:Pot H p) (hq:H q=none):q≠p:=fun z=>by obtain⟨o,e⟩:=h.some;rw [<- z,hq] at e;cases e
theorem Pot.upd {H:Hp}{p q:Addr}{o:HO} (h:Pot H p) (hq:q≠p):Pot (upd H q o) p:=h.keep fun ob e=>by rw [au hq.symm];exact e
theorem Pot.new {H:Hp}{p q:Addr}{o:HO} (h:Pot H p) (hq:H q=none):Pot (L2.upd H q o) p:=h.upd (h.ne_new hq)
theorem Kp.free1 {p q:Addr}{H H1:Hp} (k:Kp [p] H H1) (hp:Pot H1 p) (hq:H1 q=none):H q=none:=k.free (fun b hb=>by
 have e:b=p:=by simpa using hb
 subst e;exact hp.some) hq
theorem Kp.tup {p b:Addr}{H H1:Hp}{xs:List V} (k:Kp [p] H H1) (hp:Pot H p) (e:H b=some (.tup xs)):H1 b=some (.tup xs):=sE k (fun c hc=>by
 have e:c=p:=by simpa using hc
 subst e;exact hp.lst) e
theorem Kp.at {p b:Addr}{H H1:Hp}{o:HO} (k:Kp [p] H H1) (hb:b≠p) (e:H b=some o):H1 b=some o:=k _ _ e (by simpa using hb)
section
variable {P:Program}{w:World}{K:PySem.W.Frag}{mg:Str->Option Value}{base:Heap}
end
theorem mM:bootBuiltins "abs"=some (.builtin "abs"):=by decide +kernel
section
variable {P:Program}{w:World}{K:PySem.W.Frag}{mg:Str->Option Value}{base:Heap}
noncomputable def mq (K:PySem.W.Frag):Sp:=fun vs H Q _=>∃(a:Addr) (ns:List Int) (k:Int),vs=[.ref a,.int k]/\SqL K H a (ns.map V.int)/\0<=k/\∀c,Q (.int c) H
theorem uB:aP ["_law_script","_law_k"] ["_law_script","_law_k"] (ao (top 43)):=⟨rfl,rfl,rfl,by decide +kernel,rfl,by decide +kernel,by decide +kernel⟩
theorem sC {f:Addr}{fd:FuncData} (F:Fun K "_law_cell" "_law_cell" (top 43) f fd) (B:Bl mg):ax P w K mg base CX0 1 f fd ["_law_script","_law_k"] (mq K):=by
 refine F.ok uB (fun vs H Q E h=>?_) (fun cdv A outer s H vs Q E hr h=>?_)
 ·obtain⟨a,ns,k,rfl,_⟩:=h
  rfl
 ·obtain⟨a,ns,k,rfl,ha,hk,q⟩:=h
  refine⟨_,ak (bq (aM gT (pv 1) (aB bD rfl B.len PySem.boot_len (ae (pv 0) ag)) (aQ _)) (av (aI (ay aF (pv 0) (pv 1) (fun _ _=>rfl)))) bc) (av (aI ai)),?_⟩
  refine⟨_,rfl,_,rfl,a,_,rfl,.inl ha,_,_,rfl,rfl,_,rfl,?_⟩
  refine aS (fun c=>?_) (fun c=>q 0)
  have c':k < ((ns.map V.int).length:Int):=of_decide_eq_true c
  rw [List.length_map] at c'
  have hl:k.toNat < ns.length:=by omega
  exact⟨_,rfl,_,rfl,aC (j:=k.toNat) (v:=.int ns[k.toNat]) (.inl ha) (by omega) (by rw [List.getElem?_map,List.getElem?_eq_getElem hl];rfl) (q _)⟩
noncomputable def mS:Sp:=fun vs H Q _=>∃c:Int,vs=[.int c]/\∀q H',ah H H'->H q=none->Pot H' q->Q (.ref q) H'
theorem uE:aP ["_law_cell_here"] ["_law_cell_here"] (ao (top 44)):=⟨rfl,rfl,rfl,by decide +kernel,rfl,by decide +kernel,by decide +kernel⟩
theorem tj {f:Addr}{fd:FuncData} (F:Fun K "_law_pot" "_law_pot" (top 44) f fd) (B:Bl mg):ax P w K mg base CX0 1 f fd ["_law_cell_here"] mS:=by
 refine F.ok uE (fun vs H Q E h=>?_) (fun cdv A outer s H vs Q E hr h=>?_)
 ·obtain⟨c,rfl,_⟩:=h
  rfl
 ·obtain⟨c,rfl,q⟩:=h
  refine⟨_,av (aI (aN (ae (aB (j4 rfl) rfl B.max mJ (ae ai (ae (aE fY (aB kc rfl B.abs mM (ae (pv 0) ag)) (aE sJ ai ai)) ag)))
    (ae (aE dG (aE eY (aB kc rfl B.abs mM (ae (pv 0) ag)) ai) ai) ag)))),?_⟩
  refine⟨_,rfl,_,rfl,_,_,rfl,rfl,⟨by decide,by decide,by decide⟩,_,_,rfl,rfl,_,_,rfl,?_⟩
  refine⟨_,rfl,_,rfl,_,_,rfl,rfl,by show (0:Int) < 2147483629;decide,_,_,rfl,rfl,by show 2<=sizeLine;decide,fun l hl=>?_⟩
  have m0:=Int.emod_nonneg (if c < 0 then -c else c) (show (2147483629:Int)≠0 by decide)
  have m1:=Int.emod_lt_of_pos (if c < 0 then -c else c) (show (0:Int) < 2147483629 by decide)
  exact q l _ (am (ah.refl _) hl) hl ⟨_,_,aj,by omega,by omega⟩
noncomputable def eG:Sp:=fun vs H Q _=>∃(p:Addr) (n:Int),vs=[.ref p,.int n]/\Pot H p/\0 < n/\n < 1000/\∀r H',0<=r->r < n->Pot H' p->Kp [p] H H'->Q (.int r) H'
theorem mX:aP ["_law_pot_here","_law_many","_law_digit"] ["_law_pot_here","_law_many"] (ao (top 45)):=⟨rfl,rfl,rfl,by decide +kernel,rfl,by decide +kernel,by decide +kernel⟩
theorem sr {f:Addr}{fd:FuncData} (F:Fun K "_law_draw" "_law_draw" (top 45) f fd) (B:Bl mg):ax P w K mg base CX0 1 f fd ["_law_pot_here","_law_many"] eG:=by
 refine F.ok mX (fun vs H Q E h=>?_) (fun cdv A outer s H vs Q E hr h=>?_)
 ·obtain⟨p,n,rfl,_⟩:=h
  rfl
 ·obtain⟨p,n,rfl,⟨a,b,hp,hb0,hb1⟩,hn,hn2,k⟩:=h
  refine⟨_,ak (bq (aM f6 (ay aF (pv 0) ai (fun _ _=>rfl)) ai (aQ _))
    (ak (dZ (aB oA rfl B.divmod qA (ae (ay aF (pv 0) ai (fun _ _=>rfl)) (ae (pv 1) ag))) (d9 rfl (n:=2) (bt (me (pv 0) ai set_list) (bt (bv (i:=2) mX.nd rfl (Or.inl rfl)) dn))))
     (av (aI (pv 2)))) bc)
   (ak (dZ (aE eY (aE dG (aE gQ (ay aF (pv 0) ai (fun _ _=>rfl)) ai) ai) ai) (me (pv 0) ai set_list))
   (av (aI (aE eY (aE lM (aE eY (aE gQ (ay aF (pv 0) ai (fun _ _=>rfl)) (ay aF (pv 0) ai (fun _ _=>rfl))) ai) ai) (pv 1))))),?_⟩
  have hS:Sq K H p [.int a,.int b]:=.inl (SqL.of hp)
  refine⟨_,rfl,aC (j:=0) hS rfl rfl ⟨_,_,rfl,rfl,_,rfl,?_⟩⟩
  refine aS (fun c=>?_) (fun c=>?_)
  ·refine⟨_,rfl,aC (j:=0) hS rfl rfl ⟨_,rfl,_,_,rfl,⟨hn,by omega⟩,fun t ht=>?_⟩⟩
   have ntp:p≠t:=aZ hp ht
   refine⟨t,_,rfl,SqT.of aj,rfl,_,_,rfl,_,rfl,p,[.int a,.int b],_,0,rfl,rfl,by rw [au ntp];exact hp,rfl,?_⟩
   refine⟨_,_,rfl,rfl,_,rfl,k _ _ (Int.emod_nonneg _ (by omega)) (Int.emod_lt_of_pos _ hn) ⟨_,_,aj,hb0,hb1⟩ (((Kp.refl _ _).new ht).inn (by simp))⟩
  ·refine⟨_,rfl,aC (j:=1) hS rfl rfl ⟨_,_,rfl,rfl,.inl ⟨by omega,by omega⟩,_,_,rfl,rfl,_,_,rfl,rfl,by show (0:Int) < 2147483647;decide,_,rfl,p,[.int a,.int b],_,1,rfl,rfl,hp,rfl,?_⟩⟩
   have m0:0<=(b * 48271 + 11) % 2147483647:=Int.emod_nonneg _ (by decide)
   have m1:(b * 48271 + 11) % 2147483647 < 2147483647:=Int.emod_lt_of_pos _ (by decide)
   have hS2:Sq K (upd H p (.lst ([V.int a,V.int b].set 1 (.int ((b * 48271 + 11) % 2147483647))))) p [.int a,.int ((b * 48271 + 11) % 2147483647)]:=.inl (SqL.of aj)
   refine⟨_,rfl,aC (j:=1) hS2 rfl rfl ⟨_,rfl,aC (j:=1) hS2 rfl rfl ⟨_,_,rfl,rfl,.inl ⟨by omega,by omega⟩,_,_,rfl,rfl,by show (0:Int) < 2147483629;decide,_,_,rfl,rfl,⟨by decide,by decide⟩,_,rfl,_,_,rfl,rfl,hn,?_⟩⟩⟩
   exact k _ _ (Int.emod_nonneg _ (by omega)) (Int.emod_lt_of_pos _ hn) ⟨_,_,aj,m0,by omega⟩ ((Kp.refl _ _).inn (by simp))
end
noncomputable def tlc (b:Nat) (pl:Bool) (j:Nat):List Nat:=if pl=true then [97 + (b + 5 * j) % 26] else [97 + (b + 7 * j) % 26,97 + j / 26]
theorem gN (b:Nat) (pl:Bool) (j:Nat):(tlc b pl j).length=if pl=true then 1 else 2:=by unfold tlc;split <;> rfl
theorem rZ (b:Nat) (pl:Bool) {j:Nat} (hj:j < 60):∀c∈tlc b pl j,97<=c/\c<=122:=by
 intro c hc
 unfold tlc at hc
 split at hc
 ·simp at hc;omega
 ·simp at hc;omega
theorem rL {b:Nat}{pl:Bool}{i j:Nat} (hi:i < 60) (hj:j < 60) (hb:pl=true->i < 26/\j < 26) (h:tlc b pl i=tlc b pl j):i=j:=by
 unfold tlc at h
 cases pl with
 | true =>
  simp at h
  have:=hb rfl
  omega
 | false =>
  simp at h
  omega
structure Drawn (b:Nat) (pl:Bool) (ns:List Str):Prop where
 at':∀j x,ns[j]?=some x->∃u:List Nat,x.cps.toList=u++tlc b pl j/\u.length<=6/\(∀c∈u,97<=c/\c<=122)/\(pl=true->u=[])
theorem Drawn.name {b:Nat}{pl:Bool}{ns:List Str} (D:Drawn b pl ns) (hz:ns.length < 60):∀x∈ns,be x:=fun x hx=>by
 obtain⟨j,hj⟩:=List.getElem?_of_mem hx
 have hjl:=(List.getElem?_eq_some_iff.mp hj).1
 obtain⟨u,e,hu,hc,_⟩:=D.at' j x hj
 have hl:=gN b pl j
 refine be.of_codes e ?_ ?_ fun c hm=>?_
 ·rw [List.length_append,hl];split <;> omega
 ·rw [List.length_append,hl];split <;> omega
 ·rcases List.mem_append.mp hm with z | z
  ·exact hc c z
  ·exact rZ b pl (by omega) c z
theorem Drawn.nodup {b:Nat}{pl:Bool}{ns:List Str} (D:Drawn b pl ns) (hz:ns.length < 60) (hb:pl=true->ns.length<=26):ns.Nodup:=by
 refine List.pairwise_iff_getElem.mpr fun i j hi hj hij e=>?_
 obtain⟨u,e1,_,_⟩:=D.at' i ns[i] (List.getElem?_eq_getElem hi)
 obtain⟨u',e2,_,_⟩:=D.at' j ns[j] (List.getElem?_eq_getElem hj)
 rw [e,e2] at e1
 have hl:(tlc b pl j).length=(tlc b pl i).length:=by rw [gN,gN]
 have q:=(List.append_inj' e1 hl).2
 have:=rL (by omega) (by omega) (fun c=>by have:=hb c;omega) q
 omega
theorem Drawn.add {b:Nat}{pl:Bool}{ns:List Str}{x:Str}{u:List Nat} (D:Drawn b pl ns) (e:x.cps.toList=u++tlc b pl ns.length) (hu:u.length<=6) (hc:∀c∈u,97<=c/\c<=122) (hp:pl=true->u=[]):Drawn b pl (ns++[x]):=by
 refine⟨fun j y hj=>?_⟩
 by_cases h:j < ns.length
 ·rw [List.getElem?_append_left h] at hj
  exact D.at' j y hj
 ·rw [List.getElem?_append_right (by omega)] at hj
  have hj0:j - ns.length=0:=by
   have:=(List.getElem?_eq_some_iff.mp hj).1
   simp at this
   omega
  rw [hj0] at hj
  have ey:x=y:=by simpa using hj
  subst ey
  have ej:j=ns.length:=by omega
  subst ej
  exact⟨u,e,hu,hc,hp⟩
theorem Drawn.far {b:Nat}{pl:Bool}{ns:List Str} (D:Drawn b pl ns) (hz:ns.length<=26):Str.ofString "nowhere"∉ns:=fun hx=>by
 obtain⟨j,hj⟩:=List.getElem?_of_mem hx
 have hjl:=(List.getElem?_eq_some_iff.mp hj).1
 obtain⟨u,e,hu,hc,hp⟩:=D.at' j _ hj
 have e0:(Str.ofString "nowhere").cps.toList=[110,111,119,104,101,114,101]:=by decide +kernel
 rw [e0] at e
 cases pl with
 | true =>
  rw [hp rfl] at e
  have:=congrArg List.length e
  rw [List.length_append,gN] at this
  simp at this
 | false =>
  have h2:=congrArg List.getLast? e
  unfold tlc at h2
  simp at h2
  omega
theorem jQ (x:Str) (c:Nat):(x++(⟨#[c]⟩:Str)).cps.toList=x.cps.toList++[c]:=by
 rw [Str.cps_append,Array.toList_append]
theorem pX {tb:TE}{σ:St}{H1:Hp}{Q:VK}{v:V} (C:Bool->Hp->Prop) (key:∀pl H2,C pl H2->Q (.bl pl) H2) (h:∀Q':VK,(∀pl H2,C pl H2->Q' (.bl pl) H2)->∃c,v=.bl c/\if c=true then tb σ H1 Q' else Q' (.bl false) H1) :
  ∃c,v=.bl c/\if c=true then tb σ H1 Q else Q (.bl false) H1:=h Q key
section
variable {P:Program}{w:World}{K:PySem.W.Frag}{mg:Str->Option Value}{base:Heap}
noncomputable def lD:Sp:=fun vs H Q _=>∃(p:Addr) (m:Nat),vs=[.ref p,.int m]/\Pot H p/\m<=40 /\
 ∀(q:Addr) (ns:List Str) (H':Hp),Pot H' p->H' q=some (.lst (ns.map V.str))->H q=none->(∀x∈ns,be x)->ns.Nodup->ns.length=m->(m<=26->Str.ofString "nowhere"∉ns)->Kp [p] H H'->Q (.ref q) H'
noncomputable abbrev N46:List Str:=["_law_pot_here","_law_many","_law_letters","_law_begin","_law_plain","_law_found","_law_k","_law_word"]
theorem e9:aP N46 ["_law_pot_here","_law_many"] (ao (top 46)):=⟨rfl,rfl,rfl,by decide +kernel,rfl,by decide +kernel,by decide +kernel⟩
theorem rh {f:Addr}{fd:FuncData} (F:Fun K "_law_names" "_law_names" (top 46) f fd) (B:Bl mg) (Ft:Fn P w K mg base 1 "_law_draw" ["_law_pot_here","_law_many"] eG):ax P w K mg base CX0 2 f fd ["_law_pot_here","_law_many"] lD:=by
 refine F.ok e9 (fun vs H Q E h=>?_) (fun cdv A outer s H vs Q E hr h=>?_)
 ·obtain⟨p,m,rfl,_⟩:=h
  rfl
 ·obtain⟨p,m,rfl,hp,hm,k⟩:=h
  refine⟨_,ak (aG (i:=2) e9.nd rfl (Or.inr rfl) bF)
   (ak (aG (i:=3) e9.nd rfl (Or.inl rfl) (aw Ft hr (ae (pv 0) (ae ai ag))))
   (ak (aG (i:=4) e9.nd rfl (Or.inl rfl) (cw (cV gT (pv 1) ai (aQ _)) (du (cV cX (aw Ft hr (ae (pv 0) (ae ai ag))) ai (aQ _)))))
   (ak (aG (i:=5) e9.nd rfl (Or.inl rfl) (aN ag))
   (ak (eS PassesOwn.never rfl (fe rfl B.range (ae (pv 1) ag)) (bv (i:=6) e9.nd rfl (Or.inl rfl))
    (av (bq (bO (pv 4))
     (av (bj (cF PySem.F.plainAttrs_list PySem.F.slot_list_append PySem.F.type_list_append dj (pv 5) (ae (ay aF (pv 2) (aE eY (aE dG (pv 3) (aE gQ ai (pv 6))) ai) (fun _ _=>rfl)) ag))))
     (ak (aG (i:=7) e9.nd rfl (Or.inl rfl) (cF PySem.F.plainAttrs_str PySem.F.slot_str_join PySem.F.type_str_join rE bF (ae (bC (N:=["_law_j","_law_letters","_law_pot_here"]) (ix:=[none,some 2,some 0]) ⟨rfl,rfl,rfl,by decide⟩ rfl
      (fe rfl B.range (ae (aw Ft hr (ae (pv 0) (ae ai ag))) ag)) (fun _ _ _ _=>bp 0 (by decide) rfl rfl) (fun _ _ _ _=>bY)
      (fun _ _ _ _=>ay (bJ K) (pv 1) (aw Ft hr (ae (pv 2) (ae ai ag))) (fun _ _=>rfl))) ag)))
     (av (bj (cF PySem.F.plainAttrs_list PySem.F.slot_list_append PySem.F.type_list_append dj (pv 5) (ae (aE ig (aE ig (pv 7) (ay aF (pv 2) (aE eY (aE dG (pv 3) (aE gQ ai (pv 6))) ai) (fun _ _=>rfl))) (ay aF (pv 2) (aE lM (pv 6) ai) (fun _ _=>rfl))) ag))))))))
   (av (aI (pv 5))))))),?_⟩
  refine⟨_,rfl,p,26,rfl,hp,by decide,by decide,fun bg H1 b0 b1 P1 K1=>?_⟩
  obtain⟨bn,rfl⟩:=Int.eq_ofNat_of_zero_le b0
  have hbn:bn < 26:=by omega
  have hah:∀(cs:List Nat),(Txt.join (Str.ofString "") (cs.map fun c=>(⟨#[c]⟩:Str))).length=cs.length:=fun cs=>by
   rw [<- congrArg List.length (join_one cs)];simp [Str.length]
  have hsum:∀l:List Nat,((l.map fun c=>(⟨#[c]⟩:Str)).map (·.length)).sum=l.length:=fun l=>by
   induction l with
   | nil=>rfl
   | cons c r ih=>simp only [List.map_cons,List.sum_cons,ih,List.length_cons];show 1 + r.length=_;omega
  refine⟨_,rfl,_,_,rfl,rfl,pX (fun pl H2=>(pl=true->m<=26)/\Pot H2 p/\Kp [p] H H2) ?_ (fun Q' key=>⟨_,rfl,aS (fun c=>⟨_,rfl,p,3,rfl,P1,by decide,by decide,fun r H2 r0 r1 P2 K2=>⟨rfl,key _ _ ⟨fun _=>by have:=of_decide_eq_true c;omega,P2,K1.trans K2⟩⟩⟩) (fun c=>key _ _ ⟨fun z=>by (cases z),P1,K1⟩)⟩)⟩
  rintro pl H2 ⟨hpl,P2,K2⟩
  refine⟨Nat.zero_le _,fun fo hfo=>?_⟩
  have fo0:=K2.free1 P2 hfo
  have nfp:=P2.ne_new hfo
  have P9:=P2.new (o:=.lst []) hfo
  have K9:=K2.new (o:=.lst []) hfo
  have F9:upd H2 fo (.lst []) fo=some (.lst ((([]:List Str)).map V.str)):=aj
  generalize upd H2 fo (.lst [])=H9 at P9 K9 F9 ⊢
  refine⟨_,rfl,_,rfl,by omega,by omega,fK (fun i σ H3=>∃(ns:List Str) (g1 g2:Option V),σ=[some (.ref p),some (.int m),some (.str dW),some (.int bn),some (.bl pl),some (.ref fo),g1,g2]/\Pot H3 p/\H3 fo=some (.lst (ns.map V.str))/\ns.length=i/\Drawn bn pl ns/\Kp [p] H H3)
   ⟨[],none,none,rfl,P9,F9,rfl,⟨fun j x hj=>by simp at hj⟩,K9⟩ ?_ ?_⟩
  ·rintro i σ H3 hi ⟨ns,g1,g2,rfl,P3,F3,hl,D,K3⟩
   have him:i < m:=by omega
   refine⟨_,rfl,pl,rfl,aS (fun c=>?_) (fun c=>?_)⟩
   ·have hidx:(((bn:Nat):Int) + 5 * (0 + (i:Int))) % 26=(((bn + 5 * i) % 26:Nat):Int):=by push_cast;rw [Int.zero_add]
    refine⟨_,rfl,.inl ⟨rfl,_,SqL.of F3⟩,_,rfl,_,rfl,_,rfl,_,_,rfl,rfl,.inl ⟨by decide,by decide⟩,_,_,rfl,rfl,_,_,rfl,rfl,by show (0:Int) < 26;decide,?_⟩
    refine .inr (.inr ⟨dW,_,97 + (bn + 5 * i) % 26,rfl,rfl,gr,ft (j:=(bn + 5 * i) % 26) hidx (gs (Nat.mod_lt _ (by decide))),?_⟩)
    refine⟨fo,ns.map V.str,_,rfl,rfl,F3,by rw [List.length_map];exact fits (by omega),?_⟩
    refine⟨ns++[(⟨#[97 + (bn + 5 * i) % 26]⟩:Str)],_,_,rfl,P3.upd nfp,by rw [aj,List.map_append];rfl,by simp [hl],?_,fun b o e nb=>by rw [au (aZ e fo0)];exact K3 b o e nb⟩
    refine D.add (u:=[]) ?_ (by simp) (by simp) (fun _=>rfl)
    rw [hl]
    unfold tlc
    rw [if_pos c]
    rfl
   ·have hidx:(((bn:Nat):Int) + 7 * (0 + (i:Int))) % 26=(((bn + 7 * i) % 26:Nat):Int):=by push_cast;rw [Int.zero_add]
    have hidx2:(0 + (i:Int)) / 26=((i / 26:Nat):Int):=by push_cast;rw [Int.zero_add]
    refine⟨rfl,_,rfl,p,7,rfl,P3,by decide,by decide,fun r7 H4 a0 a1 P4 K4=>⟨_,rfl,by omega,by omega,?_⟩⟩
    have K34:=K3.trans K4
    refine ij (fits (by omega)) (fun j ys σ H5=>(∃cs:List Nat,cs.length=j/\(∀c∈cs,97<=c/\c<=122)/\ys=cs.map fun c=>V.str ⟨#[c]⟩)/\Pot H5 p/\Kp [p] H3 H5/\∃x,σ=[x,some (.str dW),some (.ref p)])
     ⟨⟨[],rfl,by simp,rfl⟩,P4,K4,_,rfl⟩ (fun j ys σ H5 _ q=>by obtain⟨⟨cs,rfl,_,rfl⟩,_⟩:=q;simp) ?_ ?_
    ·rintro j ys σ H5 hj ⟨⟨cs,rfl,hcs,rfl⟩,P5,K5,v,rfl⟩
     refine⟨_,rfl,_,rfl,p,26,rfl,P5,by decide,by decide,fun r H6 r0 r1 P6 K6=>.inr (.inr ⟨dW,r,97 + r.toNat,rfl,rfl,gr,ft (j:=r.toNat) (by omega) (gs (by omega)),⟨cs++[97 + r.toNat],by simp,fun c hc=>?_,by simp⟩,P6,K5.trans K6,_,rfl⟩)⟩
     rcases List.mem_append.mp hc with z | z
     ·exact hcs c z
     ·simp at z
      omega
    rintro ys σ H5 ⟨⟨cs,hlen,hcs,rfl⟩,P5,K5,v,rfl⟩ q hq
    have hx:(Txt.join (Str.ofString "") (cs.map fun c=>(⟨#[c]⟩:Str))).cps.toList=cs:=join_one cs
    have hmap:(cs.map fun c=>V.str ⟨#[c]⟩)=(cs.map fun c=>(⟨#[c]⟩:Str)).map V.str:=by rw [List.map_map];rfl
    have hal:=hah cs
    have hc6:cs.length<=6:=by omega
    refine⟨Str.ofString "",q,cs.map fun c=>(⟨#[c]⟩:Str),rfl,rfl,SqL.of (by rw [aj,hmap]),?_,?_⟩
    ·have e0:(Str.ofString "").length=0:=by decide
     rw [hsum,e0]
     omega
    generalize Txt.join (Str.ofString "") (cs.map fun c=>(⟨#[c]⟩:Str))=wd at hx hal ⊢
    have P6:=P5.new (o:=.lst (cs.map fun c=>V.str ⟨#[c]⟩)) hq
    have K6:=(K5.new (o:=.lst (cs.map fun c=>V.str ⟨#[c]⟩)) hq)
    generalize upd H5 q (.lst (cs.map fun c=>V.str ⟨#[c]⟩))=H6 at P6 K6 ⊢
    have F6:=K6.at nfp F3
    refine⟨_,rfl,.inl ⟨rfl,_,SqL.of F6⟩,_,rfl,_,rfl,_,rfl,_,rfl,_,_,rfl,rfl,.inl ⟨by decide,by decide⟩,_,_,rfl,rfl,_,_,rfl,rfl,by show (0:Int) < 26;decide,?_⟩
    refine .inr (.inr ⟨dW,_,97 + (bn + 7 * i) % 26,rfl,rfl,gr,ft (j:=(bn + 7 * i) % 26) hidx (gs (Nat.mod_lt _ (by decide))),_,_,rfl,rfl,by rw [sizeLine_eq];show wd.length + 1<=_;omega,?_⟩)
    have hlen1:(wd++(⟨#[97 + (bn + 7 * i) % 26]⟩:Str)).length=wd.length + 1:=by rw [Str.length_append];rfl
    refine⟨_,rfl,_,rfl,_,_,rfl,rfl,⟨by decide,by decide⟩,?_⟩
    refine .inr (.inr ⟨dW,_,97 + i / 26,rfl,rfl,gr,ft (j:=i / 26) hidx2 (gs (by omega)),_,_,rfl,rfl,by rw [hlen1,sizeLine_eq];show wd.length + 1 + 1<=_;omega,?_⟩)
    refine⟨fo,ns.map V.str,_,rfl,rfl,F6,by rw [List.length_map];exact fits (by omega),?_⟩
    refine⟨ns++[wd++(⟨#[97 + (bn + 7 * i) % 26]⟩:Str)++(⟨#[97 + i / 26]⟩:Str)],_,_,rfl,P6.upd nfp,by rw [aj,List.map_append];rfl,by simp [hl],?_,fun b o e nb=>by rw [au (aZ e fo0)];exact (K3.trans K6) b o e nb⟩
    refine D.add (u:=cs) ?_ hc6 hcs (fun z=>absurd z c)
    rw [jQ,jQ,hx,hl]
    unfold tlc
    rw [if_neg c]
    simp
  ·rintro σ H3 ⟨ns,g1,g2,rfl,P3,F3,hl,D,K3⟩
   have hl':ns.length=m:=by omega
   exact⟨_,rfl,k fo ns H3 P3 F3 fo0 (D.name (by omega)) (D.nodup (by omega) (fun c=>by have:=hpl c;omega)) hl' (fun z=>D.far (by omega)) K3⟩
end
theorem jK {α:Type}:∀{l:List α}{i:Nat} (hi:i < l.length),l.Nodup->l[i]∉l.eraseIdx i
 | x::r,0,_,h=>by simpa using (List.nodup_cons.mp h).1
 | x::r,i + 1,hi,h=>by
  have h':=List.nodup_cons.mp h
  have hi':i < r.length:=by simpa using hi
  rw [List.eraseIdx_cons_succ,List.getElem_cons_succ]
  intro q
  rcases List.mem_cons.mp q with e | e
  ·exact h'.1 (e ▸ List.getElem_mem hi')
  ·exact jK hi' h'.2 e
theorem j9 {α β:Type} (f:α->β):∀(l:List α) (i:Nat),(l.map f).eraseIdx i=(l.eraseIdx i).map f
 | [],i=>by simp
 | x::r,0=>rfl
 | x::r,i + 1=>by simp [j9 f r i]
noncomputable abbrev Le:=Addr×Str×Str
noncomputable abbrev bL (les:List Le):List V:=les.map fun x=>V.ref x.1
structure cj (H:Hp) (fo:Addr) (les:List Le):Prop where
 l:H fo=some (.lst (bL les))
 e:∀x∈les,H x.1=some (.tup [.str x.2.1,.str x.2.2])
noncomputable def LeP (ps:List Str) (les:List Le):Prop:=∀x∈les,x.2.1∈ps/\x.2.2∈ps/\x.2.1≠x.2.2
theorem cj.same {H H':Hp}{fo:Addr}{les:List Le} (h:cj H fo les) (s:ah H H'):cj H' fo les:=⟨s _ _ h.l,fun x hx=>s _ _ (h.e x hx)⟩
theorem cj.kp {H H':Hp}{p fo:Addr}{les:List Le} (h:cj H fo les) (hp:Pot H p) (n:fo≠p) (k:Kp [p] H H'):cj H' fo les:=⟨k.at n h.l,fun x hx=>k.tup hp (h.e x hx)⟩
section
variable {P:Program}{w:World}{K:PySem.W.Frag}{mg:Str->Option Value}{base:Heap}
noncomputable def mh:Sp:=fun vs H Q _=>∃(p pl:Addr) (root:Str) (ps:List Str),vs=[.ref p,.ref pl,.str root]/\Pot H p/\H pl=some (.lst (ps.map V.str))/\root∈ps/\ps.Nodup/\(∀x∈ps,be x)/\ps.length<=8 /\
 ∀(q:Addr) (les:List Le) (H':Hp),Pot H' p->cj H' q les->LeP ps les->les.length<=7->H q=none->Kp [p] H H'->Q (.ref q) H'
noncomputable abbrev N47:List Str:=["_law_pot_here","_law_places","_law_root","_law_come","_law_left","_law_found","_law_place"]
theorem gm:aP N47 ["_law_pot_here","_law_places","_law_root"] (ao (top 47)):=⟨rfl,rfl,rfl,by decide +kernel,rfl,by decide +kernel,by decide +kernel⟩
theorem sv {f:Addr}{fd:FuncData} (F:Fun K "_law_tree_ends" "_law_tree_ends" (top 47) f fd) (B:Bl mg) (Ft:Fn P w K mg base 1 "_law_draw" ["_law_pot_here","_law_many"] eG):ax P w K mg base CX0 2 f fd ["_law_pot_here","_law_places","_law_root"] mh:=by
 refine F.ok gm (fun vs H Q E h=>?_) (fun cdv A outer s H vs Q E hr h=>?_)
 ·obtain⟨p,pl,root,ps,rfl,_⟩:=h
  rfl
 ·obtain⟨p,pl,root,ps,rfl,hp,hpl,hroot,pnd,pnm,p8,k⟩:=h
  refine⟨_,ak (aG (i:=3) gm.nd rfl (Or.inl rfl) (aN (ae (pv 2) ag)))
   (ak (gB (i:=4) (N:=["_law_place","_law_root"]) (ix:=[none,some 2]) gm.nd rfl (Or.inl rfl) ⟨rfl,rfl,rfl,by decide⟩ rfl (dE (pv 1)) (fun _ _ _ _=>bp 0 (by decide) rfl rfl) (fun _ _ _ _=>dq (aM dI (pv 0) (pv 1) (aQ _))) (fun _ _ _ _=>pv 0))
   (ak (aG (i:=5) gm.nd rfl (Or.inl rfl) (aN ag))
   (ak (fh PassesOwn.never (aM (eW hr) (pv 4) (aN ag) (aQ _))
    (ak (aG (i:=6) gm.nd rfl (Or.inl rfl) (cF PySem.F.plainAttrs_list PySem.F.slot_list_pop PySem.F.type_list_pop qy (pv 4) (ae (aw Ft hr (ae (pv 0) (ae (aB bD rfl B.len PySem.boot_len (ae (pv 4) ag)) ag))) ag)))
    (ak (bj (cF PySem.F.plainAttrs_list PySem.F.slot_list_append PySem.F.type_list_append dj (pv 5) (ae (aH (ae (ay aF (pv 3) (aw Ft hr (ae (pv 0) (ae (aB bD rfl B.len PySem.boot_len (ae (pv 3) ag)) ag))) (fun _ _=>rfl)) (ae (pv 6) ag))) ag)))
    (av (bj (cF PySem.F.plainAttrs_list PySem.F.slot_list_append PySem.F.type_list_append dj (pv 3) (ae (pv 6) ag)))))))
   (av (aI (pv 5)))))),?_⟩
  refine⟨_,rfl,by show 1<=sizeLine;decide,fun d hd=>?_⟩
  have ndp:=hp.ne_new hd
  have p1:=hp.new (o:=.lst [.str root]) hd
  have K1:=(Kp.refl [p] H).new (o:=.lst [.str root]) hd
  have d1:upd H d (.lst [.str root]) d=some (.lst ([root].map V.str)):=aj
  have pl1:upd H d (.lst [.str root]) pl=some (.lst (ps.map V.str)):=by rw [au (aZ hpl hd)];exact hpl
  generalize upd H d (.lst [.str root])=H1 at p1 K1 d1 pl1 ⊢
  refine⟨_,rfl,pl,rfl,⟨_,SqL.of pl1⟩,gv (xs:=ps.map V.str) (fits (by simp;omega)) (fun i ys σ H2=>ys=((ps.take i).filter fun y=>!decide (y=root)).map V.str/\H2=H1/\∃v,σ=[v,some (.str root)]) ⟨rfl,rfl,_,rfl⟩
   (fun i ys σ H2 _ q=>⟨by rw [q.1,List.length_map];exact Nat.le_trans (List.length_filter_le _ _) (by simp;omega),by rw [q.2.1];exact SqL.of pl1⟩) ?_ ?_⟩
  ·rintro i y ys σ H2 hy ⟨rfl,rfl,v,rfl⟩
   rw [List.getElem?_map] at hy
   cases hc:ps[i]? with
   | none=>rw [hc] at hy;cases hy
   | some z =>
    rw [hc] at hy
    cases hy
    have tf:=ic (fun z:Str=>!decide (z=root)) ps i z hc
    refine⟨_,rfl,_,rfl,rfl,_,rfl,?_⟩
    have e:(!decide (V.str z=V.str root))=!decide (z=root):=by simp
    rw [e]
    refine aS (fun c=>⟨_,rfl,?_,rfl,_,rfl⟩) (fun c=>⟨?_,rfl,_,rfl⟩)
    ·rw [tf,c];simp
    ·rw [tf];simp only [Bool.not_eq_true] at c;rw [c];simp
  rintro ys σ H2 ⟨rfl,rfl,v,rfl⟩ l hl
  rw [take_all ps (by simp)]
  have nlp:=p1.ne_new hl
  have nld:l≠d:=(aZ d1 hl).symm
  have hl0:=K1.free1 p1 hl
  have hfm:∀x∈ps.filter (fun y=>!decide (y=root)),x∈ps/\x∉[root]:=fun x hx=>by
   obtain⟨a,b⟩:=List.mem_filter.mp hx
   exact⟨a,by simpa using b⟩
  have hfn:(ps.filter fun y=>!decide (y=root)).Nodup:=pnd.filter _
  have hfl:(ps.filter fun y=>!decide (y=root)).length + 1<=ps.length:=by
   have q:(ps.filter fun y=>!decide (y=root)).length < ps.length:=by
    refine List.length_filter_lt_length_iff_exists.mpr ⟨root,hroot,by simp⟩
   omega
  generalize ps.filter (fun y=>!decide (y=root))=ls0 at hfl hfm hfn ⊢
  have p2:=p1.new (o:=.lst (ls0.map V.str)) hl
  have K2:=K1.new (o:=.lst (ls0.map V.str)) hl
  have d2:upd H2 l (.lst (ls0.map V.str)) d=some (.lst ([root].map V.str)):=by rw [au nld.symm];exact d1
  have l2:upd H2 l (.lst (ls0.map V.str)) l=some (.lst (ls0.map V.str)):=aj
  generalize upd H2 l (.lst (ls0.map V.str))=H3 at p2 K2 d2 l2 ⊢
  refine⟨Nat.zero_le _,fun fo hfo=>?_⟩
  have nfp:=p2.ne_new hfo
  have nfd:fo≠d:=(aZ d2 hfo).symm
  have nfl:fo≠l:=(aZ l2 hfo).symm
  have hfo0:=K2.free1 p2 hfo
  refine⟨fun m σ H4=>∃(ds ls:List Str) (les:List Le) (g:Option V),σ=[some (.ref p),some (.ref pl),some (.str root),some (.ref d),some (.ref l),some (.ref fo),g]/\ls.length=m/\Pot H4 p/\Kp [p] H H4/\H4 d=some (.lst (ds.map V.str))/\H4 l=some (.lst (ls.map V.str))/\cj H4 fo les/\LeP ps les/\les.length + ls.length<=7/\ds.length=les.length + 1/\(∀x∈ds,x∈ps)/\(∀x∈ls,x∈ps/\x∉ds)/\ls.Nodup,
   ⟨_,[root],ls0,[],none,rfl,rfl,p2.new hfo,K2.new hfo,by rw [au nfd.symm];exact d2,by rw [au nfl.symm];exact l2,⟨aj,by simp⟩,(by intro x hx;simp at hx),by simp;omega,rfl,by simpa using hroot,hfm,hfn⟩,?_⟩
  rintro m σ H4 ⟨ds,ls,les,g,rfl,rfl,P4,K4,D4,L4,A4,hle,hn,hds,hd1,hl1,hln⟩
  refine⟨_,rfl,Nat.zero_le _,fun e he=>?_⟩
  have u4:=am (o:=.lst []) (ah.refl H4) he
  have e1:upd H4 e (.lst []) e=some (.lst []):=aj
  have P5:=P4.new (o:=.lst []) he
  have K5:=K4.new (o:=.lst []) he
  generalize upd H4 e (.lst [])=H5 at u4 e1 P5 K5 ⊢
  have L5:=u4 _ _ L4
  have D5:=u4 _ _ D4
  have A5:=A4.same u4
  refine⟨.list (ls.map PyData.str),.list [],.lst L5 (DVs.strs ls),.lst e1 .nil,(jH fun x hx=>pnm x (hl1 x hx).1).1,(jH (ss:=[]) (by simp)).1,_,rfl,?_⟩
  have ev:PyData.eqv (.list (ls.map PyData.str)) (.list [])=decide (ls=[]):=jI ls []
  rw [ev]
  refine aS (fun c=>?_) (fun c=>?_)
  ·have hne:ls≠[]:=by simpa using c
   have hlp:0 < ls.length:=by cases ls with | nil=>exact absurd rfl hne | cons _ _=>simp
   refine⟨fun σ' H'=>∃m',m' < ls.length/\∃(ds ls:List Str) (les:List Le) (g:Option V),σ'=[some (.ref p),some (.ref pl),some (.str root),some (.ref d),some (.ref l),some (.ref fo),g]/\ls.length=m'/\Pot H' p/\Kp [p] H H'/\H' d=some (.lst (ds.map V.str))/\H' l=some (.lst (ls.map V.str))/\cj H' fo les/\LeP ps les/\les.length + ls.length<=7/\ds.length=les.length + 1/\(∀x∈ds,x∈ps)/\(∀x∈ls,x∈ps/\x∉ds)/\ls.Nodup,fun σ' H' q=>q,?_⟩
   refine⟨_,rfl,.inl ⟨rfl,_,SqL.of L5⟩,_,rfl,_,rfl,l,_,rfl,.inl (SqL.of L5),p,_,rfl,P5,by rw [List.length_map];omega,by rw [List.length_map];omega,fun i H6 i0 i1 P6 K6=>?_⟩
   rw [List.length_map] at i1
   have L6:=K6.at nlp L5
   have D6:=K6.at ndp D5
   have A6:=A5.kp P5 nfp K6
   have K06:=K5.trans K6
   have hil:i.toNat < ls.length:=by omega
   refine⟨l,ls.map V.str,i,i.toNat,.str ls[i.toNat],rfl,rfl,L6,by omega,by omega,seqIndex_of i0 (by rw [List.length_map];omega),strAt hil,?_⟩
   have hze:=hl1 _ (List.getElem_mem hil)
   have herl:(ls.eraseIdx i.toNat).length + 1=ls.length:=by rw [List.length_eraseIdx,if_pos hil];omega
   have hsub:∀x∈ls.eraseIdx i.toNat,x∈ls:=fun x hx=>List.mem_of_mem_eraseIdx hx
   have hnz:ls[i.toNat]∉ls.eraseIdx i.toNat:=jK hil hln
   have hnd':(ls.eraseIdx i.toNat).Nodup:=hln.sublist (List.eraseIdx_sublist _ _)
   have em:(ls.map V.str).eraseIdx i.toNat=(ls.eraseIdx i.toNat).map V.str:=j9 _ _ _
   rw [em]
   generalize ls[i.toNat]=z at hze hnz ⊢
   generalize ls.eraseIdx i.toNat=ls' at herl hsub hnz hnd' ⊢
   have P7:=P6.upd (o:=.lst (ls'.map V.str)) nlp
   have K7:Kp [p] H (upd H6 l (.lst (ls'.map V.str))):=fun b o q nb=>by rw [au (aZ q hl0)];exact K06 b o q nb
   have L7:upd H6 l (.lst (ls'.map V.str)) l=some (.lst (ls'.map V.str)):=aj
   have D7:upd H6 l (.lst (ls'.map V.str)) d=some (.lst (ds.map V.str)):=by rw [au nld.symm];exact D6
   have A7:cj (upd H6 l (.lst (ls'.map V.str))) fo les:=⟨by rw [au nfl];exact A6.l,fun x hx=>by rw [au (tup_ne (A6.e x hx) L6)];exact A6.e x hx⟩
   generalize upd H6 l (.lst (ls'.map V.str))=H7 at P7 K7 L7 D7 A7 ⊢
   refine⟨_,rfl,.inl ⟨rfl,_,SqL.of A7.l⟩,_,rfl,_,rfl,_,rfl,d,_,rfl,.inl (SqL.of D7),p,_,rfl,P7,by rw [List.length_map];omega,by rw [List.length_map];omega,fun j H9 j0 j1 P9 K9=>?_⟩
   rw [List.length_map] at j1
   have hjl:j.toNat < ds.length:=by omega
   have D9:=K9.at ndp D7
   have L9:=K9.at nlp L7
   have A9:=A7.kp P7 nfp K9
   have K09:=K7.trans K9
   refine aC (j:=j.toNat) (.inl (SqL.of D9)) (by omega) (strAt hjl) ⟨_,rfl,by show 2<=sizeLine;decide,fun n hn=>?_⟩
   have ham:ds[j.toNat]∈ds:=List.getElem_mem hjl
   generalize ds[j.toNat]=a at ham ⊢
   have u9:=am (o:=.tup [.str a,.str z]) (ah.refl H9) hn
   have n9:upd H9 n (.tup [.str a,.str z]) n=some (.tup [.str a,.str z]):=aj
   have P10:=P9.new (o:=.tup [.str a,.str z]) hn
   have K10:=K09.new (o:=.tup [.str a,.str z]) hn
   generalize upd H9 n (.tup [.str a,.str z])=H10 at u9 n9 P10 K10 ⊢
   have A10:=A9.same u9
   have D10:=u9 _ _ D9
   have L10:=u9 _ _ L9
   refine⟨fo,bL les,.ref n,rfl,rfl,A10.l,fits (by rw [List.length_map];omega),?_⟩
   have P11:=P10.upd (o:=.lst (bL les++[.ref n])) nfp
   have K11:Kp [p] H (upd H10 fo (.lst (bL les++[.ref n]))):=fun b o q nb=>by rw [au (aZ q hfo0)];exact K10 b o q nb
   have A11:cj (upd H10 fo (.lst (bL les++[.ref n]))) fo (les++[(n,a,z)]):=⟨by rw [aj];simp [bL],fun x hx=>by
    rcases List.mem_append.mp hx with q | q
    ·rw [au (tup_ne (A10.e x q) A10.l)];exact A10.e x q
    ·have e:x=(n,a,z):=(by simpa using q)
     subst e
     show upd H10 fo _ n=_
     rw [au (tup_ne n9 A10.l)];exact n9⟩
   have D11:upd H10 fo (.lst (bL les++[.ref n])) d=some (.lst (ds.map V.str)):=by rw [au nfd.symm];exact D10
   have L11:upd H10 fo (.lst (bL les++[.ref n])) l=some (.lst (ls'.map V.str)):=by rw [au nfl.symm];exact L10
   generalize upd H10 fo (.lst (bL les++[.ref n]))=H11 at P11 K11 A11 D11 L11 ⊢
   refine⟨_,rfl,.inl ⟨rfl,_,SqL.of D11⟩,_,rfl,d,ds.map V.str,.str z,rfl,rfl,D11,fits (by simp;omega),?_⟩
   refine⟨ls'.length,by omega,ds++[z],ls',les++[(n,a,z)],_,rfl,rfl,P11.upd ndp,fun b o q nb=>by rw [au (aZ q hd)];exact K11 b o q nb,by rw [aj,List.map_append];rfl,by rw [au nld];exact L11,⟨by rw [au nfd];exact A11.l,fun x hx=>by rw [au (tup_ne (A11.e x hx) D11)];exact A11.e x hx⟩,?_,by simp;omega,by simp;omega,?_,?_,hnd'⟩
   ·intro x hx
    rcases List.mem_append.mp hx with q | q
    ·exact hle x q
    ·have e:x=(n,a,z):=by simpa using q
     subst e;exact⟨hd1 a ham,hze.1,fun q=>hze.2 ((show a=z from q) ▸ ham)⟩
   ·intro y hy
    rcases List.mem_append.mp hy with q | q
    ·exact hd1 y q
    ·have e:y=z:=by simpa using q
     subst e;exact hze.1
   ·intro y hy
    have q:=hl1 y (hsub y hy)
    refine⟨q.1,fun hm=>?_⟩
    rcases List.mem_append.mp hm with w' | w'
    ·exact q.2 w'
    ·have e:y=z:=by simpa using w'
     subst e;exact hnz hy
  ·exact⟨_,rfl,k fo les H5 P5 A5 hle (by omega) hfo0 K5⟩
end
theorem sW {les:List Le}{i:Nat}{x:V} (h:(bL les)[i]?=some x):∃r,les[i]?=some r/\x=.ref r.1:=by
 unfold bL at h
 rw [List.getElem?_map] at h
 cases e:les[i]? with
 | none=>rw [e] at h;cases h
 | some r=>rw [e] at h;exact⟨r,rfl,(Option.some.inj h).symm⟩
theorem Kp.upd0 {P:List Addr}{H H1:Hp}{q:Addr}{o:HO} (a:Kp P H H1) (hq:H q=none):Kp P H (upd H1 q o):=fun c ob h n=>by rw [au (aZ h hq)];exact a c ob h n
theorem qD {K:PySem.W.Frag}{g:TG}{te:TE}{σ':St}{fin:List V->Hp->Prop}{H1:Hp}{a b:Addr}{xs ys:List V} (hn:min xs.length ys.length < sizeLine) (Pv:Nat->List V->St->Hp->Prop) (h0:Pv 0 [] σ' H1)
  (hl:∀i zs σ H,i<=min xs.length ys.length->Pv i zs σ H->zs.length<=i/\SqL K H a xs/\SqL K H b ys)
  (hs:∀i x y zs σ H T,xs[i]?=some x->ys[i]?=some y->Pv i zs σ H->H T=none->g (.ref T) σ (upd H T (.tup [x,y])) fun σ2 H2=>te σ2 H2 (fun v H4=>Pv (i + 1) (zs++[v]) σ2 H4))
  (hd:∀zs σ H,Pv (min xs.length ys.length) zs σ H->fin zs H):LcW (Itz K a b) g dB te σ' fin H1 :=
 rR hn Pv h0 hl (fun i x y zs σ H T e1 e2 p hT=>by simpa [dB] using hs i x y zs σ H T e1 e2 p hT) hd
theorem gf {c:TT}{x y b:TS}{D:Ends}{σ:St}{H:Hp} (M:St->Hp->Prop) (h:∀N:St->Hp->Prop,(∀σ H,M σ H->N σ H)->jr c x y { D with nx:=N } σ H) (k:∀σ H,M σ H->b D σ H):fB (jr c x y) b D σ H:=h (b D) k
section
variable {P:Program}{w:World}{K:PySem.W.Frag}{mg:Str->Option Value}{base:Heap}
noncomputable def mj:Sp:=fun vs H Q _=>∃(p:Addr) (most:Int),vs=[.ref p,.int most]/\Pot H p/\most<=30 /\
 ∀(v u pa ra:Addr) (root:Str) (ps:List Str) (rs:List (Addr×Row)) (H':Hp),Pot H' p->H' v=some (.tup [.ref u,.str root])->br H' u pa ra ps rs->Good ps (rs.map (·.2))->ps.length<=8->rs.length<=30->root∈ps->Str.ofString "nowhere"∉ps->Kp [p] H H'->Q (.ref v) H'
noncomputable abbrev N48:List Str:=["_law_pot_here","_law_most","_law_many","_law_places","_law_root","_law_leads","_law_k","_law_a","_law_ties"]
theorem eg:aP N48 ["_law_pot_here","_law_most"] (ao (top 48)):=⟨rfl,rfl,rfl,by decide +kernel,rfl,by decide +kernel,by decide +kernel⟩
theorem sT {f:Addr}{fd:FuncData} (F:Fun K "_law_web" "_law_web" (top 48) f fd) (B:Bl mg) (Ft:Fn P w K mg base 1 "_law_draw" ["_law_pot_here","_law_many"] eG) (Fn':Fn P w K mg base 2 "_law_names" ["_law_pot_here","_law_many"] lD)
  (Fe:Fn P w K mg base 2 "_law_tree_ends" ["_law_pot_here","_law_places","_law_root"] mh):ax P w K mg base CX0 3 f fd ["_law_pot_here","_law_most"] mj:=by
 refine F.ok eg (fun vs H Q E h=>?_) (fun cdv A outer s H vs Q E hr h=>?_)
 ·obtain⟨p,most,rfl,_⟩:=h
  rfl
 ·obtain⟨p,most,rfl,hp,hmost,k⟩:=h
  have hr1:aK 1 _:=hr.mono (by decide)
  refine⟨_,ak (aG (i:=2) eg.nd rfl (Or.inl rfl) (aE dG ai (aw Ft hr1 (ae (pv 0) (ae (ay aF (aN (ae ai (ae ai (ae ai (ae ai ag))))) (aw Ft hr1 (ae (pv 0) (ae ai ag))) (fun _ _=>rfl)) ag)))))
   (ak (aG (i:=3) eg.nd rfl (Or.inl rfl) (aB ie rfl B.sorted gF (ae (aw Fn' hr (ae (pv 0) (ae (pv 2) ag))) ag)))
   (ak (aG (i:=4) eg.nd rfl (Or.inl rfl) (ay aF (pv 3) (aw Ft hr1 (ae (pv 0) (ae (pv 2) ag))) (fun _ _=>rfl)))
   (ak (aG (i:=5) eg.nd rfl (Or.inl rfl) (aN ag))
   (ak (bq (aM cX (aw Ft hr1 (ae (pv 0) (ae ai ag))) ai (aQ _))
    (av (eS PassesOwn.never rfl (fe rfl B.range (ae (aE dG ai (aw Ft hr1 (ae (pv 0) (ae ai ag)))) ag)) (bv (i:=6) eg.nd rfl (Or.inl rfl))
     (av (bj (cF PySem.F.plainAttrs_list PySem.F.slot_list_extend PySem.F.type_list_extend pQ (pv 5) (ae (aw Fe hr (ae (pv 0) (ae (pv 3) (ae (pv 4) ag)))) ag)))))) bc)
   (ak (bq (aM f6 (pv 2) ai (aQ _))
    (av (eS PassesOwn.never rfl (fe rfl B.range (ae (aw Ft hr1 (ae (pv 0) (ae (aE dG (aB (j4 rfl) rfl B.max mJ (ae ai (ae (aE fY (pv 1) (aB bD rfl B.len PySem.boot_len (ae (pv 5) ag))) ag))) ai) ag))) ag)) (bv (i:=6) eg.nd rfl (Or.inl rfl))
     (ak (aG (i:=7) eg.nd rfl (Or.inl rfl) (aw Ft hr1 (ae (pv 0) (ae (pv 2) ag))))
     (av (bj (cF PySem.F.plainAttrs_list PySem.F.slot_list_append PySem.F.type_list_append dj (pv 5) (ae (aH (ae (ay aF (pv 3) (pv 7) (fun _ _=>rfl))
      (ae (ay aF (pv 3) (aE eY (aE dG (aE dG (pv 7) ai) (aw Ft hr1 (ae (pv 0) (ae (aE fY (pv 2) ai) ag)))) (pv 2)) (fun _ _=>rfl)) ag))) ag))))))) bc)
   (ak (gB (i:=8) (N:=["_law_tie","_law_a","_law_b"]) (ix:=[none,none,none]) eg.nd rfl (Or.inl rfl) ⟨rfl,rfl,rfl,by decide⟩ rfl (sZ rfl B.zip (ae (aw Fn' hr (ae (pv 0) (ae (aB bD rfl B.len PySem.boot_len (ae (pv 5) ag)) ag))) (ae (pv 5) ag)))
    (fun _ _ _ _=>iT K rfl (n:=2) (bt (bp 0 (by decide) rfl rfl) (bt (iT K rfl (n:=2) (bt (bp 1 (by decide) rfl rfl) (bt (bp 2 (by decide) rfl rfl) dn))) dn))) (fun _ _ _ _=>bY)
    (fun _ _ _ _=>aH (ae (pv 0) (ae (pv 1) (ae (pv 2) ag)))))
   (av (aI (aH (ae (aH (ae (eC fG rfl B.tuple cI (ae (pv 3) ag)) (ae (eC fG rfl B.tuple cI (ae (aB oi rfl B.sorted gF (ae (pv 8) ag)) ag)) ag))) (ae (pv 4) ag))))))))))),?_⟩
  refine⟨_,rfl,by show 4<=sizeLine;decide,fun l2 hl2=>?_⟩
  have nl2:=hp.ne_new hl2
  have P1:=hp.new (o:=.lst [.int 4,.int 6,.int 6,.int 8]) hl2
  have K1:=(Kp.refl [p] H).new (o:=.lst [.int 4,.int 6,.int 6,.int 8]) hl2
  have L1:upd H l2 (.lst [.int 4,.int 6,.int 6,.int 8]) l2=some (.lst [.int 4,.int 6,.int 6,.int 8]):=aj
  generalize upd H l2 (.lst [.int 4,.int 6,.int 6,.int 8])=H1 at P1 K1 L1 ⊢
  refine⟨_,rfl,p,4,rfl,P1,by decide,by decide,fun r1 H2 a0 a1 P2 K2'=>?_⟩
  have K2:=K1.trans K2'
  have L2':=K2'.at nl2 L1
  have hn:∃m:Nat,([V.int 4,V.int 6,V.int 6,V.int 8]:List V)[r1.toNat]?=some (.int m)/\1<=m/\m<=8:=by
   have:r1.toNat=0\/r1.toNat=1\/r1.toNat=2\/r1.toNat=3:=by omega
   rcases this with e | e | e | e <;> rw [e]
   ·exact⟨4,rfl,by decide,by decide⟩
   ·exact⟨6,rfl,by decide,by decide⟩
   ·exact⟨6,rfl,by decide,by decide⟩
   ·exact⟨8,rfl,by decide,by decide⟩
  obtain⟨m0,hm0,m01,m08⟩:=hn
  refine aC (j:=r1.toNat) (.inl (SqL.of L2')) (by omega) hm0 ⟨p,m0,rfl,P2,by omega,by omega,fun r2 H3 b0 b1 P3 K3'=>⟨_,_,rfl,rfl,?_⟩⟩
  have K3:=K2.trans K3'
  obtain⟨m,hm⟩:∃m:Nat,(1:Int) + r2=m:=⟨(1 + r2).toNat,by omega⟩
  have m1:1<=m:=by omega
  have m8:m<=8:=by omega
  dsimp only;rw [hm]
  refine⟨_,rfl,_,rfl,p,m,rfl,P3,by omega,fun pl0 ns H4 P4 n4 _ nnm nnd nlen nfar K4'=>?_⟩
  have K4:=K3.trans K4'
  refine⟨pl0,ns,rfl,SqL.of n4,by omega,fun ps pl hpm hso hpl=>?_⟩
  have pnd:ps.Nodup:=hpm.nodup_iff.mpr nnd
  have plen:ps.length=m:=hpm.length_eq.trans nlen
  have pnm:∀x∈ps,be x:=fun x hx=>nnm x (hpm.mem_iff.mp hx)
  have psw:=j7 hso pnd
  have npl:=P4.ne_new hpl
  have hpl0:=K4.free1 P4 hpl
  have P5:=P4.new (o:=.lst (ps.map V.str)) hpl
  have K5:=K4.new (o:=.lst (ps.map V.str)) hpl
  have L5:upd H4 pl (.lst (ps.map V.str)) pl=some (.lst (ps.map V.str)):=aj
  generalize upd H4 pl (.lst (ps.map V.str))=H5 at P5 K5 L5 ⊢
  refine⟨_,rfl,_,rfl,_,rfl,p,m,rfl,P5,by omega,by omega,fun r3 H6 c0 c1 P6 K6'=>?_⟩
  have K6:=K5.trans K6'
  have L6:=K6'.at npl L5
  have hr3:r3.toNat < ps.length:=by omega
  refine aC (j:=r3.toNat) (.inl (SqL.of L6)) (by omega) (strAt hr3) ?_
  have hroot:ps[r3.toNat]∈ps:=List.getElem_mem hr3
  generalize ps[r3.toNat]=root at hroot ⊢
  refine⟨Nat.zero_le _,fun fo hfo=>?_⟩
  have nfp:=P6.ne_new hfo
  have nfl:fo≠pl:=(aZ L6 hfo).symm
  have hfo0:=K6.free1 P6 hfo
  have P7:=P6.new (o:=.lst []) hfo
  have K7:=K6.new (o:=.lst []) hfo
  have L7:upd H6 fo (.lst []) pl=some (.lst (ps.map V.str)):=by rw [au nfl.symm];exact L6
  have A7:cj (upd H6 fo (.lst [])) fo []:=⟨aj,by simp⟩
  generalize upd H6 fo (.lst [])=H7 at P7 K7 L7 A7 ⊢
  dsimp only [bV,mK]
  refine gf (fun σ H8=>∃les:List Le,(∃g,σ=[some (.ref p),some (.int most),some (.int m),some (.ref pl),some (.str root),some (.ref fo),g,none,none])/\Pot H8 p/\Kp [p] H H8/\H8 pl=some (.lst (ps.map V.str))/\cj H8 fo les/\LeP ps les/\les.length<=21) (fun N key=>?_) ?_
  ·refine⟨_,rfl,p,3,rfl,P7,by decide,by decide,fun r4 H8 d0 d1 P8 K8'=>⟨rfl,_,rfl,aS (fun c=>?_) (fun c=>key _ _ ⟨[],⟨_,rfl⟩,P8,K7.trans K8',K8'.at npl L7,A7.kp P7 nfp K8',(by intro x hx;simp at hx),by simp⟩)⟩⟩
   refine⟨_,rfl,p,3,rfl,P8,by decide,by decide,fun r5 H9 e0 e1 P9 K9'=>⟨_,_,rfl,rfl,_,rfl,by omega,by omega,?_⟩⟩
   have K9:=K7.trans (K8'.trans K9')
   have L9:=(K8'.trans K9').at npl L7
   have A9:=A7.kp P7 nfp (K8'.trans K9')
   refine fK (fun i σ Hx=>∃(les:List Le),(∃g,σ=[some (.ref p),some (.int most),some (.int m),some (.ref pl),some (.str root),some (.ref fo),g,none,none])/\Pot Hx p/\Kp [p] H Hx/\Hx pl=some (.lst (ps.map V.str))/\cj Hx fo les/\LeP ps les/\les.length<=7 * i)
    ⟨[],⟨_,rfl⟩,P9,K9,L9,A9,(by intro x hx;simp at hx),Nat.le_refl _⟩ ?_ ?_
   ·rintro i σ Hx hi ⟨les,⟨g,rfl⟩,Px,Kx,Lx,Ax,hle,hlen⟩
    refine⟨_,rfl,.inl ⟨rfl,_,SqL.of Ax.l⟩,_,rfl,_,rfl,_,rfl,p,pl,root,ps,rfl,Px,Lx,hroot,pnd,pnm,by omega,fun q les' Hy Py Ay hle' hl7 hq0 Ky=>?_⟩
    have Ay0:=Ax.kp Px nfp Ky
    have Ly:=Ky.at npl Lx
    have hqf:q≠fo:=fun z=>by rw [z,Ax.l] at hq0;cases hq0
    refine⟨fo,q,bL les,bL les',rfl,rfl,Ay0.l,Ay.l,Nat.le_of_lt (fits (by simp;omega)),?_⟩
    refine⟨les++les',⟨_,rfl⟩,Py.upd nfp,(Kx.trans Ky).upd0 hfo0,by rw [au nfl.symm];exact Ly,⟨by rw [aj];simp [bL],fun x hx=>?_⟩,fun x hx=>?_,by simp;omega⟩
    ·rcases List.mem_append.mp hx with z | z
     ·rw [au (tup_ne (Ay0.e x z) Ay0.l)];exact Ay0.e x z
     ·rw [au (tup_ne (Ay.e x z) Ay0.l)];exact Ay.e x z
    ·rcases List.mem_append.mp hx with z | z
     ·exact hle x z
     ·exact hle' x z
   ·rintro σ Hx ⟨les,hσ,Px,Kx,Lx,Ax,hle,hlen⟩
    exact key σ Hx ⟨les,hσ,Px,Kx,Lx,Ax,hle,by omega⟩
  rintro σ H8 ⟨les,⟨g,rfl⟩,P8,K8,L8,A8,hle8,hl8⟩
  refine gf (fun σ H9=>∃les:List Le,(∃g g2,σ=[some (.ref p),some (.int most),some (.int m),some (.ref pl),some (.str root),some (.ref fo),g,g2,none])/\Pot H9 p/\Kp [p] H H9/\H9 pl=some (.lst (ps.map V.str))/\cj H9 fo les/\LeP ps les/\les.length<=30) (fun N key2=>?_) ?_
  ·refine⟨_,rfl,_,_,rfl,rfl,_,rfl,aS (fun c=>?_) (fun c=>key2 _ _ ⟨les,⟨_,_,rfl⟩,P8,K8,L8,A8,hle8,by omega⟩)⟩
   have hm2:1 < m:=by have:=of_decide_eq_true c;omega
   refine⟨_,rfl,_,rfl,_,rfl,fo,_,rfl,.inl (SqL.of A8.l),_,_,rfl,rfl,_,_,rfl,_,_,rfl,rfl,?_⟩
   have hlz:(bL les).length=les.length:=by simp
   rw [hlz]
   have hmx0:(0:Int) < (if most - (les.length:Int) > 0 then most - (les.length:Int) else 0) + 1:=by split <;> omega
   have hmx1:(if most - (les.length:Int) > 0 then most - (les.length:Int) else 0) + 1<=31:=by split <;> omega
   have hmx2:(les.length:Int) + (if most - (les.length:Int) > 0 then most - (les.length:Int) else 0)<=30:=by split <;> omega
   generalize (if most - (les.length:Int) > 0 then most - (les.length:Int) else 0)=mx at hmx0 hmx1 hmx2 ⊢
   refine⟨p,_,rfl,P8,hmx0,by omega,fun r6 H9 f0 f1 P9 K9'=>⟨_,rfl,by omega,by omega,?_⟩⟩
   refine fK (fun i σ Hx=>∃(les':List Le),(∃g g2,σ=[some (.ref p),some (.int most),some (.int m),some (.ref pl),some (.str root),some (.ref fo),g,g2,none])/\Pot Hx p/\Kp [p] H Hx/\Hx pl=some (.lst (ps.map V.str))/\cj Hx fo les'/\LeP ps les'/\les'.length=les.length + i)
    ⟨les,⟨_,_,rfl⟩,P9,K8.trans K9',K9'.at npl L8,A8.kp P8 nfp K9',hle8,rfl⟩ ?_ ?_
   ·rintro i σ Hx hi ⟨les',⟨g,g2,rfl⟩,Px,Kx,Lx,Ax,hle,hlen⟩
    refine⟨_,rfl,_,rfl,p,m,rfl,Px,by omega,by omega,fun ra Hy a0 a1 Py Ky=>?_⟩
    have Ay:=Ax.kp Px nfp Ky
    have Ly:=Ky.at npl Lx
    have hra:ra.toNat < ps.length:=by omega
    refine⟨_,rfl,.inl ⟨rfl,_,SqL.of Ay.l⟩,_,rfl,_,rfl,aC (j:=ra.toNat) (.inl (SqL.of Ly)) (by omega) (strAt hra) ?_⟩
    refine⟨_,rfl,_,rfl,_,_,rfl,rfl,_,rfl,_,rfl,_,_,rfl,rfl,p,_,rfl,Py,by omega,by omega,fun rb Hz b0 b1 Pz Kz=>?_⟩
    have Az:=Ay.kp Py nfp Kz
    have Lz:=Kz.at npl Ly
    refine⟨_,_,rfl,rfl,_,rfl,_,_,rfl,rfl,by omega,?_⟩
    have hj0:=Int.emod_nonneg (ra + 1 + rb) (show (m:Int)≠0 by omega)
    have hj1:=Int.emod_lt_of_pos (ra + 1 + rb) (show (0:Int) < m by omega)
    have hjne:(ra + 1 + rb) % (m:Int)≠ra:=fun z=>by
     rcases Int.lt_or_le (ra + 1 + rb) m with y | y
     ·rw [Int.emod_eq_of_lt (by omega) y] at z;omega
     ·rw [<- Int.sub_emod_right,Int.emod_eq_of_lt (by omega) (by omega)] at z;omega
    obtain⟨jb,hjbe⟩:∃jb,(ra + 1 + rb) % (m:Int)=jb:=⟨_,rfl⟩
    rw [hjbe] at hj0 hj1 hjne
    have hjb:jb.toNat < ps.length:=by omega
    refine aC (j:=jb.toNat) (.inl (SqL.of Lz)) (by omega) (strAt hjb) ⟨by show 2<=sizeLine;decide,fun n hn=>?_⟩
    have hab:ps[ra.toNat]≠ps[jb.toNat]:=by
     have hne:ra.toNat≠jb.toNat:=by omega
     rcases Nat.lt_or_gt_of_ne hne with y | y
     ·exact List.pairwise_iff_getElem.mp pnd _ _ hra hjb y
     ·exact fun z=>List.pairwise_iff_getElem.mp pnd _ _ hjb hra y z.symm
    have hma:=List.getElem_mem hra
    have hmb:=List.getElem_mem hjb
    generalize ps[ra.toNat]=sa at hab hma ⊢
    generalize ps[jb.toNat]=sb at hab hmb ⊢
    have sz:=am (o:=.tup [.str sa,.str sb]) (ah.refl Hz) hn
    have nz:upd Hz n (.tup [.str sa,.str sb]) n=some (.tup [.str sa,.str sb]):=aj
    have P10:=Pz.new (o:=.tup [.str sa,.str sb]) hn
    have K10:=(Kx.trans (Ky.trans Kz)).new (o:=.tup [.str sa,.str sb]) hn
    generalize upd Hz n (.tup [.str sa,.str sb])=H10 at sz nz P10 K10 ⊢
    have A10:=Az.same sz
    have L10:=sz _ _ Lz
    refine⟨fo,bL les',.ref n,rfl,rfl,A10.l,fits (by simp;omega),?_⟩
    refine⟨les'++[(n,sa,sb)],⟨_,_,rfl⟩,P10.upd nfp,K10.upd0 hfo0,by rw [au nfl.symm];exact L10,⟨by rw [aj];simp [bL],fun x hx=>?_⟩,fun x hx=>?_,by simp;omega⟩
    ·rcases List.mem_append.mp hx with q | q
     ·rw [au (tup_ne (A10.e x q) A10.l)];exact A10.e x q
     ·have e:x=(n,sa,sb):=by simpa using q
      subst e
      show upd H10 fo _ n=_
      rw [au (tup_ne nz A10.l)];exact nz
    ·rcases List.mem_append.mp hx with q | q
     ·exact hle x q
     ·have e:x=(n,sa,sb):=by simpa using q
      subst e;exact⟨hma,hmb,hab⟩
   ·rintro σ Hx ⟨les',hσ,Px,Kx,Lx,Ax,hle,hlen⟩
    exact key2 σ Hx ⟨les',hσ,Px,Kx,Lx,Ax,hle,by omega⟩
  rintro σ H9 ⟨les,⟨g,g2,rfl⟩,P9,K9,L9,A9,hle9,hl9⟩
  have hlz:(bL les).length=les.length:=by simp
  refine⟨_,rfl,_,rfl,fo,_,rfl,.inl (SqL.of A9.l),p,(bL les).length,rfl,P9,by omega,fun ta tn H10 P10 t10 _ tnm tnd tlen _ K10'=>?_⟩
  rw [hlz] at tlen
  have K10:=K9.trans K10'
  have A10:=A9.kp P9 nfp K10'
  have L10:=K10'.at npl L9
  refine⟨_,rfl,ta,fo,_,_,rfl,SqL.of t10,SqL.of A10.l,?_⟩
  refine qD (xs:=tn.map V.str) (ys:=bL les) (fits (by simp;omega)) (fun i zs σ H2=>(∃rr:List (Addr×Row),zs=aq rr/\(∀r∈rr,e6 H2 r.1 r.2)/\nms rr=tn.take i/\(∀r∈rr,r.2.2.1∈ps/\r.2.2.2∈ps/\r.2.2.1≠r.2.2.2))/\ah H10 H2/\∃g1 g2 g3,σ=[g1,g2,g3])
   ⟨⟨[],rfl,by simp,rfl,by simp⟩,ah.refl _,_,_,_,rfl⟩ (fun i zs σ H2 hi q=>?_) ?_ ?_
  ·obtain⟨⟨rr,rfl,_,e,_⟩,s2,_⟩:=q
   have:=congrArg List.length e
   rw [nms,List.length_map,List.length_take] at this
   exact⟨by simp [this];omega,SqL.of (s2 _ _ t10),SqL.of (s2 _ _ A10.l)⟩
  ·rintro i x y zs σ H2 T hx hy ⟨⟨rr,rfl,Ra,e,Ro⟩,s2,g1,g2,g3,rfl⟩ hT
   rw [List.getElem?_map] at hx
   obtain⟨pr,hpr,rfl⟩:=sW hy
   cases hc:tn[i]? with
   | none=>rw [hc] at hx;cases hx
   | some t =>
    rw [hc] at hx
    cases hx
    have hpm':=List.mem_of_getElem? hpr
    obtain⟨o1,o2,o3⟩:=hle9 pr hpm'
    have s3:=am (o:=.tup [.str t,.ref pr.1]) s2 hT
    have pr3:=s3 _ _ (A10.e pr hpm')
    refine⟨T,_,rfl,SqT.of aj,rfl,_,_,rfl,_,_,rfl,pr.1,_,rfl,SqT.of pr3,rfl,_,_,rfl,_,_,rfl,rfl,rfl,?_⟩
    refine⟨_,rfl,_,rfl,_,rfl,by show 3<=sizeLine;decide,fun n hn=>?_⟩
    have s4:=am (o:=.tup [.str t,.str pr.2.1,.str pr.2.2]) s3 hn
    have s24:=am (o:=.tup [.str t,.str pr.2.1,.str pr.2.2]) (am (o:=.tup [.str t,.ref pr.1]) (ah.refl H2) hT) hn
    refine⟨⟨rr++[(n,(t,pr.2.1,pr.2.2))],by simp [aq],fun r hr=>?_,?_,fun r hr=>?_⟩,s4,_,_,_,rfl⟩
    ·rcases List.mem_append.mp hr with z | z
     ·exact s24 _ _ (Ra r z)
     ·have e':r=(n,(t,pr.2.1,pr.2.2)):=by simpa using z
      subst e';exact aj
    ·rw [nms,List.map_append]
     show nms rr++[t]=_
     rw [e,List.take_add_one,hc]
     rfl
    ·rcases List.mem_append.mp hr with z | z
     ·exact Ro r z
     ·have e':r=(n,(t,pr.2.1,pr.2.2)):=by simpa using z
      subst e';exact⟨o1,o2,o3⟩
  rintro zs σ H11 ⟨⟨rr,rfl,Ra,e,Ro⟩,s9,g1,g2,g3,rfl⟩ rw hrw
  have en:nms rr=tn:=by rw [e,take_all tn (by simp;omega)]
  have hrl:rr.length=tn.length:=by rw [<- en];simp
  have s10:=am (o:=.lst (aq rr)) s9 hrw
  have Ra10:∀r∈rr,e6 (upd H11 rw (.lst (aq rr))) r.1 r.2:=fun r hr=>am (ah.refl H11) hrw _ _ (Ra r hr)
  have w10:upd H11 rw (.lst (aq rr)) rw=some (.lst (aq rr)):=aj
  generalize upd H11 rw (.lst (aq rr))=H12 at s10 Ra10 w10 ⊢
  have n12:=s10 _ _ L10
  refine⟨_,rfl,pl,_,rfl,.inl ⟨SqL.of n12,fun pa hpa=>?_⟩⟩
  have t2:=am (o:=.tup (ps.map V.str)) (ah.refl H12) hpa
  have a11:upd H12 pa (.tup (ps.map V.str)) pa=some (.tup (ps.map V.str)):=aj
  generalize upd H12 pa (.tup (ps.map V.str))=H13 at t2 a11 ⊢
  refine⟨_,rfl,rw,rr.map fun r=>(r.1,r.2.1),rfl,.inl (SqL.of (by rw [kS];exact t2 _ _ w10)),fun y hy=>?_,by rw [List.length_map];omega,?_,fun rs1 q2 hpm2 hpw hq2=>?_⟩
  ·obtain⟨x,hx,rfl⟩:=List.mem_map.mp hy
   exact⟨_,t2 _ _ (Ra10 x hx)⟩
  ·rw [List.map_map]
   show (nms rr).Nodup
   rw [en];exact tnd
  obtain⟨rs',hp2,e2'⟩:=j5 (fun r:Addr×Row=>(r.1,r.2.1)) rs1 _ hpm2
  subst e2'
  rw [kS]
  have u1:=am (o:=.lst (aq rs')) (ah.refl H13) hq2
  refine⟨q2,_,rfl,.inl ⟨SqL.of aj,fun ra hra=>?_⟩⟩
  have u2:=am (o:=.tup (aq rs')) u1 hra
  refine⟨by show 2<=sizeLine;decide,fun u hu=>?_⟩
  have u3:=am (o:=.tup [.ref pa,.ref ra]) u2 hu
  refine⟨_,rfl,by show 2<=sizeLine;decide,fun v hv=>?_⟩
  have u4:=am (o:=.tup [.ref u,.str root]) u3 hv
  have hur:ra≠u:=fun z=>by rw [<- z,aj] at hu;cases hu
  have hvu:u≠v:=fun z=>by rw [<- z,aj] at hv;cases hv
  have hvr:ra≠v:=fun z=>by rw [<- z,au hur,aj] at hv;cases hv
  have s8v:=s10.trans (t2.trans u4)
  refine k v u pa ra root ps rs' _ (P10.keep fun o e=>s8v _ _ e) aj ⟨?_,u4 _ _ a11,?_,fun x hx=>u4 _ _ (t2 _ _ (Ra10 x (hp2.mem_iff.mp hx)))⟩ ⟨?_,pnm,psw,fun r hr=>?_,?_,by omega,?_⟩ (by omega) (by rw [hp2.length_eq];omega) hroot (fun z=>nfar (by omega) (hpm.mem_iff.mp z)) (K10.of_same s8v)
  ·rw [au hvu,aj]
  ·rw [au hvr,au hur,aj]
  ·intro z;rw [z] at plen;simp at plen;omega
  ·obtain⟨x,hx,rfl⟩:=List.mem_map.mp hr
   have hxr:=hp2.mem_iff.mp hx
   obtain⟨y1,y2,y3⟩:=Ro x hxr
   exact⟨tnm _ (by rw [<- en];exact List.mem_map_of_mem (f:=fun z:Addr×Row=>z.2.1) hxr),y1,y2,y3⟩
  ·rw [List.map_map] at hpw ⊢;exact hpw
  ·rw [List.length_map,hp2.length_eq];omega
end
noncomputable abbrev T:=Addr×Row
inductive Walk (R:List Row) (a:Str):Nat->Str->Prop
 | nil:Walk R a 0 a
 | snoc {n:Nat}{r:Row}:Walk R a n r.2.1->r∈R->Walk R a (n + 1) r.2.2
noncomputable def bh (R:List Row) (a:Str) (n:Nat) (x:Str):Prop:=Walk R a n x/\∀m,Walk R a m x->n<=m
section
variable {R:List Row}{a x:Str}{n m:Nat}
theorem bh.uniq (h:bh R a n x) (h':bh R a m x):n=m:=Nat.le_antisymm (h.2 m h'.1) (h'.2 n h.1)
theorem bh.zero:bh R a 0 a:=⟨.nil,fun _ _=>Nat.zero_le _⟩
theorem Walk.z (h:Walk R a 0 x):x=a:=by cases h;rfl
theorem Walk.dist:∀{n:Nat}{x:Str},Walk R a n x->∃m,m<=n/\bh R a m x:=by
 intro n
 induction n using Nat.strongRecOn with
 | ind n ih =>
  intro x h
  by_cases c:∃m,m < n/\Walk R a m x
  ·obtain⟨m,h1,h2⟩:=c
   obtain⟨k,h3,h4⟩:=ih m h1 h2
   exact⟨k,by omega,h4⟩
  ·refine⟨n,Nat.le_refl _,h,fun m hm=>?_⟩
   rcases Nat.lt_or_ge m n with q | q
   ·exact absurd ⟨m,q,hm⟩ c
   ·exact q
theorem bh.pred (h:bh R a (n + 1) x):∃r∈R,r.2.2=x/\bh R a n r.2.1:=by
 obtain⟨hw,hm⟩:=h
 generalize hn:n + 1=k at hw hm
 cases hw with
 | nil=>omega
 | @snoc n' r hw' hr =>
  have e:n'=n:=by omega
  subst e
  refine⟨r,hr,rfl,hw',fun m h=>?_⟩
  have:=hm (m + 1) (.snoc h hr)
  omega
theorem bh.step {r:Row} (h:bh R a n r.2.1) (hr:r∈R) (hn:∀m,m<=n->¬ bh R a m r.2.2):bh R a (n + 1) r.2.2:=by
 refine⟨.snoc h.1 hr,fun m hm=>?_⟩
 obtain⟨k,h1,h2⟩:=hm.dist
 rcases Nat.lt_or_ge n k with q | q
 ·omega
 ·exact absurd h2 (hn k q)
end
noncomputable def stp (a x:Str) (tk:List T) (r:T):List T:=if r.2.2.1=x/\r.2.2.2∉a::tk.map (·.2.2.2) then tk++[r] else tk
noncomputable def bfs (rs:List T) (a:Str):Nat->List T
 | 0=>[]
 | k + 1=>match (a::(bfs rs a k).map (·.2.2.2))[k]? with
  | some x=>rs.foldl (stp a x) (bfs rs a k)
  | none=>bfs rs a k
structure Bfs (rs:List T) (a:Str) (fd:List (Str×Nat)) (tk:List T) (q:Nat):Prop where
 fst:fd.map (·.1)=a::tk.map (·.2.2.2)
 dist:∀p∈fd,bh (rs.map (·.2)) a p.2 p.1
 nd:(fd.map (·.1)).Nodup
 so:fd.Pairwise (fun p p'=>p.2<=p'.2)
 sub:∀t∈tk,t∈rs
 par:∀t∈tk,t.2.2.1∈fd.map (·.1)/\∃n,bh (rs.map (·.2)) a n t.2.2.1/\bh (rs.map (·.2)) a (n + 1) t.2.2.2
 done:∀i p,i < q->fd[i]?=some p->∀r∈rs,r.2.2.1=p.1->r.2.2.2∈fd.map (·.1)
 near:∀p,fd[q]?=some p->(∀p'∈fd,p'.2<=p.2 + 1)/\∀z m,bh (rs.map (·.2)) a m z->m<=p.2->z∈fd.map (·.1)
 ql:q<=fd.length
theorem Bfs.start (rs:List T) (a:Str):Bfs rs a [(a,0)] [] 0 where
 fst:=rfl
 dist:=fun p hp=>by have e:p=(a,0):=(by simpa using hp);subst e;exact bh.zero
 nd:=by simp
 so:=by simp
 sub:=by simp
 par:=by simp
 done:=fun i p hi=>absurd hi (Nat.not_lt_zero _)
 near:=fun p hp=>by
  have e:p=(a,0):=by simpa using hp.symm
  subst e
  refine⟨by simp,fun z m h hm=>?_⟩
  have e:m=0:=Nat.le_zero.mp hm
  subst e
  simpa using h.1.z
 ql:=Nat.zero_le _
theorem oO {α:Type}{l:List α}{x:α} (h:l.Nodup) (hx:x∉l):(l++[x]).Nodup:=by
 rw [List.nodup_append]
 refine⟨h,by simp,fun a ha b hb=>?_⟩
 have e:b=x:=by simpa using hb
 subst e
 exact fun z=>hx (z ▸ ha)
section
variable {rs:List T}{a:Str}{fd:List (Str×Nat)}{tk:List T}{q:Nat}
theorem Bfs.row (B:Bfs rs a fd tk q) {x:Str}{n:Nat} (hq:fd[q]?=some (x,n)) {r:T} (hr:r∈rs) :
  ∃more,fd <+: fd++more/\Bfs rs a (fd++more) (stp a x tk r) q/\(r.2.2.1=x->r.2.2.2∈(fd++more).map (·.1)):=by
 have hql:q < fd.length:=(List.getElem?_eq_some_iff.mp hq).1
 have hmx:(x,n)∈fd:=List.mem_of_getElem? hq
 by_cases c:r.2.2.1=x/\r.2.2.2∉a::tk.map (·.2.2.2)
 ·have hy:r.2.2.2∉fd.map (·.1):=by rw [B.fst];exact c.2
  obtain⟨n1,n2⟩:=B.near _ hq
  have hd:bh (rs.map (·.2)) a n r.2.2.1:=by rw [c.1];exact B.dist _ hmx
  have hd':bh (rs.map (·.2)) a (n + 1) r.2.2.2:=hd.step (List.mem_map_of_mem hr) fun m hm h=>hy (n2 _ m h hm)
  have e:stp a x tk r=tk++[r]:=by unfold stp;rw [if_pos c]
  rw [e]
  refine⟨[(r.2.2.2,n + 1)],List.prefix_append _ _,⟨?_,?_,?_,?_,?_,?_,?_,?_,?_⟩,fun _=>by simp⟩
  ·simp [B.fst]
  ·intro p hp
   rcases List.mem_append.mp hp with z | z
   ·exact B.dist p z
   ·have e:p=(r.2.2.2,n + 1):=by simpa using z
    subst e;exact hd'
  ·rw [List.map_append];exact oO B.nd hy
  ·rw [List.pairwise_append]
   refine⟨B.so,by simp,fun p hp p' hp'=>?_⟩
   have e:p'=(r.2.2.2,n + 1):=by simpa using hp'
   subst e
   exact n1 p hp
  ·intro t ht
   rcases List.mem_append.mp ht with z | z
   ·exact B.sub t z
   ·have e:t=r:=by simpa using z
    subst e;exact hr
  ·intro t ht
   rcases List.mem_append.mp ht with z | z
   ·obtain⟨y1,y2⟩:=B.par t z
    exact⟨by rw [List.map_append];exact List.mem_append_left _ y1,y2⟩
   ·have e:t=r:=by simpa using z
    subst e
    exact⟨by rw [List.map_append];exact List.mem_append_left _ (by rw [c.1];exact List.mem_map_of_mem (f:=(·.1)) hmx),n,hd,hd'⟩
  ·intro i p hi hp r' hr' e
   rw [List.getElem?_append_left (by omega)] at hp
   rw [List.map_append]
   exact List.mem_append_left _ (B.done i p hi hp r' hr' e)
  ·intro p hp
   rw [List.getElem?_append_left hql,hq] at hp
   cases hp
   refine⟨fun p' hp'=>?_,fun z m h hm=>by rw [List.map_append];exact List.mem_append_left _ (n2 z m h hm)⟩
   rcases List.mem_append.mp hp' with z | z
   ·exact n1 p' z
   ·have e:p'=(r.2.2.2,n + 1):=by simpa using z
    subst e;exact Nat.le_refl _
  ·have:=B.ql;simp;omega
 ·have e:stp a x tk r=tk:=by unfold stp;rw [if_neg c]
  rw [e]
  refine⟨[],by simp,by simpa using B,fun h=>?_⟩
  rw [List.append_nil,B.fst]
  exact Decidable.byContradiction fun z=>c ⟨h,z⟩
theorem Bfs.rows {x:Str}{n:Nat}:∀(rs':List T) (fd:List (Str×Nat)) (tk:List T),(∀r∈rs',r∈rs)->Bfs rs a fd tk q->fd[q]?=some (x,n) ->
  ∃more,Bfs rs a (fd++more) (rs'.foldl (stp a x) tk) q/\∀r∈rs',r.2.2.1=x->r.2.2.2∈(fd++more).map (·.1)
 | [],fd,tk,_,B,_=>⟨[],by simpa using B,by simp⟩
 | r::rs',fd,tk,hs,B,hq=>by
  obtain⟨m1,_,B1,h1⟩:=B.row hq (hs r List.mem_cons_self)
  have hql:q < fd.length:=(List.getElem?_eq_some_iff.mp hq).1
  obtain⟨m2,B2,h2⟩:=Bfs.rows rs' (fd++m1) _ (fun r' hr'=>hs r' (List.mem_cons_of_mem _ hr')) B1 (by rw [List.getElem?_append_left hql];exact hq)
  refine⟨m1++m2,by rw [<- List.append_assoc];exact B2,fun r' hr' e=>?_⟩
  rw [<- List.append_assoc]
  rcases List.mem_cons.mp hr' with z | z
  ·subst z
   rw [List.map_append]
   exact List.mem_append_left _ (h1 e)
  ·exact h2 r' z e
theorem Bfs.next (B:Bfs rs a fd tk q) {x:Str}{n:Nat} (hq:fd[q]?=some (x,n)):∃fd',Bfs rs a fd' (rs.foldl (stp a x) tk) (q + 1):=by
 obtain⟨more,B',h⟩:=Bfs.rows rs fd tk (fun _ z=>z) B hq
 have hql:q < fd.length:=(List.getElem?_eq_some_iff.mp hq).1
 have hq':(fd++more)[q]?=some (x,n):=by rw [List.getElem?_append_left hql];exact hq
 refine⟨fd++more,B'.fst,B'.dist,B'.nd,B'.so,B'.sub,B'.par,fun i p hi hp r hr e=>?_,fun p hp=>?_,by simp;omega⟩
 ·rcases Nat.lt_or_ge i q with z | z
  ·exact B'.done i p z hp r hr e
  ·have ei:i=q:=by omega
   subst ei
   rw [hq'] at hp;cases hp
   exact h r hr e
 ·obtain⟨n1,n2⟩:=B'.near _ hq'
  have hpm:=List.mem_of_getElem? hp
  obtain⟨l1,g1⟩:=List.getElem?_eq_some_iff.mp hq'
  obtain⟨l2,g2⟩:=List.getElem?_eq_some_iff.mp hp
  have hle:n<=p.2:=by
   have:=List.pairwise_iff_getElem.mp B'.so q (q + 1) l1 l2 (by omega)
   rw [g1,g2] at this
   exact this
  have hle2:=n1 p hpm
  dsimp only at hle2 n1
  refine⟨fun p' hp'=>by have:=n1 p' hp';omega,fun z m hz hm=>?_⟩
  rcases Nat.lt_or_ge n m with y | y
  ·have em:m=n + 1:=by omega
   subst em
   obtain⟨r,hr,rfl,hd⟩:=hz.pred
   obtain⟨t,ht,rfl⟩:=List.mem_map.mp hr
   have hf:=n2 _ n hd (Nat.le_refl _)
   obtain⟨p0,hp0,e0⟩:=List.mem_map.mp hf
   have en:p0.2=n:=(B'.dist p0 hp0).uniq (by rw [e0];exact hd)
   obtain⟨i,hi⟩:=List.getElem?_of_mem hp0
   obtain⟨l3,g3⟩:=List.getElem?_eq_some_iff.mp hi
   have hiq:i < q + 1:=by
    rcases Nat.lt_or_ge i (q + 1) with w | w
    ·exact w
    ·exfalso
     rcases Nat.lt_or_ge (q + 1) i with v | v
     ·have:=List.pairwise_iff_getElem.mp B'.so (q + 1) i l2 l3 v
      rw [g2,g3] at this
      omega
     ·have ei:i=q + 1:=by omega
      subst ei
      rw [hp] at hi;cases hi
      omega
   rcases Nat.lt_or_ge i q with w | w
   ·exact B'.done i p0 w hi t ht e0.symm
   ·have ei:i=q:=by omega
    subst ei
    rw [hq'] at hi;cases hi
    exact h t ht e0.symm
  ·exact n2 z m hz y
end
theorem fN {α:Type}:∀{l m:List α},l.Nodup->(∀x∈l,x∈m)->l.length<=m.length
 | [],_,_,_=>Nat.zero_le _
 | x::l,m,h,hs=>by
  obtain⟨h1,h2⟩:=List.nodup_cons.mp h
  obtain⟨u,v,rfl⟩:=List.append_of_mem (hs x List.mem_cons_self)
  have:=fN (m:=u++v) h2 fun y hy=>by
   have q:=hs y (List.mem_cons_of_mem _ hy)
   rcases List.mem_append.mp q with z | z
   ·exact List.mem_append_left _ z
   ·rcases List.mem_cons.mp z with e | z
    ·subst e;exact absurd hy h1
    ·exact List.mem_append_right _ z
  simp at this ⊢
  omega
noncomputable abbrev fnd (a:Str) (tk:List T):List Str:=a::tk.map (·.2.2.2)
structure cc (rs:List T) (a:Str) (tk:List T):Prop where
 mem:∀z∈fnd a tk,∃n,bh (rs.map (·.2)) a n z
 nd:(fnd a tk).Nodup
 sub:∀t∈tk,t∈rs
 par:∀t∈tk,t.2.2.1∈fnd a tk/\∃n,bh (rs.map (·.2)) a n t.2.2.1/\bh (rs.map (·.2)) a (n + 1) t.2.2.2
 cl:∀n z,Walk (rs.map (·.2)) a n z->z∈fnd a tk
theorem Bfs.full {rs:List T}{a:Str}{fd:List (Str×Nat)}{tk:List T}{q:Nat} (B:Bfs rs a fd tk q) (hq:fd.length<=q):cc rs a tk:=by
 have hf:fnd a tk=fd.map (·.1):=B.fst.symm
 refine⟨fun z hz=>?_,by rw [hf];exact B.nd,B.sub,fun t ht=>by rw [hf];exact B.par t ht,fun n z h=>?_⟩
 ·rw [hf] at hz
  obtain⟨p,hp,rfl⟩:=List.mem_map.mp hz
  exact⟨_,B.dist p hp⟩
 ·rw [hf]
  induction h with
  | nil=>rw [<- hf];exact List.mem_cons_self
  | @snoc n r h hr ih =>
   obtain⟨p,hp,e⟩:=List.mem_map.mp ih
   obtain⟨i,hi⟩:=List.getElem?_of_mem hp
   obtain⟨t,ht,rfl⟩:=List.mem_map.mp hr
   exact B.done i p (Nat.lt_of_lt_of_le (List.getElem?_eq_some_iff.mp hi).1 hq) hi t ht e.symm
theorem iU {R:List Row}{a:Str}{ps:List Str} (ha:a∈ps) (h:∀r∈R,r.2.2∈ps):∀{n:Nat}{z:Str},Walk R a n z->z∈ps:=by
 intro n z hw
 cases hw with
 | nil=>exact ha
 | snoc _ hr=>exact h _ hr
theorem Bfs.bound {rs:List T}{a:Str}{fd:List (Str×Nat)}{tk:List T}{q:Nat} (B:Bfs rs a fd tk q) {ps:List Str} (ha:a∈ps) (h:∀r∈rs,r.2.2.2∈ps):fd.length<=ps.length:=by
 have:=fN B.nd (m:=ps) fun z hz=>by
  obtain⟨p,hp,rfl⟩:=List.mem_map.mp hz
  exact iU ha (fun r hr=>by obtain⟨t,ht,rfl⟩:=List.mem_map.mp hr;exact h t ht) (B.dist p hp).1
 simpa using this
theorem jR {rs:List T}{a:Str}{k:Nat} (h:(bfs rs a k).length + 1<=k):∀j,bfs rs a (k + j)=bfs rs a k
 | 0=>rfl
 | j + 1=>by
  have ih:=jR h j
  show (match (a::(bfs rs a (k + j)).map (·.2.2.2))[k + j]? with | some x=>rs.foldl (stp a x) (bfs rs a (k + j)) | none=>bfs rs a (k + j))=_
  rw [ih]
  have e:(a::(bfs rs a k).map (·.2.2.2))[k + j]?=none:=by
   rw [List.getElem?_eq_none_iff];simp;omega
  rw [e]
theorem ko:∃f:List T->Str->List T,∀rs a,f rs a=bfs rs a 200:=⟨_,fun _ _=>rfl⟩
noncomputable def first (rs:List T) (a:Str):List T:=Classical.choose ko rs a
theorem qN (rs:List T) (a:Str):first rs a=bfs rs a 200:=Classical.choose_spec ko rs a
theorem kX {rs:List T}{a:Str}{k:Nat} (h:(bfs rs a k).length + 1<=k) (hk:k<=200):bfs rs a k=first rs a:=by
 have:=jR h (200 - k)
 rw [show k + (200 - k)=200 by omega] at this
 rw [qN]
 exact this.symm
noncomputable def bZ (tk:List T) (a:Str):Nat->Str->List T
 | 0,_=>[]
 | f + 1,x=>if x=a then [] else match tk.find? (fun t=>decide (t.2.2.2=x)) with
  | some t=>bZ tk a f t.2.2.1++[t]
  | none=>[]
theorem lh:∃f:List T->Str->Str->List T,∀tk a x,f tk a x=bZ tk a 200 x:=⟨_,fun _ _ _=>rfl⟩
noncomputable def dh (tk:List T) (a x:Str):List T:=Classical.choose lh tk a x
theorem kZ (tk:List T) (a x:Str):dh tk a x=bZ tk a 200 x:=Classical.choose_spec lh tk a x
theorem jU (tk:List T) (a:Str) (f:Nat):bZ tk a f a=[]:=by
 cases f with
 | zero=>rfl
 | succ f=>show (if a=a then _ else _)=_;rw [if_pos rfl]
noncomputable def lst (a:Str) (w:List T):Str:=(a::w.map (·.2.2.2)).getLast (by simp)
theorem lst_snoc (a:Str) (w:List T) (t:T):lst a (w++[t])=t.2.2.2:=by
 have e:(a::(w++[t]).map (·.2.2.2))=(a::w.map (·.2.2.2))++[t.2.2.2]:=by simp
 unfold lst
 simp only [e]
 first | exact List.getLast_append_singleton _ | exact List.getLast_concat | simp
structure fz (rs:List T) (a:Str) (w:List T) (x:Str):Prop where
 at':∀i t,w[i]?=some t->t∈rs/\t.2.2.1=lst a (w.take i)/\bh (rs.map (·.2)) a (i + 1) t.2.2.2
 last:lst a w=x
theorem find_some {tk:List T}{x:Str} (h:x∈tk.map (·.2.2.2)):∃t,tk.find? (fun t=>decide (t.2.2.2=x))=some t/\t∈tk/\t.2.2.2=x:=by
 obtain⟨t,ht,e⟩:=List.mem_map.mp h
 cases q:tk.find? (fun t=>decide (t.2.2.2=x)) with
 | none=>exact absurd (List.find?_eq_none.mp q t ht) (by simpa using e)
 | some u=>exact⟨u,rfl,List.mem_of_find?_eq_some q,by simpa using List.find?_some q⟩
theorem cc.way {rs:List T}{a:Str}{tk:List T} (F:cc rs a tk):∀(f n:Nat) (x:Str),n<=f->x∈fnd a tk->bh (rs.map (·.2)) a n x->fz rs a (bZ tk a f x) x/\(bZ tk a f x).length=n
 | f,0,x,_,_,hd=>by
  have e:=hd.1.z
  subst e
  rw [jU]
  exact⟨⟨fun i t h=>by simp at h,rfl⟩,rfl⟩
 | 0,n + 1,x,h,_,_=>absurd h (by omega)
 | f + 1,n + 1,x,h,hx,hd=>by
  have hne:x≠a:=fun e=>by subst e;exact absurd (hd.uniq bh.zero) (by omega)
  have hx':x∈tk.map (·.2.2.2):=(List.mem_cons.mp hx).resolve_left hne
  obtain⟨t,e,ht,hto⟩:=find_some hx'
  obtain⟨p1,k,p2,p3⟩:=F.par t ht
  have ek:k=n:=by
   have:=p3.uniq (by rw [hto];exact hd)
   omega
  subst ek
  obtain⟨ih,il⟩:=F.way f k t.2.2.1 (by omega) p1 p2
  have ew:bZ tk a (f + 1) x=bZ tk a f t.2.2.1++[t]:=by
   show (if x=a then _ else _)=_
   rw [if_neg hne,e]
  rw [ew]
  refine⟨⟨fun i u hu=>?_,by rw [lst_snoc];exact hto⟩,by rw [List.length_append,il];rfl⟩
  rcases Nat.lt_or_ge i (bZ tk a f t.2.2.1).length with lt | ge
  ·rw [List.getElem?_append_left lt] at hu
   rw [List.take_append_of_le_length (by omega)]
   exact ih.at' i u hu
  ·rw [List.getElem?_append_right ge] at hu
   have hi0:i - (bZ tk a f t.2.2.1).length=0:=by
    have:=(List.getElem?_eq_some_iff.mp hu).1
    simp at this
    omega
   rw [hi0] at hu
   have eu:t=u:=by simpa using hu
   subst eu
   have ei:i=(bZ tk a f t.2.2.1).length:=by omega
   rw [ei,List.take_left',il]
   ·exact⟨F.sub _ ht,ih.last.symm,p3⟩
   ·rfl
theorem iW {R:List Row}{a:Str}{ps:List Str} (ha:a∈ps) (h:∀r∈R,r.2.2∈ps):∀{n:Nat}{z:Str},bh R a n z->n < ps.length:=by
 have key:∀(n:Nat) (z:Str),bh R a n z->∃l:List Str,l.length=n + 1/\l.Nodup/\(∀y∈l,y∈ps)/\∀y∈l,∃m,m<=n/\bh R a m y:=by
  intro n
  induction n with
  | zero=>intro z hz;exact⟨[z],rfl,by simp,by simpa using iU ha h hz.1,by simpa using hz⟩
  | succ n ih =>
   intro z hz
   obtain⟨r,hr,rfl,hd⟩:=hz.pred
   obtain⟨l,h1,h2,h3,h4⟩:=ih _ hd
   refine⟨r.2.2::l,by simp [h1],List.nodup_cons.mpr ⟨fun hm=>?_,h2⟩,fun y hy=>?_,fun y hy=>?_⟩
   ·obtain⟨m,h5,h6⟩:=h4 _ hm
    exact absurd (h6.uniq hz) (by omega)
   ·rcases List.mem_cons.mp hy with e | hy
    ·subst e;exact h _ hr
    ·exact h3 y hy
   ·rcases List.mem_cons.mp hy with e | hy
    ·subst e;exact⟨_,Nat.le_refl _,hz⟩
    ·obtain⟨m,h5,h6⟩:=h4 y hy
     exact⟨m,by omega,h6⟩
 intro n z hz
 obtain⟨l,h1,h2,h3,_⟩:=key n z hz
 have:=fN h2 h3
 omega
theorem qC (a x:Str) (r:T) (tk:List T):∃more,stp a x tk r=tk++more/\more.length<=1:=by
 unfold stp
 split
 ·exact⟨[r],rfl,by simp⟩
 ·exact⟨[],by simp,by simp⟩
theorem iq (a x:Str):∀(rs tk:List T),∃more,rs.foldl (stp a x) tk=tk++more/\more.length<=rs.length
 | [],tk=>⟨[],by simp,by simp⟩
 | r::rs,tk=>by
  obtain⟨m1,e1,h1⟩:=qC a x r tk
  obtain⟨m2,e2,h2⟩:=iq a x rs (stp a x tk r)
  refine⟨m1++m2,?_,by simp;omega⟩
  rw [List.foldl_cons,e2,e1,List.append_assoc]
theorem j2 {a x:Str}{rs tk:List T}{i:Nat}{r:T} (h:rs[i]?=some r):(rs.take (i + 1)).foldl (stp a x) tk=stp a x ((rs.take i).foldl (stp a x) tk) r:=by
 rw [List.take_add_one,h,List.foldl_append];rfl
theorem ah.upd0 {H H':Hp}{q:Addr}{o:HO} (h:ah H H') (hq:H q=none):ah H (upd H' q o):=fun b ob e=>by
 rw [au (aZ e hq)];exact h b ob e
structure bA (H:Hp) (rs:List T):Prop where
 e:∀r∈rs,e6 H r.1 r.2
theorem bA.same {H H':Hp}{rs:List T} (h:bA H rs) (s:ah H H'):bA H' rs:=⟨fun r hr=>s _ _ (h.e r hr)⟩
section
variable {P:Program}{w:World}{K:PySem.W.Frag}{mg:Str->Option Value}{base:Heap}
noncomputable def gK:Sp:=fun vs H Q _=>∃(ra:Addr) (a:Str) (rs:List T) (ps:List Str),vs=[.ref ra,.str a]/\H ra=some (.tup (aq rs))/\bA H rs/\a∈ps/\(∀r∈rs,r.2.2.2∈ps)/\ps.length<=100/\rs.length<=60 /\
 ∀(q:Addr) (H':Hp),ah H H'->H q=none->H' q=some (.lst (aq (first rs a)))->cc rs a (first rs a)->Q (.ref q) H'
noncomputable abbrev N25:List Str:=["rows","start","found","taken","done","row"]
theorem di:aP N25 ["rows","start"] (ao (top 25)):=⟨rfl,rfl,rfl,by decide +kernel,rfl,by decide +kernel,by decide +kernel⟩
theorem nX {f:Addr}{fd:FuncData} (F:Fun K "first_rows" "first_rows" (top 25) f fd) (B:Bl mg):ax P w K mg base CX0 1 f fd ["rows","start"] gK:=by
 refine F.ok di (fun vs H Q E h=>?_) (fun cdv A outer s H vs Q E hr h=>?_)
 ·obtain⟨ra,a,rs,ps,rfl,_⟩:=h
  rfl
 ·obtain⟨ra,a,rs,ps,rfl,hra,hrows,haps,hps,hz,hrz,k⟩:=h
  refine⟨_,ak (aG (i:=2) di.nd rfl (Or.inl rfl) (aN (ae (pv 1) ag)))
   (ak (aG (i:=3) di.nd rfl (Or.inl rfl) (aN ag))
   (ak (aG (i:=4) di.nd rfl (Or.inl rfl) ai)
   (ak (fh PassesOwn.never (aM gT (pv 4) (aB bD rfl B.len PySem.boot_len (ae (pv 2) ag)) (aQ _))
    (ak (eS PassesOwn.never rfl (cK (pv 0)) (bv (i:=5) di.nd rfl (Or.inl rfl))
     (av (bq (PW.pt (fZ (aM cX (ay aF (pv 5) ai (fun _ _=>rfl)) (ay aF (pv 2) (pv 4) (fun _ _=>rfl)) (aQ _))
       (fR (aM fH (ay aF (pv 5) ai (fun _ _=>rfl)) (pv 2) (by with_unfolding_all rfl)))))
      (ak (bj (cF PySem.F.plainAttrs_list PySem.F.slot_list_append PySem.F.type_list_append dj (pv 2) (ae (ay aF (pv 5) ai (fun _ _=>rfl)) ag)))
      (av (bj (cF PySem.F.plainAttrs_list PySem.F.slot_list_append PySem.F.type_list_append dj (pv 3) (ae (pv 5) ag))))) bc)))
    (av (mw (i:=4) di.nd rfl (Or.inl rfl) ai lT))))
   (av (aI (pv 3)))))),?_⟩
  refine⟨_,rfl,by show 1<=sizeLine;decide,fun fo hfo=>?_⟩
  have s1:=am (o:=.lst [.str a]) (ah.refl H) hfo
  have f1:upd H fo (.lst [.str a]) fo=some (.lst ((fnd a []).map V.str)):=aj
  generalize upd H fo (.lst [.str a])=H1 at s1 f1 ⊢
  refine⟨Nat.zero_le _,fun tk htk=>?_⟩
  have htk0:=s1.free htk
  have nft:fo≠tk:=aZ f1 htk
  have s2:=am (o:=.lst []) s1 htk
  have f2:upd H1 tk (.lst []) fo=some (.lst ((fnd a []).map V.str)):=by rw [au nft];exact f1
  have t2:upd H1 tk (.lst []) tk=some (.lst (aq [])):=aj
  generalize upd H1 tk (.lst [])=H2 at s2 f2 t2 ⊢
  refine⟨fun m σ H3=>∃(q:Nat) (fd:List (Str×Nat)) (g:Option V),σ=[some (.ref ra),some (.str a),some (.ref fo),some (.ref tk),some (.int q),g]/\m=200 - q/\Bfs rs a fd (bfs rs a q) q/\ah H H3/\H3 fo=some (.lst ((fnd a (bfs rs a q)).map V.str))/\H3 tk=some (.lst (aq (bfs rs a q))),
   ⟨_,0,_,none,rfl,rfl,Bfs.start rs a,s2,f2,t2⟩,?_⟩
  rintro m σ H3 ⟨q,fd,g,rfl,rfl,Bq,s3,f3,t3⟩
  have hfl:(fnd a (bfs rs a q)).length=fd.length:=by
   have:=congrArg List.length Bq.fst
   rw [List.length_map] at this
   exact this.symm
  have hfb:=Bq.bound haps hps
  have hql:=Bq.ql
  refine⟨_,rfl,_,rfl,fo,_,rfl,.inl (SqL.of f3),_,_,rfl,rfl,_,rfl,aS (fun c=>?_) (fun c=>?_)⟩
  ·have hlt:q < fd.length:=by
    have:=of_decide_eq_true c
    rw [List.length_map,hfl] at this
    omega
   have hqx:fd[q]?=some (fd[q].1,fd[q].2):=List.getElem?_eq_getElem hlt
   obtain⟨fd',B'⟩:=Bq.next hqx
   have hx:(fnd a (bfs rs a q))[q]?=some fd[q].1:=by
    show (a::(bfs rs a q).map (·.2.2.2))[q]?=_
    rw [<- Bq.fst,List.getElem?_map,hqx];rfl
   have eb:bfs rs a (q + 1)=rs.foldl (stp a fd[q].1) (bfs rs a q):=by
    show (match (a::(bfs rs a q).map (·.2.2.2))[q]? with | some x=>rs.foldl (stp a x) (bfs rs a q) | none=>bfs rs a q)=_
    rw [show (a::(bfs rs a q).map (·.2.2.2))[q]?=some fd[q].1 from hx]
   rw [<- eb] at B'
   generalize fd[q].1=x at hx eb
   refine⟨fun σ' H'=>∃m',m' < 200 - q/\∃(q:Nat) (fd:List (Str×Nat)) (g:Option V),σ'=[some (.ref ra),some (.str a),some (.ref fo),some (.ref tk),some (.int q),g]/\m'=200 - q/\Bfs rs a fd (bfs rs a q) q/\ah H H'/\H' fo=some (.lst ((fnd a (bfs rs a q)).map V.str))/\H' tk=some (.lst (aq (bfs rs a q))),fun σ' H' q=>q,?_⟩
   refine⟨_,rfl,ra,rfl,⟨_,SqT.of (s3 _ _ hra)⟩,rC (K:=K) (a:=ra) (xs:=aq rs) (fun i σ H4=>∃g,σ=[some (.ref ra),some (.str a),some (.ref fo),some (.ref tk),some (.int q),g]/\ah H H4/\H4 fo=some (.lst ((fnd a ((rs.take i).foldl (stp a x) (bfs rs a q))).map V.str))/\H4 tk=some (.lst (aq ((rs.take i).foldl (stp a x) (bfs rs a q)))))
    ⟨_,rfl,s3,f3,t3⟩ (fun i σ H4 _ p=>by obtain⟨_,_,s4,_⟩:=p;exact SqT.of (s4 _ _ hra)) ?_ ?_⟩
   ·rintro i y σ H4 hy ⟨g,rfl,s4,f4,t4⟩
    obtain⟨r,hri,rfl⟩:=ck hy
    have hil:i < rs.length:=(List.getElem?_eq_some_iff.mp hri).1
    have hrr:=s4 _ _ (hrows.e r (List.mem_of_getElem? hri))
    obtain⟨more,em,hml⟩:=iq a x (rs.take i) (bfs rs a q)
    have hlen:((rs.take i).foldl (stp a x) (bfs rs a q)).length<=160:=by
     rw [em,List.length_append]
     have h1:(bfs rs a q).length + 1=fd.length:=by simpa using hfl
     have h2:(rs.take i).length<=60:=by rw [List.length_take];omega
     omega
    have hx4:(fnd a ((rs.take i).foldl (stp a x) (bfs rs a q)))[q]?=some x:=by
     rw [em]
     show (a::(bfs rs a q++more).map (·.2.2.2))[q]?=_
     rw [List.map_append,<- List.cons_append,List.getElem?_append_left (by
      have:=hfl;simp at this ⊢;omega)]
     exact hx
    have tf:=j2 (a:=a) (x:=x) (tk:=bfs rs a q) hri
    rw [tf]
    generalize (rs.take i).foldl (stp a x) (bfs rs a q)=tl at f4 t4 hlen hx4 ⊢
    have hxs:((fnd a tl).map V.str)[q]?=some (.str x):=by rw [List.getElem?_map,hx4];rfl
    refine⟨_,rfl,aC (j:=1) (.inr (SqT.of hrr)) rfl rfl ⟨_,rfl,_,rfl,aC (j:=q) (.inl (SqL.of f4)) rfl hxs ⟨rfl,_,rfl,?_⟩⟩⟩
    by_cases c1:r.2.2.1=x
    ·rw [decide_eq_true (show V.str r.2.2.1=V.str x by rw [c1])]
     refine aA ⟨_,rfl,aC (j:=2) (.inr (SqT.of hrr)) rfl rfl ⟨_,rfl,fo,_,rfl,.inl (SqL.of f4),rfl,cm _,_,rfl,?_⟩⟩
     rw [cn]
     by_cases c2:r.2.2.2∈fnd a tl
     ·have es:stp a x tl r=tl:=by unfold stp;rw [if_neg (fun z=>z.2 c2)]
      rw [es]
      show if (!decide (r.2.2.2∈fnd a tl))=true then _ else _
      exact de c2 ⟨_,rfl,s4,f4,t4⟩
     ·have es:stp a x tl r=tl++[r]:=by unfold stp;rw [if_pos ⟨c1,c2⟩]
      rw [es]
      show if (!decide (r.2.2.2∈fnd a tl))=true then _ else _
      refine f9 c2 ?_
      refine⟨_,rfl,.inl ⟨rfl,_,SqL.of f4⟩,_,rfl,aC (j:=2) (.inr (SqT.of hrr)) rfl rfl ⟨fo,_,_,rfl,rfl,f4,fits (by simp;omega),?_⟩⟩
      have s5:=ah.upd0 s4 (o:=.lst ((fnd a tl).map V.str++[.str r.2.2.2])) (q:=fo) hfo
      have f5:upd H4 fo (.lst ((fnd a tl).map V.str++[.str r.2.2.2])) fo=some (.lst ((fnd a (tl++[r])).map V.str)):=by rw [aj];simp
      have t5:upd H4 fo (.lst ((fnd a tl).map V.str++[.str r.2.2.2])) tk=some (.lst (aq tl)):=by rw [au nft.symm];exact t4
      generalize upd H4 fo (.lst ((fnd a tl).map V.str++[.str r.2.2.2]))=H5 at s5 f5 t5 ⊢
      refine⟨_,rfl,.inl ⟨rfl,_,SqL.of t5⟩,_,rfl,tk,_,_,rfl,rfl,t5,fits (by simp;omega),_,rfl,ah.upd0 s5 htk0,by rw [au nft];exact f5,by rw [aj];simp [aq]⟩
    ·have es:stp a x tl r=tl:=by unfold stp;rw [if_neg (fun z=>c1 z.1)]
     rw [es,decide_eq_false (fun z=>c1 (V.str.inj z))]
     exact aL (aL ⟨_,rfl,s4,f4,t4⟩)
   ·rintro σ H4 ⟨g,rfl,s4,f4,t4⟩
    have et:rs.take (aq rs).length=rs:=take_all rs (by simp)
    rw [et,<- eb] at f4 t4
    exact⟨_,rfl,_,_,rfl,rfl,_,by omega,q + 1,fd',_,rfl,rfl,B',s4,f4,t4⟩
  ·have hge:fd.length<=q:=by
    have:=of_decide_eq_false (Bool.eq_false_iff.mpr c)
    rw [List.length_map,hfl] at this
    omega
   have e1:bfs rs a q=first rs a:=kX (by have:=hfl;simp at this;omega) (by omega)
   have Fu:=Bq.full hge
   rw [e1] at t3 Fu
   exact⟨_,rfl,k tk H3 s3 htk0 t3 Fu⟩
end
theorem lr {α:Type} (p:α->Bool):∀(l:List α),(l.filter p)[0]?=l.find? p
 | []=>rfl
 | x::l=>by
  by_cases h:p x=true
  ·simp [h]
  ·simp [h,lr p l]
section
variable {P:Program}{w:World}{K:PySem.W.Frag}{mg:Str->Option Value}{base:Heap}
noncomputable def ja:Sp:=fun vs H Q _=>∃(ra:Addr) (a:Str) (rs:List T) (ps:List Str),vs=[.ref ra,.str a]/\H ra=some (.tup (aq rs))/\bA H rs/\a∈ps/\(∀r∈rs,r.2.2.2∈ps)/\ps.length<=100/\rs.length<=60 /\
 ∀(q:Addr) (H':Hp),ah H H'->H q=none->H' q=some (.lst ((fnd a (first rs a)).map V.str))->cc rs a (first rs a)->Q (.ref q) H'
theorem fg {rs tk:List T}{a:Str}{ps:List Str} (F:cc rs a tk) (ha:a∈ps) (h:∀r∈rs,r.2.2.2∈ps):tk.length + 1<=ps.length:=by
 have:=fN F.nd (m:=ps) fun z hz=>by
  obtain⟨n,hd⟩:=F.mem z hz
  exact iU ha (fun r hr=>by obtain⟨t,ht,rfl⟩:=List.mem_map.mp hr;exact h t ht) hd.1
 simpa using this
theorem nj:aP ["rows","start"] ["rows","start"] (ao (top 26)):=⟨rfl,rfl,rfl,by decide +kernel,rfl,by decide +kernel,by decide +kernel⟩
theorem pE {f:Addr}{fd:FuncData} (F:Fun K "come_to" "come_to" (top 26) f fd) (F1:Fn P w K mg base 1 "first_rows" ["rows","start"] gK):ax P w K mg base CX0 2 f fd ["rows","start"] ja:=by
 refine F.ok nj (fun vs H Q E h=>?_) (fun cdv A outer s H vs Q E hr h=>?_)
 ·obtain⟨ra,a,rs,ps,rfl,_⟩:=h
  rfl
 ·obtain⟨ra,a,rs,ps,rfl,hra,hrows,haps,hps,hz,hrz,k⟩:=h
  refine⟨_,av (aI (aE ce (aN (ae (pv 1) ag)) (bC (N:=["row"]) (ix:=[none]) ⟨rfl,rfl,rfl,by decide⟩ rfl (dE (aw F1 hr (ae (pv 0) (ae (pv 1) ag)))) (fun _ _ _ _=>bp 0 (by decide) rfl rfl) (fun _ _ _ _=>bY)
   (fun _ _ _ _=>ay (bJ K) (pv 0) ai (fun _ _=>rfl))))),?_⟩
  refine⟨_,rfl,by show 1<=sizeLine;decide,fun l hl=>?_⟩
  have s1:=am (o:=.lst [.str a]) (ah.refl H) hl
  have l1:upd H l (.lst [.str a]) l=some (.lst [.str a]):=aj
  generalize upd H l (.lst [.str a])=H1 at s1 l1 ⊢
  refine⟨_,rfl,_,rfl,ra,a,rs,ps,rfl,s1 _ _ hra,hrows.same s1,haps,hps,hz,hrz,fun q H2 s2 hq2 q2 Fu=>?_⟩
  have hlen:=fg Fu haps hps
  have r2:bA H2 (first rs a):=⟨fun r hr=>s2 _ _ (s1 _ _ (hrows.e r (Fu.sub r hr)))⟩
  refine⟨q,rfl,⟨_,SqL.of q2⟩,fJ (xs:=aq (first rs a)) (fits (by simp;omega)) (fun i ys σ H3=>ys=((first rs a).take i).map (fun t=>V.str t.2.2.2)/\ah H2 H3/\∃v,σ=[v]) ⟨rfl,ah.refl _,_,rfl⟩
   (fun i ys σ H3 _ p=>⟨by rw [p.1];simp;omega,SqL.of (p.2.1 _ _ q2)⟩) ?_ ?_⟩
  ·rintro i x ys σ H3 hx ⟨rfl,s3,v,rfl⟩
   obtain⟨r,hri,rfl⟩:=ck hx
   exact⟨_,rfl,aC (j:=2) (.inr (SqT.of (s3 _ _ (r2.e r (List.mem_of_getElem? hri))))) rfl rfl ⟨(dC _ _ _ _ hri).symm,s3,_,rfl⟩⟩
  ·rintro ys σ H3 ⟨rfl,s3,v,rfl⟩ c hc
   rw [take_all (first rs a) (by simp)]
   have s4:=am (o:=.lst ((first rs a).map fun t=>V.str t.2.2.2)) s3 hc
   have c4:upd H3 c (.lst ((first rs a).map fun t=>V.str t.2.2.2)) c=some (.lst ((first rs a).map fun t=>V.str t.2.2.2)):=aj
   generalize upd H3 c (.lst ((first rs a).map fun t=>V.str t.2.2.2))=H4 at s4 c4 ⊢
   have s04:=s1.trans (s2.trans s4)
   refine⟨l,c,_,_,rfl,rfl,s4 _ _ (s2 _ _ l1),c4,Nat.le_of_lt (fits (by simp;omega)),fun p hp=>k p _ (am s04 hp) (s04.free hp) (by rw [aj];simp [List.map_map]) Fu⟩
noncomputable def lj:Sp:=fun vs H Q _=>∃(q:Addr) (x:Str) (tk:List T) (t:T),vs=[.ref q,.str x]/\H q=some (.lst (aq tk))/\bA H tk/\tk.length<=200/\tk.find? (fun t=>decide (t.2.2.2=x))=some t /\
 ∀(H':Hp),ah H H'->Q (.ref t.1) H'
theorem ut:aP ["rows","place"] ["rows","place"] (ao (top 28)):=⟨rfl,rfl,rfl,by decide +kernel,rfl,by decide +kernel,by decide +kernel⟩
theorem pU {f:Addr}{fd:FuncData} (F:Fun K "row_to" "row_to" (top 28) f fd):ax P w K mg base CX0 1 f fd ["rows","place"] lj:=by
 refine F.ok ut (fun vs H Q E h=>?_) (fun cdv A outer s H vs Q E hr h=>?_)
 ·obtain⟨q,x,tk,t,rfl,_⟩:=h
  rfl
 ·obtain⟨q,x,tk,t,rfl,hq,hrows,hz,hf,k⟩:=h
  refine⟨_,av (aI (ay aF (bC (N:=["row","place"]) (ix:=[none,some 1]) ⟨rfl,rfl,rfl,by decide⟩ rfl (dE (pv 0)) (fun _ _ _ _=>bp 0 (by decide) rfl rfl)
   (fun _ _ _ _=>dq (aM cX (ay (bJ K) (pv 0) ai (fun _ _=>rfl)) (pv 1) (aQ _))) (fun _ _ _ _=>pv 0)) ai (fun _ _=>rfl))),?_⟩
  refine⟨_,rfl,q,rfl,⟨_,SqL.of hq⟩,gv (xs:=aq tk) (fits (by simp;omega)) (fun i ys σ H3=>ys=aq ((tk.take i).filter fun t=>decide (t.2.2.2=x))/\ah H H3/\∃v,σ=[v,some (.str x)]) ⟨rfl,ah.refl _,_,rfl⟩
   (fun i ys σ H3 _ p=>⟨by rw [p.1];simp;exact Nat.le_trans (List.length_filter_le _ _) (by simp;omega),SqL.of (p.2.1 _ _ hq)⟩) ?_ ?_⟩
  ·rintro i y ys σ H3 hy ⟨rfl,s3,v,rfl⟩
   obtain⟨r,hri,rfl⟩:=ck hy
   have tf:=ic (fun t:T=>decide (t.2.2.2=x)) tk i r hri
   refine⟨_,rfl,aC (j:=2) (.inr (SqT.of (s3 _ _ (hrows.e r (List.mem_of_getElem? hri))))) rfl rfl ⟨_,rfl,rfl,_,rfl,?_⟩⟩
   have e:decide (V.str r.2.2.2=V.str x)=decide (r.2.2.2=x):=by simp
   rw [e]
   refine aS (fun c=>⟨_,rfl,?_,s3,_,rfl⟩) (fun c=>⟨?_,s3,_,rfl⟩)
   ·rw [tf,c];simp [aq]
   ·rw [tf];simp only [Bool.not_eq_true] at c;rw [c];simp
  ·rintro ys σ H3 ⟨rfl,s3,v,rfl⟩ p hp
   rw [take_all tk (by simp)]
   refine aC (j:=0) (.inl (SqL.of aj)) rfl ?_ (k _ (am s3 hp))
   show (aq (tk.filter _))[0]?=_
   unfold aq
   rw [List.getElem?_map,lr,hf]
   rfl
end
noncomputable abbrev dR (v:List T):List V:=v.map fun t=>V.str t.2.1
section
variable {P:Program}{w:World}{K:PySem.W.Frag}{mg:Str->Option Value}{base:Heap}
noncomputable def iQ:Sp:=fun vs H Q _=>∃(q:Addr) (a b:Str) (tk rs:List T) (n:Nat),vs=[.ref q,.str a,.str b]/\H q=some (.lst (aq tk))/\bA H tk/\cc rs a tk/\b∈fnd a tk/\bh (rs.map (·.2)) a n b/\n < 200/\tk.length<=200 /\
 ∀(u:Addr) (H':Hp),ah H H'->H u=none->H' u=some (.tup (dR (dh tk a b)))->Q (.ref u) H'
noncomputable abbrev N29:List Str:=["rows","root","place","way","here","name","start","end"]
theorem e8:aP N29 ["rows","root","place"] (ao (top 29)):=⟨rfl,rfl,rfl,by decide +kernel,rfl,by decide +kernel,by decide +kernel⟩
theorem oj {f:Addr}{fd:FuncData} (F:Fun K "way_along" "way_along" (top 29) f fd) (B:Bl mg) (F1:Fn P w K mg base 1 "row_to" ["rows","place"] lj):ax P w K mg base CX0 2 f fd ["rows","root","place"] iQ:=by
 refine F.ok e8 (fun vs H Q E h=>?_) (fun cdv A outer s H vs Q E hr h=>?_)
 ·obtain⟨q,a,b,tk,rs,n,rfl,_⟩:=h
  rfl
 ·obtain⟨q,a,b,tk,rs,n,rfl,hq,hrows,Fu,hb,hd,hn,hz,k⟩:=h
  refine⟨_,ak (aG (i:=3) e8.nd rfl (Or.inl rfl) (aN ag))
   (ak (aG (i:=4) e8.nd rfl (Or.inl rfl) (pv 2))
   (ak (fh PassesOwn.never (aM dI (pv 4) (pv 1) (aQ _))
    (ak (dZ (aw F1 hr (ae (pv 0) (ae (pv 4) ag))) (d9 rfl (n:=3) (bt (bv (i:=5) e8.nd rfl (Or.inl rfl)) (bt (bv (i:=6) e8.nd rfl (Or.inl rfl)) (bt (bv (i:=7) e8.nd rfl (Or.inl rfl)) dn)))))
    (ak (bj (cF PySem.F.plainAttrs_list PySem.F.slot_list_append PySem.F.type_list_append dj (pv 3) (ae (pv 5) ag)))
    (av (aG (i:=4) e8.nd rfl (Or.inl rfl) (pv 6))))))
   (av (aI (eC fG rfl B.tuple cI (ae (sG (fun o i=>[o,i]) (pv 3) (dm (dw dr ai)) (fun _ _=>by with_unfolding_all rfl)) ag)))))),?_⟩
  refine⟨Nat.zero_le _,fun wy hwy=>?_⟩
  have s1:=am (o:=.lst []) (ah.refl H) hwy
  have w1:upd H wy (.lst []) wy=some (.lst (dR []).reverse):=aj
  generalize upd H wy (.lst [])=H1 at s1 w1 ⊢
  refine⟨_,rfl,fun m σ H2=>∃(v:List T) (x:Str) (g1 g2 g3:Option V),σ=[some (.ref q),some (.str a),some (.str b),some (.ref wy),some (.str x),g1,g2,g3]/\ah H H2/\H2 wy=some (.lst (dR v).reverse)/\x∈fnd a tk/\bh (rs.map (·.2)) a m x/\m + v.length=n/\bZ tk a 200 b=bZ tk a (200 - v.length) x++v,
   ⟨n,[],b,none,none,none,rfl,s1,w1,hb,hd,rfl,by simp⟩,?_⟩
  rintro m σ H2 ⟨v,x,g1,g2,g3,rfl,s2,w2,hx,hdx,hmn,hw⟩
  refine⟨_,rfl,_,rfl,rfl,_,rfl,aS (fun c=>?_) (fun c=>?_)⟩
  ·have hne:x≠a:=fun e=>by subst e;simp at c
   have hx':x∈tk.map (·.2.2.2):=(List.mem_cons.mp hx).resolve_left hne
   obtain⟨t,ef,ht,hto⟩:=find_some hx'
   obtain⟨p1,j,p2,p3⟩:=Fu.par t ht
   have em:m=j + 1:=hdx.uniq (by rw [<- hto];exact p3)
   refine⟨fun σ' H'=>∃m',m' < m/\∃(v:List T) (x:Str) (g1 g2 g3:Option V),σ'=[some (.ref q),some (.str a),some (.str b),some (.ref wy),some (.str x),g1,g2,g3]/\ah H H'/\H' wy=some (.lst (dR v).reverse)/\x∈fnd a tk/\bh (rs.map (·.2)) a m' x/\m' + v.length=n/\bZ tk a 200 b=bZ tk a (200 - v.length) x++v,fun σ' H' q=>q,?_⟩
   refine⟨_,rfl,_,rfl,q,x,tk,t,rfl,s2 _ _ hq,hrows.same s2,hz,ef,fun H3 s3=>?_⟩
   have s03:=s2.trans s3
   have w3:=s3 _ _ w2
   have ht3:=s03 _ _ (hrows.e t ht)
   refine⟨t.1,_,rfl,SqT.of ht3,rfl,_,_,rfl,_,_,rfl,_,_,rfl,rfl,?_⟩
   refine⟨_,rfl,.inl ⟨rfl,_,SqL.of w3⟩,_,rfl,wy,_,_,rfl,rfl,w3,fits (by simp;omega),_,rfl,j,by omega,t::v,t.2.2.1,_,_,_,rfl,ah.upd0 s03 hwy,by rw [aj];simp,p1,p2,by simp;omega,?_⟩
   rw [hw]
   obtain⟨f,hf⟩:∃f,200 - v.length=f + 1:=⟨199 - v.length,by omega⟩
   have ew:bZ tk a (f + 1) x=bZ tk a f t.2.2.1++[t]:=by
    show (if x=a then _ else _)=_
    rw [if_neg hne,ef]
   rw [hf,ew,show 200 - (t::v).length=f by simp;omega]
   simp
  ·have e:x=a:=by simpa using c
   subst e
   rw [jU,List.nil_append] at hw
   refine⟨_,rfl,_,rfl,_,rfl,rfl,wy,_,rfl,SqL.of w2,fun l hl=>?_⟩
   have s4:=am (o:=.lst (dR v).reverse.reverse) s2 hl
   refine⟨l,_,rfl,.inl ⟨SqL.of aj,fun u hu=>k u _ (am s4 hu) (s4.free hu) ?_⟩⟩
   rw [aj,List.reverse_reverse,kZ,hw]
noncomputable def iO:Sp:=fun vs H Q _=>∃(ra:Addr) (a b:Str) (rs:List T) (ps:List Str),vs=[.ref ra,.str a,.str b]/\H ra=some (.tup (aq rs))/\bA H rs/\a∈ps/\(∀r∈rs,r.2.2.2∈ps)/\ps.length<=100/\rs.length<=60 /\
 ∀(H':Hp),ah H H'->cc rs a (first rs a)->(b∉fnd a (first rs a)->Q .non H')/\(b∈fnd a (first rs a)->∀u,H u=none->H' u=some (.tup (dR (dh (first rs a) a b)))->Q (.ref u) H')
theorem hV:aP ["rows","start","end","taken"] ["rows","start","end"] (ao (top 31)):=⟨rfl,rfl,rfl,by decide +kernel,rfl,by decide +kernel,by decide +kernel⟩
theorem om {f:Addr}{fd:FuncData} (F:Fun K "short_way" "short_way" (top 31) f fd) (F1:Fn P w K mg base 1 "first_rows" ["rows","start"] gK) (F2:Fn P w K mg base 2 "way_along" ["rows","root","place"] iQ):ax P w K mg base CX0 3 f fd ["rows","start","end"] iO:=by
 refine F.ok hV (fun vs H Q E h=>?_) (fun cdv A outer s H vs Q E hr h=>?_)
 ·obtain⟨ra,a,b,rs,ps,rfl,_⟩:=h
  rfl
 ·obtain⟨ra,a,b,rs,ps,rfl,hra,hrows,haps,hps,hz,hrz,k⟩:=h
  have hr1:aK 1 _:=hr.mono (by decide)
  refine⟨_,ak (aG (i:=3) hV.nd rfl (Or.inl rfl) (aw F1 hr1 (ae (pv 0) (ae (pv 1) ag))))
   (ak (bq (PW.pt (fZ (aM dI (pv 2) (pv 1) (aQ _)) (fR (aM fH (pv 2) (bC (N:=["row"]) (ix:=[none]) ⟨rfl,rfl,rfl,by decide⟩ rfl (dE (pv 3)) (fun _ _ _ _=>bp 0 (by decide) rfl rfl) (fun _ _ _ _=>bY)
    (fun _ _ _ _=>ay (bJ K) (pv 0) ai (fun _ _=>rfl))) (by with_unfolding_all rfl))))) (av (aI eV)) bc)
   (av (aI (aw F2 hr (ae (pv 3) (ae (pv 1) (ae (pv 2) ag))))))),?_⟩
  refine⟨_,rfl,_,rfl,ra,a,rs,ps,rfl,hra,hrows,haps,hps,hz,hrz,fun q H1 s1 hq0 q1 Fu=>?_⟩
  have hlen:=fg Fu haps hps
  have r1:bA H1 (first rs a):=⟨fun r hr=>s1 _ _ (hrows.e r (Fu.sub r hr))⟩
  dsimp only [bV]
  refine gf (fun σ H2=>σ=[some (.ref ra),some (.str a),some (.str b),some (.ref q)]/\ah H1 H2/\b∈fnd a (first rs a)) (fun N key=>?_) ?_
  ·refine⟨_,rfl,_,rfl,rfl,_,rfl,aS (fun c=>?_) (fun c=>aL (key _ _ ⟨rfl,ah.refl _,?_⟩))⟩
   ·have hne:b≠a:=fun e=>by subst e;simp at c
    refine⟨_,rfl,_,rfl,q,rfl,⟨_,SqL.of q1⟩,fJ (xs:=aq (first rs a)) (fits (by simp;omega)) (fun i ys σ H3=>ys=((first rs a).take i).map (fun t=>V.str t.2.2.2)/\ah H1 H3/\∃v,σ=[v]) ⟨rfl,ah.refl _,_,rfl⟩
     (fun i ys σ H3 _ p=>⟨by rw [p.1];simp;omega,SqL.of (p.2.1 _ _ q1)⟩) ?_ ?_⟩
    ·rintro i x ys σ H3 hx ⟨rfl,s3,v,rfl⟩
     obtain⟨r,hri,rfl⟩:=ck hx
     exact⟨_,rfl,aC (j:=2) (.inr (SqT.of (s3 _ _ (r1.e r (List.mem_of_getElem? hri))))) rfl rfl ⟨(dC _ _ _ _ hri).symm,s3,_,rfl⟩⟩
    ·rintro ys σ H3 ⟨rfl,s3,v,rfl⟩ c hc
     rw [take_all (first rs a) (by simp)]
     have em:((first rs a).map fun t=>V.str t.2.2.2)=((first rs a).map (·.2.2.2)).map V.str:=by rw [List.map_map];rfl
     rw [em]
     have s4:=am (o:=.lst (((first rs a).map (·.2.2.2)).map V.str)) s3 hc
     refine⟨c,_,rfl,.inl (SqL.of aj),rfl,cm _,_,rfl,?_⟩
     rw [cn]
     show if (!decide (b∈(first rs a).map (·.2.2.2)))=true then _ else _
     by_cases hm:b∈(first rs a).map (·.2.2.2)
     ·exact de hm (key _ _ ⟨rfl,s4,List.mem_cons_of_mem _ hm⟩)
     ·exact f9 hm ((k _ (s1.trans s4) Fu).1 fun z=>(List.mem_cons.mp z).elim hne hm)
   ·have e:b=a:=by simpa using c
    subst e;exact List.mem_cons_self
  ·rintro σ H2 ⟨rfl,s2,hb⟩
   obtain⟨n,hd⟩:=Fu.mem b hb
   have hnl:=iW haps (fun r hr=>by obtain⟨t,ht,rfl⟩:=List.mem_map.mp hr;exact hps t ht) hd
   refine⟨_,rfl,_,rfl,_,rfl,q,a,b,first rs a,rs,n,rfl,s2 _ _ q1,r1.same s2,Fu,hb,hd,by omega,by omega,fun u H3 s3 hu0 hu=>?_⟩
   have s03:=s1.trans (s2.trans s3)
   exact (k H3 s03 Fu).2 hb u ((s1.trans s2).free hu0) hu
noncomputable def jW:Sp:=fun vs H Q _=>∃(v pa ra:Addr) (ps:List Str) (rs:List T) (x:Str),vs=[.ref v,.str x]/\br H v pa ra ps rs/\Good ps (rs.map (·.2))/\ps.length<=60/\x∈ps /\
 ∀(ss:List Str) (q:Addr) (H':Hp),ss.Perm (fnd x (first rs x))->ss.Pairwise nlt->ah H H'->H q=none->H' q=some (.lst (ss.map V.str))->cc rs x (first rs x)->Q (.ref q) H'
theorem mW:aP ["web","root"] ["web","root"] (ao (top 33)):=⟨rfl,rfl,rfl,by decide +kernel,rfl,by decide +kernel,by decide +kernel⟩
theorem pb {f:Addr}{fd:FuncData} (F:Fun K "reached" "reached" (top 33) f fd) (B:Bl mg) (F1:Fn P w K mg base 4 "need_web" ["thing"] (dz .non)) (F2:Fn P w K mg base 2 "need_place" ["web","thing"] eA) (F3:Fn P w K mg base 2 "come_to" ["rows","start"] ja):ax P w K mg base CX0 5 f fd ["web","root"] jW:=by
 refine F.ok mW (fun vs H Q E h=>?_) (fun cdv A outer s H vs Q E hr h=>?_)
 ·obtain⟨v,pa,ra,ps,rs,x,rfl,_⟩:=h
  rfl
 ·obtain⟨v,pa,ra,ps,rs,x,rfl,W,G,hz,hx,k⟩:=h
  have hr2:aK 2 _:=hr.mono (by decide)
  refine⟨_,ak (bj (aw F1 hr (ae (pv 0) ag))) (ak (bj (aw F2 hr2 (ae (pv 0) (ae (pv 1) ag))))
   (av (aI (aB ie rfl B.sorted gF (ae (aw F3 hr2 (ae (ay aF (pv 0) ai (fun _ _=>rfl)) (ae (pv 1) ag))) ag))))),?_⟩
  refine⟨_,rfl,v,pa,ra,ps,rs,rfl,W,G,fun H1 s1=>?_⟩
  have W1:=W.same s1
  refine⟨_,rfl,_,rfl,v,pa,ra,ps,rs,x,rfl,W1,hx,?_⟩
  have hps:∀r∈rs,r.2.2.2∈ps:=fun r hr=>(G.rn r.2 (List.mem_map_of_mem hr)).2.2.1
  refine⟨_,rfl,aC (j:=1) (.inr (SqT.of W1.tp)) rfl rfl ⟨_,rfl,ra,x,rs,ps,rfl,W1.rl,⟨W1.rows⟩,hx,hps,G.pz,by have:=G.rz;simpa using this,fun q H2 s2 hq0 q2 Fu=>?_⟩⟩
  have hlen:=fg Fu hx hps
  refine⟨q,_,rfl,SqL.of q2,by simp;omega,fun ss q' hp hso hq'=>?_⟩
  have s02:=s1.trans s2
  exact k ss q' _ hp (j7 hso (hp.nodup_iff.mpr Fu.nd)) (am s02 hq') (s02.free hq') aj Fu
noncomputable def kL:Sp:=fun vs H Q _=>∃(v pa ra:Addr) (ps:List Str) (rs:List T) (a b:Str),vs=[.ref v,.str a,.str b]/\br H v pa ra ps rs/\Good ps (rs.map (·.2))/\a∈ps/\b∈ps /\
 ∀(H':Hp),ah H H'->cc rs a (first rs a)->(b∉fnd a (first rs a)->Q .non H')/\(b∈fnd a (first rs a)->∀u,H u=none->H' u=some (.tup (dR (dh (first rs a) a b)))->Q (.ref u) H')
theorem nt:aP ["web","a","b"] ["web","a","b"] (ao (top 35)):=⟨rfl,rfl,rfl,by decide +kernel,rfl,by decide +kernel,by decide +kernel⟩
theorem qm {f:Addr}{fd:FuncData} (F:Fun K "fewest" "fewest" (top 35) f fd) (F1:Fn P w K mg base 4 "need_web" ["thing"] (dz .non)) (F2:Fn P w K mg base 2 "need_place" ["web","thing"] eA) (F3:Fn P w K mg base 3 "short_way" ["rows","start","end"] iO):ax P w K mg base CX0 5 f fd ["web","a","b"] kL:=by
 refine F.ok nt (fun vs H Q E h=>?_) (fun cdv A outer s H vs Q E hr h=>?_)
 ·obtain⟨v,pa,ra,ps,rs,a,b,rfl,_⟩:=h
  rfl
 ·obtain⟨v,pa,ra,ps,rs,a,b,rfl,W,G,ha,hb,k⟩:=h
  have hr2:aK 2 _:=hr.mono (by decide)
  have hr3:aK 3 _:=hr.mono (by decide)
  refine⟨_,ak (bj (aw F1 hr (ae (pv 0) ag))) (ak (bj (aw F2 hr2 (ae (pv 0) (ae (pv 1) ag)))) (ak (bj (aw F2 hr2 (ae (pv 0) (ae (pv 2) ag))))
   (av (aI (aw F3 hr3 (ae (ay aF (pv 0) ai (fun _ _=>rfl)) (ae (pv 1) (ae (pv 2) ag)))))))),?_⟩
  refine⟨_,rfl,v,pa,ra,ps,rs,rfl,W,G,fun H1 s1=>?_⟩
  have W1:=W.same s1
  refine⟨_,rfl,_,rfl,v,pa,ra,ps,rs,a,rfl,W1,ha,_,rfl,_,rfl,v,pa,ra,ps,rs,b,rfl,W1,hb,?_⟩
  have hps:∀r∈rs,r.2.2.2∈ps:=fun r hr=>(G.rn r.2 (List.mem_map_of_mem hr)).2.2.1
  refine⟨_,rfl,aC (j:=1) (.inr (SqT.of W1.tp)) rfl rfl ⟨_,rfl,_,rfl,ra,a,b,rs,ps,rfl,W1.rl,⟨W1.rows⟩,ha,hps,G.pz,by have:=G.rz;simpa using this,fun H2 s2 Fu=>?_⟩⟩
  obtain⟨k1,k2⟩:=k H2 (s1.trans s2) Fu
  exact⟨k1,fun hm u hu0 hu=>k2 hm u (s1.free hu0) hu⟩
end
end K24
namespace L2
open PySem
section
variable {X:Cx}
noncomputable def mth (s:Stmt) (j:Nat):Stmt:=match s with
 | .ClassDef _ _ _ body _ _ _ _ _ _ _=>body.getD j (.Pass ⟨0,0,0,0⟩)
 | _=>.Pass ⟨0,0,0,0⟩
noncomputable def lS (C:Addr):Sp:=fun vs H Q _=>∃(e:Addr) (v:V),vs=[.ref e,v]/\H e=some (dO e C none)/\∀dx,H dx=none->dx≠e->Q .non (upd (upd H e (dO e C (some dx))) dx (.xd [(Str.ofString "lot",v)]))
end
end L2
namespace K24
open PySem L2
noncomputable def beyond (ps:List Str) (rs:List T) (a:Str):List Str:=ps.filter fun p=>!decide (p∈fnd a (first rs a))
section
variable {P:Program}{w:World}{K:PySem.W.Frag}{mg:Str->Option Value}{base:Heap}
theorem scI:aP ["self","lot"] ["self","lot"] (ao (mth (top 12) 0)):=⟨rfl,rfl,rfl,by decide +kernel,rfl,by decide +kernel,by decide +kernel⟩
theorem rB {f C:Addr}{fd:FuncData} (F:Fun K "__init__" "TooFew.__init__" (mth (top 12) 0) f fd) (hC:fE eK base C f):ax P w K mg base CX0 1 f fd ["self","lot"] (lS C):=by
 refine F.ok scI (fun vs H Q E h=>?_) (fun cdv A outer s H vs Q E hr h=>?_)
 ·obtain⟨e,v,rfl,_⟩:=h
  rfl
 ·obtain⟨e,v,rfl,he,k⟩:=h
  refine⟨_,av (sm (n:=Str.ofString "lot") hC (by decide) (by decide) (by decide) (pv 0) (pv 1)),?_⟩
  exact⟨_,rfl,_,rfl,e,rfl,he,fun dx h1 h2=>k dx h1 h2⟩
noncomputable def iH:Sp:=fun vs H Q _=>∃(v pa ra q:Addr) (ps:List Str) (rs:List T) (fs:List Str),vs=[.ref v,.ref q]/\br H v pa ra ps rs/\ps.length<=100/\H q=some (.lst (fs.map V.str)) /\
 ∀(u:Addr) (H':Hp),ah H H'->H u=none->H' u=some (.tup ((ps.filter fun p=>!decide (p∈fs)).map V.str))->Q (.ref u) H'
theorem uG:aP ["web","found"] ["web","found"] (ao (top 32)):=⟨rfl,rfl,rfl,by decide +kernel,rfl,by decide +kernel,by decide +kernel⟩
theorem p6 {f:Addr}{fd:FuncData} (F:Fun K "places_beyond" "places_beyond" (top 32) f fd) (B:Bl mg):ax P w K mg base CX0 1 f fd ["web","found"] iH:=by
 refine F.ok uG (fun vs H Q E h=>?_) (fun cdv A outer s H vs Q E hr h=>?_)
 ·obtain⟨v,pa,ra,q,ps,rs,fs,rfl,_⟩:=h
  rfl
 ·obtain⟨v,pa,ra,q,ps,rs,fs,rfl,W,hz,hq,k⟩:=h
  refine⟨_,av (aI (eC fG rfl B.tuple cI (ae (bC (N:=["place","found"]) (ix:=[none,some 1]) ⟨rfl,rfl,rfl,by decide⟩ rfl (cK (ay aF (pv 0) ai (fun _ _=>rfl))) (fun _ _ _ _=>bp 0 (by decide) rfl rfl)
   (fun _ _ _ _=>dq (aM (fc K) (pv 0) (pv 1) (by with_unfolding_all rfl))) (fun _ _ _ _=>pv 0)) ag))),?_⟩
  refine⟨_,rfl,aC (j:=0) (.inr (SqT.of W.tp)) rfl rfl ⟨pa,rfl,⟨_,SqT.of W.pl⟩,fP (xs:=ps.map V.str) (fits (by simp;omega)) (fun i ys σ H3=>ys=((ps.take i).filter fun p=>!decide (p∈fs)).map V.str/\ah H H3/\∃x,σ=[x,some (.ref q)]) ⟨rfl,ah.refl _,_,rfl⟩
   (fun i ys σ H3 _ p=>⟨by rw [p.1];simp;exact Nat.le_trans (List.length_filter_le _ _) (by simp;omega),SqT.of (p.2.1 _ _ W.pl)⟩) ?_ ?_⟩⟩
  ·rintro i y ys σ H3 hy ⟨rfl,s3,x,rfl⟩
   rw [List.getElem?_map] at hy
   cases hc:ps[i]? with
   | none=>rw [hc] at hy;cases hy
   | some p =>
    rw [hc] at hy
    cases hy
    have tf:=ic (fun p:Str=>!decide (p∈fs)) ps i p hc
    refine⟨_,rfl,_,rfl,q,_,rfl,.inl (SqL.of (s3 _ _ hq)),rfl,cm _,_,rfl,?_⟩
    rw [cn]
    show if (!decide (p∈fs))=true then _ else _
    refine aS (fun c=>⟨_,rfl,?_,s3,_,rfl⟩) (fun c=>⟨?_,s3,_,rfl⟩)
    ·rw [tf,c];simp
    ·rw [tf];simp only [Bool.not_eq_true] at c;rw [c];simp
  ·rintro ys σ H3 ⟨rfl,s3,x,rfl⟩ l hl
   rw [take_all ps (by simp)]
   refine⟨l,_,rfl,.inl ⟨SqL.of aj,fun u hu=>?_⟩⟩
   have s4:=am (o:=.lst ((ps.filter fun p=>!decide (p∈fs)).map V.str)) s3 hl
   exact k u _ (am s4 hu) (s4.free hu) aj
noncomputable def nK (C:Addr):Sp:=fun vs H Q E=>∃(v pa ra:Addr) (ps:List Str) (rs:List T) (x:Str),vs=[.ref v,.str x]/\br H v pa ra ps rs/\Good ps (rs.map (·.2))/\ps.length<=60/\x∈ps /\
 ∀(H':Hp),ah H H'->cc rs x (first rs x) ->
  (beyond ps rs x=[]->∀(ss:List Str) (u:Addr),ss.Perm ((first rs x).map (·.2.1))->PyProof.Rows.sortedS ss=true->H u=none->H' u=some (.tup (ss.map V.str))->Q (.ref u) H') /\
  (beyond ps rs x≠[]->∀(dx u:Addr),H' dx=some (.xd [(Str.ofString "lot",.ref u)])->H' u=some (.tup ((beyond ps rs x).map V.str))->E (.ref C) (some dx) H')
theorem jw:aP ["web","root","lot"] ["web","root"] (ao (top 34)):=⟨rfl,rfl,rfl,by decide +kernel,rfl,by decide +kernel,by decide +kernel⟩
theorem n5 {f C fI:Addr}{fd fdI:FuncData} (F:Fun K "first_tree" "first_tree" (top 34) f fd) (B:Bl mg) (hx:mg "TooFew"=some (.ref C)) (hC:fE eK base C fI) (FI:ax P w K mg base CX0 1 fI fdI ["self","lot"] (lS C)) (bI:Binds K fdI ["self","lot"] [])
  (F1:Fn P w K mg base 4 "need_web" ["thing"] (dz .non)) (F2:Fn P w K mg base 2 "need_place" ["web","thing"] eA) (F3:Fn P w K mg base 2 "come_to" ["rows","start"] ja) (F4:Fn P w K mg base 1 "places_beyond" ["web","found"] iH) (F5:Fn P w K mg base 1 "first_rows" ["rows","start"] gK) :
  ax P w K mg base (CXE P w) 5 f fd ["web","root"] (nK C):=by
 refine F.okX jw (fun vs H Q E h=>?_) (fun cdv A outer s H vs Q E hr h=>?_)
 ·obtain⟨v,pa,ra,ps,rs,x,rfl,_⟩:=h
  rfl
 ·obtain⟨v,pa,ra,ps,rs,x,rfl,W,G,hz,hxp,k⟩:=h
  have hr1:aK 1 _:=hr.mono (by decide)
  have hr2:aK 2 _:=hr.mono (by decide)
  refine⟨_,ak (bj (aw F1 hr (ae (pv 0) ag))) (ak (bj (aw F2 hr2 (ae (pv 0) (ae (pv 1) ag))))
   (ak (aG (i:=2) jw.nd rfl (Or.inl rfl) (aw F4 hr1 (ae (pv 0) (ae (aw F3 hr2 (ae (ay aF (pv 0) ai (fun _ _=>rfl)) (ae (pv 1) ag))) ag))))
   (ak (bq (aM f6 (aB bD rfl B.len PySem.boot_len (ae (pv 2) ag)) ai (aQ _)) (av (pO (W:=E) hx hC FI hr2 bI hr.hd (ae (pv 2) ag) (fun pins σ H s ea oe vs a0 I h1 h2 h3 h4 h5 h6 hW=>lY I h1 h2 h3 h4 h5 h6 hW) rfl)) bc)
   (av (aI (eC fG rfl B.tuple cI (ae (aB ie rfl B.sorted gF (ae (PE.nox (bC (N:=["row"]) (ix:=[none]) ⟨rfl,rfl,rfl,by decide⟩ rfl (dE (aw F5 hr1 (ae (ay aF (pv 0) ai (fun _ _=>rfl)) (ae (pv 1) ag)))) (fun _ _ _ _=>bp 0 (by decide) rfl rfl) (fun _ _ _ _=>bY)
    (fun _ _ _ _=>ay (bJ K) (pv 0) ai (fun _ _=>rfl)))) ag)) ag))))))),?_⟩
  refine⟨_,rfl,v,pa,ra,ps,rs,rfl,W,G,fun H1 s1=>?_⟩
  have W1:=W.same s1
  refine⟨_,rfl,_,rfl,v,pa,ra,ps,rs,x,rfl,W1,hxp,?_⟩
  have hps:∀r∈rs,r.2.2.2∈ps:=fun r hr=>(G.rn r.2 (List.mem_map_of_mem hr)).2.2.1
  have hrz:rs.length<=60:=by have:=G.rz;simpa using this
  refine⟨_,rfl,_,rfl,aC (j:=1) (.inr (SqT.of W1.tp)) rfl rfl ⟨_,rfl,ra,x,rs,ps,rfl,W1.rl,⟨W1.rows⟩,hxp,hps,G.pz,hrz,fun q H2 s2 hq0 q2 Fu=>?_⟩⟩
  have W2:=W1.same s2
  refine⟨v,pa,ra,q,ps,rs,_,rfl,W2,G.pz,q2,fun u H3 s3 hu0 u3=>?_⟩
  have hlen:=fg Fu hxp hps
  have s03:=s1.trans (s2.trans s3)
  have W3:=W.same s03
  have eb:(ps.filter fun p=>!decide (p∈fnd x (first rs x)))=beyond ps rs x:=rfl
  rw [eb] at u3
  refine⟨_,rfl,u,_,rfl,.inr (SqT.of u3),_,_,rfl,rfl,_,rfl,aS (fun c=>?_) (fun c=>?_)⟩
  ·have hne:beyond ps rs x≠[]:=fun z=>by
    rw [z] at c;simp at c
   refine⟨_,rfl,by show 1<=sizeLine;decide,fun e he=>⟨e,.ref u,rfl,aj,fun dx h1 h2=>⟨rfl,some dx,?_,?_⟩⟩⟩
   ·rw [au h2.symm,aj]
   ·have hdx3:H3 dx=none:=by rw [au h2] at h1;exact h1
    have nu:u≠e:=aZ u3 he
    have ndu:u≠dx:=aZ u3 hdx3
    refine (k _ (fun b o eb=>?_) Fu).2 hne dx u ?_ ?_
    ·have b3:=s03 b o eb
     have n1:b≠e:=aZ b3 he
     have n2:b≠dx:=aZ b3 hdx3
     rw [dH n1,au n2,au n1,au n1]
     exact b3
    ·rw [dH h2,aj]
    ·rw [dH nu,au ndu,au nu,au nu]
     exact u3
  ·have hemp:beyond ps rs x=[]:=by
    cases hb:beyond ps rs x with
    | nil=>rfl
    | cons y r=>rw [hb] at c;simp at c
   refine⟨_,rfl,aC (j:=1) (.inr (SqT.of W3.tp)) rfl rfl ⟨_,rfl,ra,x,rs,ps,rfl,W3.rl,⟨W3.rows⟩,hxp,hps,G.pz,hrz,fun q' H4 s4 hq0' q4 _=>?_⟩⟩
   have r4:bA H4 (first rs x):=⟨fun r hr=>s4 _ _ (W3.rows r (Fu.sub r hr))⟩
   refine⟨q',rfl,⟨_,SqL.of q4⟩,fJ (xs:=aq (first rs x)) (fits (by simp;omega)) (fun i ys σ H5=>ys=((first rs x).take i).map (fun t=>V.str t.2.1)/\ah H4 H5/\∃v,σ=[v]) ⟨rfl,ah.refl _,_,rfl⟩
    (fun i ys σ H5 _ p=>⟨by rw [p.1];simp;omega,SqL.of (p.2.1 _ _ q4)⟩) ?_ ?_⟩
   ·rintro i y ys σ H5 hy ⟨rfl,s5,g,rfl⟩
    obtain⟨r,hri,rfl⟩:=ck hy
    exact⟨_,rfl,aC (j:=0) (.inr (SqT.of (s5 _ _ (r4.e r (List.mem_of_getElem? hri))))) rfl rfl ⟨(dC _ _ _ _ hri).symm,s5,_,rfl⟩⟩
   ·rintro ys σ H5 ⟨rfl,s5,g,rfl⟩ c hc
    rw [take_all (first rs x) (by simp)]
    have em:((first rs x).map fun t=>V.str t.2.1)=((first rs x).map (·.2.1)).map V.str:=by rw [List.map_map];rfl
    rw [em]
    have s6:=am (o:=.lst (((first rs x).map (·.2.1)).map V.str)) s5 hc
    have c6:upd H5 c (.lst (((first rs x).map (·.2.1)).map V.str)) c=some (.lst (((first rs x).map (·.2.1)).map V.str)):=aj
    generalize upd H5 c (.lst (((first rs x).map (·.2.1)).map V.str))=H6 at s6 c6 ⊢
    refine⟨c,_,rfl,SqL.of c6,by simp;omega,fun ss l hp hso hl=>?_⟩
    have s7:=am (o:=.lst (ss.map V.str)) (s03.trans (s4.trans s6)) hl
    refine⟨l,_,rfl,.inl ⟨SqL.of aj,fun u' hu'=>?_⟩⟩
    exact (k _ (am s7 hu') Fu).1 hemp ss u' hp hso (s7.free hu') aj
end
theorem gW {c A B:Prop} [Decidable c] (hc:¬ c) (h:A):if (!decide c)=true then A else B:=by
 rw [decide_eq_false hc];exact aA h
noncomputable def okS (s:Str):Prop:=s.length<=100/\s.cps.all (· < 128)=true
inductive Dok:PyData->Prop
 | non:Dok .none
 | bl (b:Bool):Dok (.bool b)
 | int (i:Int):Dok (.int i)
 | str (s:Str) (h:okS s):Dok (.str s)
 | tup (ds:List PyData) (hl:ds.length<=60) (h:∀d∈ds,Dok d):Dok (.tuple ds)
 | lst (ds:List PyData) (hl:ds.length<=60) (h:∀d∈ds,Dok d) (hn:∀i j,ds≠[.int i,.int j]):Dok (.list ds)
mutual
theorem DV.same {H H':Hp} (s:ah H H'):∀{x:V}{d:PyData},DV H x d->DV H' x d
 | _,_,.non=>.non
 | _,_,.bl b=>.bl b
 | _,_,.int i=>.int i
 | _,_,.str x=>.str x
 | _,_,.tup e q=>.tup (s _ _ e) (DVs.same s q)
 | _,_,.lst e q=>.lst (s _ _ e) (DVs.same s q)
theorem DVs.same {H H':Hp} (s:ah H H'):∀{xs:List V}{ds:List PyData},DVs H xs ds->DVs H' xs ds
 | _,_,.nil=>.nil
 | _,_,.cons a b=>.cons (DV.same s a) (DVs.same s b)
end
theorem DVs.len {H:Hp}:∀{xs:List V}{ds:List PyData},DVs H xs ds->xs.length=ds.length
 | _,_,.nil=>rfl
 | _,_,.cons _ b=>by rw [List.length_cons,List.length_cons,DVs.len b]
theorem DVs.at {H:Hp}:∀{xs:List V}{ds:List PyData},DVs H xs ds->∀{i:Nat}{x:V},xs[i]?=some x->∃d,ds[i]?=some d/\DV H x d
 | _,_,.nil,i,x,h=>by simp at h
 | _,_,.cons a b,0,x,h=>by cases h;exact⟨_,rfl,a⟩
 | _,_,.cons a b,i + 1,x,h=>DVs.at b (i:=i) (by simpa using h)
theorem DVs.txt {H:Hp}:∀{xs:List V}{ss:List Str},DVs H xs (ss.map PyData.str)->xs=ss.map V.str
 | _,[],.nil=>rfl
 | _,s::r,.cons a b=>by cases a;rw [DVs.txt b];rfl
noncomputable def az (c:Nat):Bool:=decide (97<=c) && decide (c<=122)
noncomputable def dY (s:Str):Bool:=decide (1<=s.length) && decide (s.length<=8) && s.cps.toList.all az
theorem oP {s:Str}:dY s=true ↔ be s:=by
 unfold dY az
 constructor
 ·intro h
  simp only [Bool.and_eq_true,decide_eq_true_eq,List.all_eq_true] at h
  exact⟨h.1.1,h.1.2,h.2⟩
 ·intro h
  simp only [Bool.and_eq_true,decide_eq_true_eq,List.all_eq_true]
  exact⟨⟨h.lo,h.hi⟩,h.az⟩
noncomputable def bx:PyData->Bool
 | .str s=>dY s
 | _=>false
theorem ki {d:PyData} (h:bx d=true):∃s,d=.str s/\be s:=by
 cases d with
 | str s=>exact⟨s,rfl,oP.mp h⟩
 | _=>cases h
theorem kn {ds:List PyData}:ds.all bx=true->∃ss:List Str,ds=ss.map PyData.str/\∀x∈ss,be x:=by
 induction ds with
 | nil=>intro _;exact⟨[],rfl,by simp⟩
 | cons d r ih =>
  intro h
  rw [List.all_cons,Bool.and_eq_true] at h
  obtain⟨s,rfl,hs⟩:=ki h.1
  obtain⟨ss,rfl,hss⟩:=ih h.2
  exact⟨s::ss,rfl,fun x hx=>by
   rcases List.mem_cons.mp hx with e | e
   ·rw [e];exact hs
   ·exact hss x e⟩
section
variable {P:Program}{w:World}{K:PySem.W.Frag}{mg:Str->Option Value}{base:Heap}
noncomputable def iK:Sp:=fun vs H Q _=>∃(x:V) (d:PyData),vs=[x]/\DV H x d/\Dok d/\∀H',ah H H'->Q (.bl (bx d)) H'
theorem qL {f:Addr}{fd:FuncData} (F:Fun K "is_name" "is_name" (top 15) f fd) (B:Bl mg):ax P w K mg base CX0 1 f fd ["thing"] iK:=by
 refine F.ok mV (fun vs H Q E h=>?_) (fun cdv A outer s H vs Q E hr h=>?_)
 ·obtain⟨x,d,rfl,_⟩:=h
  rfl
 ·obtain⟨x,d,rfl,hx,hd,k⟩:=h
  obtain⟨tl,hl⟩:=B.lng
  refine⟨_,ak (bq (PW.pt (df (bN (bO (aB (cG (T:="str")) rfl B.isinstance bz (ae (pv 0) (ae (cA (v:=.ty "str") rfl B.str f7 rfl) ag)))))
    (dF (bN (kJ gY gY ai (aB jF rfl B.len PySem.boot_len (ae (pv 0) ag)) (cJ (v:=.int 8) rfl hl ⟨_,rfl⟩)))))) (av (aI cZ)) bc)
   (av (aI (aB (eB rfl) rfl B.all eI (ae (bC (N:=["letter"]) (ix:=[none]) ⟨rfl,rfl,rfl,by decide⟩ rfl (mF (pv 0)) (fun _ _ _ _=>bp 0 (by decide) rfl rfl) (fun _ _ _ _=>bY)
    (fun _ _ _ _=>ku gu gu bF (pv 0) bF)) ag)))),?_⟩
  have kF:bx d=false->Q (.bl false) H:=fun e=>by have:=k H (ah.refl _);rw [e] at this;exact this
  cases hx with
  | non=>exact⟨_,rfl,_,_,false,rfl,.non,rfl,false,rfl,aA (aA (kF rfl))⟩
  | int i=>exact⟨_,rfl,_,_,false,rfl,.int i,rfl,false,rfl,aA (aA (kF rfl))⟩
  | bl b=>exact⟨_,rfl,_,_,false,rfl,.bl b,rfl,false,rfl,aA (aA (kF rfl))⟩
  | tup e _=>exact⟨_,rfl,_,_,false,rfl,.tup e,rfl,false,rfl,aA (aA (kF rfl))⟩
  | lst e _=>exact⟨_,rfl,_,_,false,rfl,.lst e,rfl,false,rfl,aA (aA (kF rfl))⟩
  | str x =>
   obtain⟨hx1,hx2⟩:okS x:=by cases hd with | str _ h=>exact h
   refine⟨_,rfl,_,_,true,rfl,.str x,?kit,true,rfl,aL ?_⟩
   case kit=>rfl
   refine⟨_,rfl,x,rfl,Nat.le_of_lt (fits (by omega)),_,_,rfl,rfl,_,rfl,?_⟩
   by_cases c1:1<=x.length
   ·refine ib (by omega) ⟨_,_,rfl,rfl,_,rfl,?_⟩
    by_cases c2:x.length<=8
    ·refine de (by omega) ?_
     refine⟨_,rfl,x,rfl,hx2,kC (fits (by omega)) (fun i ys σ H1=>ys=(x.cps.toList.take i).map (fun c=>V.bl (az c))/\ah H H1/\∃v,σ=[v]) ⟨rfl,ah.refl _,_,rfl⟩ (fun i ys σ H1 hi q=>by rw [q.1];simp;omega) ?_ ?_⟩
     ·rintro i c ys σ H1 hc ⟨rfl,hs,v,rfl⟩
      have hc':x.cps.toList[i]?=some c:=by simpa using hc
      have en:(x.cps.toList.take (i + 1)).map (fun c=>V.bl (az c))=(x.cps.toList.take i).map (fun c=>V.bl (az c))++[V.bl (az c)]:=(dC _ _ _ _ hc')
      refine⟨_,rfl,_,_,rfl,rfl,_,rfl,?_⟩
      show if (!decide ([c] < [97]))=true then _ else _
      by_cases d1:97<=c
      ·refine gW (by rw [lt1];omega) ⟨_,_,rfl,rfl,?_,hs,_,rfl⟩
       show _++[V.bl (!decide ([122] < [c]))]=_
       rw [en]
       have:(!decide ([122] < [c]))=az c:=by
        unfold az
        rw [decide_eq_true d1]
        by_cases d2:c<=122
        ·rw [decide_eq_false (by rw [lt1];omega),decide_eq_true d2];rfl
        ·rw [decide_eq_true (by rw [lt1];omega),decide_eq_false d2];rfl
       rw [this]
      ·refine de (by rw [lt1];omega) ⟨?_,hs,_,rfl⟩
       rw [en]
       have:az c=false:=by unfold az;rw [decide_eq_false d1];rfl
       rw [this]
     ·rintro ys σ H1 ⟨rfl,hs,v,rfl⟩ p hp
      have ea:(x.cps.toList.take x.length).map (fun c=>V.bl (az c))=(x.cps.toList.map az).map V.bl:=by
       rw [List.take_of_length_le (by simp [Str.length]),List.map_map];rfl
      rw [ea]
      refine⟨p,x.cps.toList.map az,rfl,SqL.of aj,?_⟩
      have e:(x.cps.toList.map az).all id=dY x:=by
       unfold dY
       rw [decide_eq_true c1,decide_eq_true c2,List.all_map];rfl
      rw [e]
      exact k _ (am hs hp)
    ·refine gW (by omega) ?_
     have e:dY x=false:=by unfold dY;rw [decide_eq_false c2];simp
     exact kF e
   ·refine jo (by omega) ?_
    have e:dY x=false:=by unfold dY;rw [decide_eq_false c1];rfl
    exact⟨_,rfl,aA (kF e)⟩
end
theorem ax.or {P:Program}{w:World}{K:PySem.W.Frag}{mg:Str->Option Value}{base:Heap}{CX:CXT}{k:Nat}{f:Addr}{fd:FuncData}{ps:List Str}{sp sp':Sp} (F:ax P w K mg base CX k f fd ps sp) (G:ax P w K mg base CX k f fd ps sp') :
  ax P w K mg base CX k f fd ps (fun vs H Q E=>sp vs H Q E\/sp' vs H Q E) :=
 ⟨fun vs H Q E h=>h.elim (F.len vs H Q E) (G.len vs H Q E),fun A outer s H args us vs Q E hr he hb hv hs=>hs.elim (F.run A outer s H args us vs Q E hr he hb hv) (G.run A outer s H args us vs Q E hr he hb hv)⟩
theorem tM {ss:List Str} (h:∀i (hi:i + 1 < ss.length),nlt ss[i] ss[i + 1]):ss.Pairwise nlt:=by
 rw [List.pairwise_iff_getElem]
 have key:∀(k i:Nat) (hk:i + k + 1 < ss.length),nlt ss[i] (ss[i + k + 1]'hk):=by
  intro k
  induction k with
  | zero=>intro i hk;exact h i hk
  | succ k ih =>
   intro i hk
   have h1:=ih i (by omega)
   have h2:=h (i + k + 1) (by omega)
   exact List.lt_trans h1 h2
 intro i j hi hj hij
 have:=key (j - i - 1) i (by omega)
 have e:i + (j - i - 1) + 1=j:=by omega
 simpa [e] using this
section
variable {P:Program}{w:World}{K:PySem.W.Frag}{mg:Str->Option Value}{base:Heap}
noncomputable def p4 (K:PySem.W.Frag):Sp:=fun vs H Q _=>∃(p:Addr) (ss:List Str),vs=[.ref p]/\Sq K H p (ss.map V.str)/\¬ ss.Pairwise nlt/\ss.length<=1000/\∀H',ah H H'->Q (.bl false) H'
theorem nZ {f:Addr}{fd:FuncData} (F:Fun K "is_rising" "is_rising" (top 16) f fd) (B:Bl mg):ax P w K mg base CX0 1 f fd ["names"] (p4 K):=by
 refine F.ok nO (fun vs H Q E h=>?_) (fun cdv A outer s H vs Q E hr h=>?_)
 ·obtain⟨p,ss,rfl,_⟩:=h
  rfl
 ·obtain⟨p,ss,rfl,hq,hp,hz,k⟩:=h
  refine⟨_,av (aI (aB (eB rfl) rfl B.all eI (ae (bC (N:=["at","names"]) (ix:=[none,some 0]) ⟨rfl,rfl,rfl,by decide⟩ rfl
   (jY rfl B.range (ae ai (ae (aB bD rfl B.len PySem.boot_len (ae (pv 0) ag)) ag))) (fun _ _ _ _=>bp 0 (by decide) rfl rfl) (fun _ _ _ _=>bY)
   (fun _ _ _ _=>cV kg (ay (bJ K) (pv 1) (aE fY (pv 0) ai) (fun _ _=>rfl)) (ay (bJ K) (pv 1) (pv 0) (fun _ _=>rfl)) (aQ _))) ag))),?_⟩
  have hz':(ss.map V.str).length<=1000:=by simpa using hz
  let at':Nat->Bool:=fun j=>decide ((ss.getD j default).cps.toList < (ss.getD (j + 1) default).cps.toList)
  refine⟨_,rfl,p,ss.map V.str,rfl,hq,1,_,rfl,⟨by decide,by decide,by omega,by omega⟩,ij (fits (by omega)) (fun i ys σ H1=>ys=((List.range i).map at').map V.bl/\ah H H1/\∃v,σ=[v,some (.ref p)])
   ⟨rfl,ah.refl _,_,rfl⟩ (fun i ys σ H1 _ q=>by rw [q.1];simp) ?_ ?_⟩
  ·rintro i ys σ H1 hi ⟨rfl,hs,v,rfl⟩
   have hl:i + 1 < ss.length:=by rw [List.length_map] at hi;omega
   refine⟨_,rfl,_,rfl,_,_,rfl,rfl,aC (j:=i) (hq.same hs) (by omega) (strAt (by omega)) ⟨_,rfl,_,rfl,aC (j:=i + 1) (hq.same hs) (by push_cast;omega) (strAt hl) ⟨_,_,rfl,rfl,?_,hs,_,rfl⟩⟩⟩
   have e1:ss.getD i default=ss[i]:=by rw [List.getD_eq_getElem?_getD,List.getElem?_eq_getElem (by omega)];rfl
   have e2:ss.getD (i + 1) default=ss[i + 1]:=by rw [List.getD_eq_getElem?_getD,List.getElem?_eq_getElem hl];rfl
   show _++[V.bl (decide (ss[i].cps.toList < ss[i + 1].cps.toList))]=_
   rw [List.range_succ,List.map_append,List.map_append]
   show _=_++[V.bl (decide ((ss.getD i default).cps.toList < (ss.getD (i + 1) default).cps.toList))]
   rw [e1,e2]
  ·rintro ys σ H1 ⟨rfl,hs,v,rfl⟩ q hqn
   refine⟨q,_,rfl,SqL.of aj,?_⟩
   have e:(((List.range (((ss.map V.str).length:Int) - 1).toNat).map at').all id)=false:=by
    cases c:(((List.range (((ss.map V.str).length:Int) - 1).toNat).map at').all id) with
    | false=>rfl
    | true =>
     refine absurd (tM fun i hi=>?_) hp
     have:=List.all_eq_true.mp c (at' i) (List.mem_map.mpr ⟨i,List.mem_range.mpr (by rw [List.length_map];omega),rfl⟩)
     have h2:(ss.getD i default).cps.toList < (ss.getD (i + 1) default).cps.toList:=of_decide_eq_true this
     have e1:ss.getD i default=ss[i]:=by rw [List.getD_eq_getElem?_getD,List.getElem?_eq_getElem (by omega)];rfl
     have e2:ss.getD (i + 1) default=ss[i + 1]:=by rw [List.getD_eq_getElem?_getD,List.getElem?_eq_getElem hi];rfl
     rw [e1,e2] at h2
     exact h2
   rw [e]
   exact k _ (am hs hqn)
noncomputable def dA (ss:List Str):Bool:=@decide (ss.Pairwise nlt) (Classical.propDecidable _)
theorem my {ss:List Str}:dA ss=true ↔ ss.Pairwise nlt:=@decide_eq_true_iff _ (Classical.propDecidable _)
theorem iZ {ss:List Str} (h:¬ ss.Pairwise nlt):dA ss=false:=@decide_eq_false _ (Classical.propDecidable _) h
noncomputable def ik (K:PySem.W.Frag):Sp:=fun vs H Q _=>∃(p:Addr) (ss:List Str),vs=[.ref p]/\Sq K H p (ss.map V.str)/\ss.length<=1000/\∀H',ah H H'->Q (.bl (dA ss)) H'
theorem oY {f:Addr}{fd:FuncData} (F:Fun K "is_rising" "is_rising" (top 16) f fd) (B:Bl mg):ax P w K mg base CX0 1 f fd ["names"] (ik K) :=
 (ax.or (jE F B) (nZ F B)).imp fun vs H Q E h=>by
  obtain⟨p,ss,e,hq,hz,k⟩:=h
  by_cases c:ss.Pairwise nlt
  ·exact .inl ⟨p,ss,e,hq,c,hz,fun H' s=>by have:=k H' s;rw [my.mpr c] at this;exact this⟩
  ·exact .inr ⟨p,ss,e,hq,c,hz,fun H' s=>by have:=k H' s;rw [iZ c] at this;exact this⟩
noncomputable def dg (ds:List PyData):List Str:=ds.filterMap fun | .str s=>some s | _=>none
theorem fQ (ss:List Str):dg (ss.map PyData.str)=ss:=by
 unfold dg
 induction ss with
 | nil=>rfl
 | cons s r ih=>rw [List.map_cons,List.filterMap_cons];simp only [ih]
noncomputable def bM:PyData->Bool
 | .tuple ds=>ds.all bx && dA (dg ds)
 | _=>false
theorem pS {d:PyData} (h:bM d=true):∃ss:List Str,d=.tuple (ss.map PyData.str)/\(∀x∈ss,be x)/\ss.Pairwise nlt:=by
 cases d with
 | tuple ds =>
  unfold bM at h
  rw [Bool.and_eq_true] at h
  obtain⟨ss,rfl,hs⟩:=kn h.1
  exact⟨ss,rfl,hs,by have:=my.mp h.2;rwa [fQ] at this⟩
 | _=>cases h
noncomputable def j3:Sp:=fun vs H Q _=>∃(x:V) (d:PyData),vs=[x]/\DV H x d/\Dok d/\∀H',ah H H'->Q (.bl (bM d)) H'
theorem oR {f:Addr}{fd:FuncData} (F:Fun K "is_sorted_names" "is_sorted_names" (top 17) f fd) (B:Bl mg) (F1:Fn P w K mg base 1 "is_name" ["thing"] iK) (F2:Fn P w K mg base 1 "is_rising" ["names"] (ik K)) :
  ax P w K mg base CX0 2 f fd ["thing"] j3:=by
 refine F.ok nP (fun vs H Q E h=>?_) (fun cdv A outer s H vs Q E hr h=>?_)
 ·obtain⟨x,d,rfl,_⟩:=h
  rfl
 ·obtain⟨x,d,rfl,hx,hd,k⟩:=h
  refine⟨_,ak (bq (bN (bO (aB (cG (T:="tuple")) rfl B.isinstance bz (ae (pv 0) (ae (cA (v:=.ty "tuple") rfl B.tuple cI rfl) ag))))) (av (aI cZ)) bc)
   (av (aI (cw (aB (eB rfl) rfl B.all eI (ae (bC (N:=["name"]) (ix:=[none]) ⟨rfl,rfl,rfl,by decide⟩ rfl (cK (pv 0)) (fun _ _ _ _=>bp 0 (by decide) rfl rfl) (fun _ _ _ _=>bY)
    (fun _ _ _ _=>aw F1 hr (ae (pv 0) ag))) ag)) (du (aw F2 hr (ae (pv 0) ag)))))),?_⟩
  have kF:bM d=false->Q (.bl false) H:=fun e=>by have:=k H (ah.refl _);rw [e] at this;exact this
  cases hx with
  | non=>exact⟨_,rfl,_,_,false,rfl,.non,rfl,false,rfl,aA (kF rfl)⟩
  | int i=>exact⟨_,rfl,_,_,false,rfl,.int i,rfl,false,rfl,aA (kF rfl)⟩
  | bl b=>exact⟨_,rfl,_,_,false,rfl,.bl b,rfl,false,rfl,aA (kF rfl)⟩
  | str z=>exact⟨_,rfl,_,_,false,rfl,.str z,rfl,false,rfl,aA (kF rfl)⟩
  | lst e _=>exact⟨_,rfl,_,_,false,rfl,.lst e,rfl,false,rfl,aA (kF rfl)⟩
  | @tup p xs ds hp q =>
   obtain⟨hz,hds⟩:ds.length<=60/\∀d∈ds,Dok d:=by cases hd with | tup _ a b=>exact⟨a,b⟩
   have hxl:=DVs.len q
   refine⟨_,rfl,_,_,true,rfl,.tup hp,rfl,true,rfl,aL ?_⟩
   refine⟨_,rfl,p,rfl,⟨_,SqT.of hp⟩,fi (xs:=xs) (fits (by omega)) (fun i ys σ H1=>ys=(ds.take i).map (fun d=>V.bl (bx d))/\ah H H1/\∃v,σ=[v]) ⟨rfl,ah.refl _,_,rfl⟩
    (fun i ys σ H1 _ q=>⟨by rw [q.1];simp;omega,dU q.2.1 (SqT.of hp)⟩) ?_ ?_⟩
   ·rintro i x ys σ H1 hx ⟨rfl,hs1,v,rfl⟩
    obtain⟨d',hd',dv⟩:=DVs.at q hx
    exact⟨_,rfl,x,d',rfl,DV.same hs1 dv,hds d' (List.mem_of_getElem? hd'),fun H2 hs2=>⟨(dC _ _ _ _ hd').symm,hs1.trans hs2,_,rfl⟩⟩
   ·rintro ys σ H1 ⟨rfl,hs1,v,rfl⟩ r hr'
    have ea:(ds.take xs.length).map (fun d=>V.bl (bx d))=(ds.map bx).map V.bl:=by rw [hxl,List.take_length,List.map_map];rfl
    rw [ea]
    have hs2:=am (o:=.lst ((ds.map bx).map V.bl)) hs1 hr'
    refine⟨r,ds.map bx,rfl,SqL.of aj,_,rfl,?_⟩
    have e2:(ds.map bx).all id=ds.all bx:=by rw [List.all_map];rfl
    rw [e2]
    cases c:ds.all bx with
    | false =>
     have:=k _ hs2
     have e:bM (.tuple ds)=false:=by show (ds.all bx && _)=false;rw [c];rfl
     rw [e] at this
     exact aL this
    | true =>
     obtain⟨ss,rfl,hss⟩:=kn c
     have ex:=DVs.txt q
     subst ex
     refine aA ⟨_,rfl,p,ss,rfl,.inr (dU hs2 (SqT.of hp)),by simp at hz;omega,fun H3 hs3=>?_⟩
     have:=k _ (hs2.trans hs3)
     have e:bM (.tuple (ss.map PyData.str))=dA ss:=by show ((ss.map PyData.str).all bx && dA (dg _))=_;rw [c,fQ];rfl
     rw [e] at this
     exact this
noncomputable def cE (d:PyData) (ss:List Str):Bool:=match d with | .str s=>decide (s∈ss) | _=>false
noncomputable def kq (K:PySem.W.Frag):Sp:=fun vs H Q _=>∃(x:V) (d:PyData) (p:Addr) (ss:List Str),vs=[x,.ref p]/\DV H x d/\Sq K H p (ss.map V.str)/\Q (.bl (cE d ss)) H
theorem pK {f:Addr}{fd:FuncData} (F:Fun K "is_among" "is_among" (top 18) f fd) (B:Bl mg):ax P w K mg base CX0 1 f fd ["thing","names"] (kq K):=by
 refine F.ok jz (fun vs H Q E h=>?_) (fun cdv A outer s H vs Q E hr h=>?_)
 ·obtain⟨x,d,p,ss,rfl,_⟩:=h
  rfl
 ·obtain⟨x,d,p,ss,rfl,hx,hp,k⟩:=h
  refine⟨_,av (aI (cw (aB (cG (T:="str")) rfl B.isinstance bz (ae (pv 0) (ae (cA (v:=.ty "str") rfl B.str f7 rfl) ag)))
   (du (cV gx (pv 0) (pv 1) (by with_unfolding_all rfl))))),?_⟩
  cases hx with
  | non=>exact⟨_,rfl,_,_,false,rfl,.non,rfl,false,rfl,aL k⟩
  | int i=>exact⟨_,rfl,_,_,false,rfl,.int i,rfl,false,rfl,aL k⟩
  | bl b=>exact⟨_,rfl,_,_,false,rfl,.bl b,rfl,false,rfl,aL k⟩
  | tup e _=>exact⟨_,rfl,_,_,false,rfl,.tup e,rfl,false,rfl,aL k⟩
  | lst e _=>exact⟨_,rfl,_,_,false,rfl,.lst e,rfl,false,rfl,aL k⟩
  | str x =>
   refine⟨_,rfl,_,_,true,rfl,.str x,rfl,true,rfl,aA ⟨_,rfl,_,rfl,p,ss.map V.str,rfl,hp,rfl,cm ss,?_⟩⟩
   show Q (.bl (inV (.str x) (ss.map V.str))) H
   rw [cn]
   exact k
end
noncomputable def bE (ps:List Str):PyData->Bool
 | .tuple [a,.str s,.str t]=>bx a && (decide (s∈ps) && (decide (t∈ps) && !decide (s=t)))
 | _=>false
theorem sY {ps:List Str}{d:PyData} (h:bE ps d=true):∃n s t:Str,d=.tuple [.str n,.str s,.str t]/\be n/\s∈ps/\t∈ps/\s≠t:=by
 unfold bE at h
 split at h
 ·rename_i a s t
  simp only [Bool.and_eq_true,decide_eq_true_eq,Bool.not_eq_true',decide_eq_false_iff_not] at h
  obtain⟨n,rfl,hn⟩:=ki h.1
  exact⟨n,s,t,rfl,hn,h.2.1,h.2.2.1,h.2.2.2⟩
 ·cases h
theorem iF {ps:List Str}{ds:List PyData} (h:ds.length≠3):bE ps (.tuple ds)=false:=by
 unfold bE
 split
 ·rename_i e;cases e;exact absurd rfl h
 ·rfl
noncomputable def neD:PyData->PyData->Bool
 | .str s,.str t=>!decide (s=t)
 | _,_=>false
theorem eX {ps:List Str} (a b e:PyData):bE ps (.tuple [a,b,e])=(bx a && (cE b ps && (cE e ps && neD b e))):=by
 cases b with
 | str s =>
  cases e with
  | str t=>rfl
  | _=>show false=(bx a && (decide (s∈ps) && (false && _)));simp
 | _=>show false=(bx a && (false && _));simp
section
variable {P:Program}{w:World}{K:PySem.W.Frag}{mg:Str->Option Value}{base:Heap}
noncomputable def mi:Sp:=fun vs H Q _=>∃(x:V) (d:PyData) (q:Addr) (ps:List Str),vs=[x,.ref q]/\DV H x d/\Dok d/\H q=some (.tup (ps.map V.str))/\∀H',ah H H'->Q (.bl (bE ps d)) H'
theorem sq {f:Addr}{fd:FuncData} (F:Fun K "is_tie_row" "is_tie_row" (top 19) f fd) (B:Bl mg) (F1:Fn P w K mg base 1 "is_name" ["thing"] iK) (F2:Fn P w K mg base 1 "is_among" ["thing","names"] (kq K)) :
  ax P w K mg base CX0 2 f fd ["thing","places"] mi:=by
 refine F.ok eL (fun vs H Q E h=>?_) (fun cdv A outer s H vs Q E hr h=>?_)
 ·obtain⟨x,d,q,ps,rfl,_⟩:=h
  rfl
 ·obtain⟨x,d,q,ps,rfl,hx,hd,hq,k⟩:=h
  refine⟨_,ak (bq (PW.pt (df (bN (bO (aB (cG (T:="tuple")) rfl B.isinstance bz (ae (pv 0) (ae (cA (v:=.ty "tuple") rfl B.tuple cI rfl) ag)))))
    (dF (aM dI (aB bD rfl B.len PySem.boot_len (ae (pv 0) ag)) ai (aQ _))))) (av (aI cZ)) bc)
   (ak (dZ (pv 0) (d9 rfl (n:=3) (bt (bv (i:=2) eL.nd rfl (Or.inl rfl)) (bt (bv (i:=3) eL.nd rfl (Or.inl rfl)) (bt (bv (i:=4) eL.nd rfl (Or.inl rfl)) dn)))))
   (av (aI (cw (aw F1 hr (ae (pv 2) ag)) (cw (aw F2 hr (ae (pv 3) (ae (pv 1) ag))) (cw (aw F2 hr (ae (pv 4) (ae (pv 1) ag))) (du (cV dI (pv 3) (pv 4) (aQ _))))))))),?_⟩
  have kF:bE ps d=false->∀H',ah H H'->Q (.bl false) H':=fun e H' s=>by have:=k H' s;rw [e] at this;exact this
  cases hx with
  | non=>exact⟨_,rfl,_,_,false,rfl,.non,rfl,false,rfl,aA (aA (kF rfl H (ah.refl _)))⟩
  | int i=>exact⟨_,rfl,_,_,false,rfl,.int i,rfl,false,rfl,aA (aA (kF rfl H (ah.refl _)))⟩
  | bl b=>exact⟨_,rfl,_,_,false,rfl,.bl b,rfl,false,rfl,aA (aA (kF rfl H (ah.refl _)))⟩
  | str z=>exact⟨_,rfl,_,_,false,rfl,.str z,rfl,false,rfl,aA (aA (kF rfl H (ah.refl _)))⟩
  | lst e _=>exact⟨_,rfl,_,_,false,rfl,.lst e,rfl,false,rfl,aA (aA (kF rfl H (ah.refl _)))⟩
  | @tup p xs ds hp' qs =>
   have hxl:=DVs.len qs
   refine⟨_,rfl,_,_,true,rfl,.tup hp',rfl,true,rfl,aL ⟨_,rfl,p,_,rfl,.inr (SqT.of hp'),rfl,_,rfl,?_⟩⟩
   by_cases c:ds.length=3
   ·obtain⟨a,b,e,rfl⟩:∃a b e,ds=[a,b,e]:=by
     match ds,c with
     | [a,b,e],_=>exact⟨a,b,e,rfl⟩
    cases qs with
    | @cons x1 _ _ _ d1 r =>
     cases r with
     | @cons x2 _ _ _ d2 r =>
      cases r with
      | @cons x3 _ _ _ d3 r =>
       cases r
       obtain⟨k1,k2,k3⟩:Dok a/\Dok b/\Dok e:=by cases hd with | tup _ _ z=>exact⟨z _ (by simp),z _ (by simp),z _ (by simp)⟩
       refine de rfl ?_
       refine⟨_,rfl,p,_,rfl,SqT.of hp',rfl,_,_,rfl,_,_,rfl,_,_,rfl,rfl,?_⟩
       rw [eX] at k
       refine⟨_,rfl,x1,a,rfl,d1,k1,fun H1 s1=>⟨bx a,rfl,?_⟩⟩
       cases n1:bx a with
       | false=>rw [n1] at k;exact aL (k H1 s1)
       | true =>
        rw [n1] at k
        refine aA ⟨_,rfl,_,rfl,x2,b,q,ps,rfl,DV.same s1 d2,.inr (dU s1 (SqT.of hq)),cE b ps,rfl,?_⟩
        cases n2:cE b ps with
        | false=>rw [n2] at k;exact aL (k H1 s1)
        | true =>
         rw [n2] at k
         refine aA ⟨_,rfl,_,rfl,x3,e,q,ps,rfl,DV.same s1 d3,.inr (dU s1 (SqT.of hq)),cE e ps,rfl,?_⟩
         cases n3:cE e ps with
         | false=>rw [n3] at k;exact aL (k H1 s1)
         | true =>
          rw [n3] at k
          refine aA ?_
          cases d2 with
          | str s' =>
           cases d3 with
           | str t' =>
            refine⟨_,rfl,_,rfl,rfl,?_⟩
            have e:(!decide (V.str s'=V.str t'))=neD (PyData.str s') (PyData.str t'):=by
             show _=!decide (s'=t')
             by_cases z:s'=t'
             ·subst z;simp
             ·rw [decide_eq_false (fun w=>z (V.str.inj w)),decide_eq_false z]
            rw [e]
            exact k H1 s1
           | _=>cases n3
          | _=>cases n2
   ·refine gW (fun z=>c ?_) (kF (iF c) H (ah.refl _))
    have:=V.int.inj z
    rw [hxl] at this
    omega
end
noncomputable def bS:PyData->List PyData
 | .tuple ds=>ds
 | _=>[]
noncomputable def fq:PyData->Bool
 | .tuple _=>true
 | _=>false
noncomputable def cx:PyData->Str
 | .tuple (.str n::_)=>n
 | _=>""
noncomputable def cQ:PyData->Bool
 | .tuple [a,b]=>bM a && (!(bS a).isEmpty && (fq b && ((bS b).all (bE (dg (bS a))) && dA ((bS b).map cx))))
 | _=>false
theorem gz {ds:List PyData} (h:ds.length≠2):cQ (.tuple ds)=false:=by
 unfold cQ
 split
 ·rename_i e;cases e;exact absurd rfl h
 ·rfl
theorem tI {H:Hp}{ps:List Str}:∀{xs:List V}{ds:List PyData},DVs H xs ds->ds.all (bE ps)=true->∀{i:Nat}{x:V},xs[i]?=some x->∃(d:PyData) (a:Addr) (ys:List V),ds[i]?=some d/\x=.ref a/\H a=some (.tup (V.str (cx d)::ys)):=by
 intro xs ds q h i x hx
 obtain⟨d,hd,dv⟩:=DVs.at q hx
 obtain⟨n,s,t,rfl,hn,_⟩:=sY (List.all_eq_true.mp h d (List.mem_of_getElem? hd))
 cases dv with
 | @tup a ys _ e r =>
  cases r with
  | cons r1 r2 =>
   cases r1
   exact⟨_,a,_,hd,rfl,e⟩
section
variable {P:Program}{w:World}{K:PySem.W.Frag}{mg:Str->Option Value}{base:Heap}
noncomputable def mn:Sp:=fun vs H Q _=>(∃(x:V) (d:PyData),vs=[x]/\DV H x d/\Dok d/\∀H',ah H H'->Q (.bl (cQ d)) H')\/∃a:Addr,vs=[.ref a]/\H a=some (.dK [])/\Q (.bl false) H
theorem rP {f:Addr}{fd:FuncData} (F:Fun K "is_web" "is_web" (top 20) f fd) (B:Bl mg) (F1:Fn P w K mg base 2 "is_sorted_names" ["thing"] j3) (F2:Fn P w K mg base 2 "is_tie_row" ["thing","places"] mi)
  (F3:Fn P w K mg base 1 "is_rising" ["names"] (ik K)):ax P w K mg base CX0 3 f fd ["thing"] mn:=by
 refine F.ok fD (fun vs H Q E h=>?_) (fun cdv A outer s H vs Q E hr h=>?_)
 ·rcases h with ⟨x,d,rfl,_⟩ | ⟨a,rfl,_⟩ <;> rfl
 ·have hr1:aK 1 _:=hr.mono (by decide)
  refine⟨_,ak (bq (PW.pt (df (bN (bO (aB (cG (T:="tuple")) rfl B.isinstance bz (ae (pv 0) (ae (cA (v:=.ty "tuple") rfl B.tuple cI rfl) ag)))))
    (dF (aM dI (aB bD rfl B.len PySem.boot_len (ae (pv 0) ag)) ai (aQ _))))) (av (aI cZ)) bc)
   (ak (dZ (pv 0) (d9 rfl (n:=2) (bt (bv (i:=1) fD.nd rfl (Or.inr rfl)) (bt (bv (i:=2) fD.nd rfl (Or.inl rfl)) dn))))
   (ak (bq (PW.pt (df (bN (bO (aw F1 hr (ae (pv 1) ag)))) (df (aM cX (aB bD rfl B.len PySem.boot_len (ae (pv 1) ag)) ai (aQ _))
    (dF (bN (bO (aB (cG (T:="tuple")) rfl B.isinstance bz (ae (pv 2) (ae (cA (v:=.ty "tuple") rfl B.tuple cI rfl) ag))))))))) (av (aI cZ)) bc)
   (av (aI (cw (aB (eB rfl) rfl B.all eI (ae (bC (N:=["row","places"]) (ix:=[none,some 1]) ⟨rfl,rfl,rfl,by decide⟩ rfl (cK (pv 2)) (fun _ _ _ _=>bp 0 (by decide) rfl rfl) (fun _ _ _ _=>bY)
    (fun _ _ _ _=>aw F2 hr (ae (pv 0) (ae (pv 1) ag)))) ag))
    (du (aw F3 hr1 (ae (bC (N:=["row"]) (ix:=[none]) ⟨rfl,rfl,rfl,by decide⟩ rfl (cK (pv 2)) (fun _ _ _ _=>bp 0 (by decide) rfl rfl) (fun _ _ _ _=>bY)
     (fun _ _ _ _=>ay (bJ K) (pv 0) ai (fun _ _=>rfl))) ag)))))))),?_⟩
  rcases h with ⟨x,d,rfl,hx,hd,k⟩ | ⟨a,rfl,ha,k⟩
  rotate_left
  ·exact⟨_,rfl,_,_,false,rfl,.dK ha,rfl,false,rfl,aA (aA k)⟩
  have kF:cQ d=false->∀H',ah H H'->Q (.bl false) H':=fun e H' s=>by have:=k H' s;rw [e] at this;exact this
  cases hx with
  | non=>exact⟨_,rfl,_,_,false,rfl,.non,rfl,false,rfl,aA (aA (kF rfl H (ah.refl _)))⟩
  | int i=>exact⟨_,rfl,_,_,false,rfl,.int i,rfl,false,rfl,aA (aA (kF rfl H (ah.refl _)))⟩
  | bl b=>exact⟨_,rfl,_,_,false,rfl,.bl b,rfl,false,rfl,aA (aA (kF rfl H (ah.refl _)))⟩
  | str z=>exact⟨_,rfl,_,_,false,rfl,.str z,rfl,false,rfl,aA (aA (kF rfl H (ah.refl _)))⟩
  | lst e _=>exact⟨_,rfl,_,_,false,rfl,.lst e,rfl,false,rfl,aA (aA (kF rfl H (ah.refl _)))⟩
  | @tup v xs ds hv qs =>
   have hxl:=DVs.len qs
   refine⟨_,rfl,_,_,true,rfl,.tup hv,rfl,true,rfl,aL ⟨_,rfl,v,_,rfl,.inr (SqT.of hv),rfl,_,rfl,?_⟩⟩
   by_cases c:ds.length=2
   rotate_left
   ·refine gW (fun z=>c ?_) (kF (gz c) H (ah.refl _))
    have:=V.int.inj z
    rw [hxl] at this
    omega
   obtain⟨a,b,rfl⟩:∃a b,ds=[a,b]:=by
    match ds,c with
    | [a,b],_=>exact⟨a,b,rfl⟩
   cases qs with
   | @cons x1 _ _ _ d1 r =>
    cases r with
    | @cons x2 _ _ _ d2 r =>
     cases r
     obtain⟨ka,kb⟩:Dok a/\Dok b:=by cases hd with | tup _ _ z=>exact⟨z _ (by simp),z _ (by simp)⟩
     refine de rfl ?_
     refine⟨_,rfl,v,_,rfl,SqT.of hv,rfl,_,_,rfl,_,_,rfl,rfl,?_⟩
     have ew:cQ (.tuple [a,b])=(bM a && (!(bS a).isEmpty && (fq b && ((bS b).all (bE (dg (bS a))) && dA ((bS b).map cx))))):=rfl
     refine⟨_,rfl,x1,a,rfl,d1,ka,fun H1 s1=>⟨bM a,rfl,?_⟩⟩
     cases ca:bM a with
     | false=>exact aA (aA (kF (by rw [ew,ca];rfl) H1 s1))
     | true =>
      obtain⟨ps,rfl,pnm,pso⟩:=pS ca
      cases d1 with
      | @tup pa ys _ hpa qp =>
       have ex:=DVs.txt qp
       subst ex
       have hpz:ps.length<=60:=by cases ka with | tup _ z _=>simpa using z
       refine aL ⟨_,rfl,pa,_,rfl,.inr (SqT.of (s1 _ _ hpa)),rfl,_,rfl,?_⟩
       have et:dg (bS (.tuple (ps.map PyData.str)))=ps:=fQ ps
       cases ps with
       | nil=>exact aA (aA (kF (by rw [ew,ca];rfl) H1 s1))
       | cons p0 pr =>
        generalize hps:p0::pr=ps at *
        refine jo (fun z=>?_) ?_
        ·have z':=V.int.inj z
         rw [List.length_map,<- hps] at z'
         simp at z'
         omega
        have en:(!(bS (.tuple (ps.map PyData.str))).isEmpty)=true:=by rw [<- hps];rfl
        rw [ca,en,et] at ew
        cases d2 with
        | non=>exact⟨_,rfl,_,_,false,rfl,.non,rfl,false,rfl,aA (kF (by rw [ew];rfl) H1 s1)⟩
        | int i=>exact⟨_,rfl,_,_,false,rfl,.int i,rfl,false,rfl,aA (kF (by rw [ew];rfl) H1 s1)⟩
        | bl b=>exact⟨_,rfl,_,_,false,rfl,.bl b,rfl,false,rfl,aA (kF (by rw [ew];rfl) H1 s1)⟩
        | str z=>exact⟨_,rfl,_,_,false,rfl,.str z,rfl,false,rfl,aA (kF (by rw [ew];rfl) H1 s1)⟩
        | lst e _=>exact⟨_,rfl,_,_,false,rfl,.lst (s1 _ _ e),rfl,false,rfl,aA (kF (by rw [ew];rfl) H1 s1)⟩
        | @tup ra zs rs hra qr =>
         have hzl:=DVs.len qr
         obtain⟨hrz,hrd⟩:rs.length<=60/\∀d∈rs,Dok d:=by cases kb with | tup _ y z=>exact⟨y,z⟩
         have ew2:cQ (.tuple [.tuple (ps.map PyData.str),.tuple rs])=(rs.all (bE ps) && dA (rs.map cx)):=by rw [ew];rfl
         refine⟨_,rfl,_,_,true,rfl,.tup (s1 _ _ hra),rfl,true,rfl,aL ?_⟩
         refine⟨_,rfl,ra,rfl,⟨_,SqT.of (s1 _ _ hra)⟩,fi (xs:=zs) (fits (by omega)) (fun i ys σ H2=>ys=(rs.take i).map (fun d=>V.bl (bE ps d))/\ah H H2/\∃x,σ=[x,some (.ref pa)]) ⟨rfl,s1,_,rfl⟩
          (fun i ys σ H2 _ q=>⟨by rw [q.1];simp;omega,SqT.of (q.2.1 _ _ hra)⟩) ?_ ?_⟩
         ·rintro i x ys σ H2 hx ⟨rfl,s2,y,rfl⟩
          obtain⟨d',hd',dv⟩:=DVs.at qr hx
          exact⟨_,rfl,_,rfl,x,d',pa,ps,rfl,DV.same s2 dv,hrd d' (List.mem_of_getElem? hd'),s2 _ _ hpa,fun H3 s3=>⟨(dC _ _ _ _ hd').symm,s2.trans s3,_,rfl⟩⟩
         ·rintro ys σ H2 ⟨rfl,s2,y,rfl⟩ q hqn
          have ea:(rs.take zs.length).map (fun d=>V.bl (bE ps d))=(rs.map (bE ps)).map V.bl:=by rw [hzl,List.take_length,List.map_map];rfl
          rw [ea]
          have s3:=am (o:=.lst ((rs.map (bE ps)).map V.bl)) s2 hqn
          refine⟨q,rs.map (bE ps),rfl,SqL.of aj,_,rfl,?_⟩
          have e2:(rs.map (bE ps)).all id=rs.all (bE ps):=by rw [List.all_map];rfl
          rw [e2]
          cases cr:rs.all (bE ps) with
          | false=>exact aL (kF (by rw [ew2,cr];rfl) _ s3)
          | true =>
           rw [cr] at ew2
           refine aA ⟨_,rfl,ra,rfl,⟨_,SqT.of (s3 _ _ hra)⟩,fi (xs:=zs) (fits (by omega)) (fun i ys σ H4=>ys=(rs.take i).map (fun d=>V.str (cx d))/\ah H H4/\∃x,σ=[x]) ⟨rfl,s3,_,rfl⟩
            (fun i ys σ H4 _ q=>⟨by rw [q.1];simp;omega,SqT.of (q.2.1 _ _ hra)⟩) ?_ ?_⟩
           ·rintro i x ys σ H4 hx ⟨rfl,s4,z,rfl⟩
            obtain⟨d',a',ys',hd',rfl,ha'⟩:=tI qr cr hx
            exact⟨_,rfl,aC (j:=0) (.inr (SqT.of (s4 _ _ ha'))) rfl rfl ⟨(dC _ _ _ _ hd').symm,s4,_,rfl⟩⟩
           ·rintro ys σ H4 ⟨rfl,s4,z,rfl⟩ q2 hq2
            have eb:(rs.take zs.length).map (fun d=>V.str (cx d))=(rs.map cx).map V.str:=by rw [hzl,List.take_length,List.map_map];rfl
            rw [eb]
            refine⟨q2,rs.map cx,rfl,.inl (SqL.of aj),by simp;omega,fun H5 s5=>?_⟩
            have:=k H5 ((am s4 hq2).trans s5)
            rw [ew2] at this
            exact this
end
noncomputable abbrev cT (a b:Sp):Sp:=fun vs H Q E=>a vs H Q E\/b vs H Q E
noncomputable def aD (x:V) (H:Hp):Prop:=(∃d,DV H x d/\Dok d/\cQ d=false)\/∃a,x=.ref a/\H a=some (.dK [])
noncomputable def aY (ps:List Str) (x:V) (H:Hp):Prop:=(∃d,DV H x d/\Dok d/\cE d ps=false)\/∃a,x=.ref a/\H a=some (.dK [])
theorem aD.same {x:V}{H H':Hp} (h:aD x H) (s:ah H H'):aD x H':=by
 rcases h with ⟨d,a,b⟩ | ⟨a,e,ha⟩
 ·exact .inl ⟨d,DV.same s a,b⟩
 ·exact .inr ⟨a,e,s _ _ ha⟩
theorem aY.same {ps:List Str}{x:V}{H H':Hp} (h:aY ps x H) (s:ah H H'):aY ps x H':=by
 rcases h with ⟨d,a,b⟩ | ⟨a,e,ha⟩
 ·exact .inl ⟨d,DV.same s a,b⟩
 ·exact .inr ⟨a,e,s _ _ ha⟩
section
variable {P:Program}{w:World}{K:PySem.W.Frag}{mg:Str->Option Value}{base:Heap}
noncomputable def kz (K:PySem.W.Frag):Sp:=fun vs H Q _=>∃(x:V) (p:Addr) (ss:List Str),vs=[x,.ref p]/\aY ss x H/\Sq K H p (ss.map V.str)/\Q (.bl false) H
theorem qe {f:Addr}{fd:FuncData} (F:Fun K "is_among" "is_among" (top 18) f fd) (B:Bl mg):ax P w K mg base CX0 1 f fd ["thing","names"] (kz K):=by
 refine F.ok jz (fun vs H Q E h=>?_) (fun cdv A outer s H vs Q E hr h=>?_)
 ·obtain⟨x,p,ss,rfl,_⟩:=h
  rfl
 ·obtain⟨x,p,ss,rfl,hx,hp,k⟩:=h
  refine⟨_,av (aI (cw (aB (cG (T:="str")) rfl B.isinstance bz (ae (pv 0) (ae (cA (v:=.ty "str") rfl B.str f7 rfl) ag)))
   (du (cV gx (pv 0) (pv 1) (by with_unfolding_all rfl))))),?_⟩
  rcases hx with ⟨d,dv,_,hd⟩ | ⟨a,rfl,ha⟩
  ·cases dv with
   | non=>exact⟨_,rfl,_,_,false,rfl,.non,rfl,false,rfl,aL k⟩
   | int i=>exact⟨_,rfl,_,_,false,rfl,.int i,rfl,false,rfl,aL k⟩
   | bl b=>exact⟨_,rfl,_,_,false,rfl,.bl b,rfl,false,rfl,aL k⟩
   | tup e _=>exact⟨_,rfl,_,_,false,rfl,.tup e,rfl,false,rfl,aL k⟩
   | lst e _=>exact⟨_,rfl,_,_,false,rfl,.lst e,rfl,false,rfl,aL k⟩
   | str z =>
    refine⟨_,rfl,_,_,true,rfl,.str z,?kit,true,rfl,aA ⟨_,rfl,_,rfl,?_⟩⟩
    case kit=>rfl
    refine⟨p,_,rfl,hp,rfl,cm _,?_⟩
    have:decide (z∈ss)=false:=hd
    rw [cn,this]
    exact k
  ·exact⟨_,rfl,_,_,false,rfl,.dK ha,rfl,false,rfl,aL k⟩
noncomputable def fu (C:Addr):Sp:=fun vs H _ E=>∃x:V,vs=[x]/\aD x H/\∀H',ah H H'->E (.ref C) none H'
theorem og {f C:Addr}{fd:FuncData} (F:Fun K "need_web" "need_web" (top 22) f fd) (hx:mg "NoWeb"=some (.ref C)) (hC:eO base C) (F1:Fn P w K mg base 3 "is_web" ["thing"] mn):ax P w K mg base (CXE P w) 4 f fd ["thing"] (fu C):=by
 refine F.okX nE (fun vs H Q E h=>?_) (fun cdv A outer s H vs Q E hr h=>?_)
 ·obtain⟨x,rfl,_⟩:=h
  rfl
 ·obtain⟨x,rfl,hx',k⟩:=h
  refine⟨_,av (bq (bN (bO (aw F1 hr (ae (pv 0) ag)))) (av (iw (W:=fun H=>E (.ref C) none H) hx hC hr.hd (ae bF ag) (fun pins σ H s h' ea args I m hW=>iY I m hW))) bc),?_⟩
  rcases hx' with ⟨d,dv,hd,hw⟩ | ⟨a,rfl,ha⟩
  ·refine⟨_,rfl,.inl ⟨x,d,rfl,dv,hd,fun H1 s1=>⟨_,rfl,?_⟩⟩⟩
   rw [hw]
   exact aA ⟨by show 1<=sizeLine;decide,k H1 s1⟩
  ·exact⟨_,rfl,.inr ⟨a,rfl,ha,_,rfl,aA ⟨by show 1<=sizeLine;decide,k H (ah.refl _)⟩⟩⟩
noncomputable def fM (C:Addr):Sp:=fun vs H _ E=>∃(v pa ra:Addr) (ps:List Str) (rs:List (Addr×Row)) (x:V),vs=[.ref v,x]/\br H v pa ra ps rs/\aY ps x H/\E (.ref C) none H
theorem nU {f C:Addr}{fd:FuncData} (F:Fun K "need_place" "need_place" (top 23) f fd) (hx:mg "NoPlace"=some (.ref C)) (hC:eO base C) (F1:Fn P w K mg base 1 "is_among" ["thing","names"] (kz K)):ax P w K mg base (CXE P w) 2 f fd ["web","thing"] (fM C):=by
 refine F.okX ni (fun vs H Q E h=>?_) (fun cdv A outer s H vs Q E hr h=>?_)
 ·obtain⟨v,pa,ra,ps,rs,x,rfl,_⟩:=h
  rfl
 ·obtain⟨v,pa,ra,ps,rs,x,rfl,W,hx',k⟩:=h
  refine⟨_,av (bq (bN (bO (aw F1 hr (ae (pv 1) (ae (ay aF (pv 0) ai (fun _ _=>rfl)) ag))))) (av (iw (W:=fun H=>E (.ref C) none H) hx hC hr.hd (ae bF ag) (fun pins σ H s h' ea args I m hW=>iY I m hW))) bc),?_⟩
  exact⟨_,rfl,_,rfl,aC (j:=0) (.inr (SqT.of W.tp)) rfl rfl ⟨x,pa,ps,rfl,hx',.inr (SqT.of W.pl),_,rfl,aA ⟨by show 1<=sizeLine;decide,k⟩⟩⟩
end
theorem qw {K:PySem.W.Frag}{H:Hp}{a b:Addr}{xs ys:List V}{Q:VK} (ha:H a=some (.tup xs)) (hb:H b=some (.tup ys)) (hz:xs.length + ys.length<=sizeLine) (h:∀p H',ah H H'->H' p=some (.tup (xs++ys))->Q (.ref p) H'):jm K (.ref a) (.ref b) H Q :=
 ⟨a,b,xs,ys,rfl,rfl,SqT.of ha,SqT.of hb,hz,fun e=>h b H (ah.refl _) (by subst e;exact hb),fun e=>h a H (ah.refl _) (by subst e;rw [List.append_nil];exact ha),fun p hp=>h p _ (am (ah.refl _) hp) aj⟩
noncomputable def Yd (t:TE) (σ:St) (H:Hp) (f:V->Hp->Prop):Prop:=∀H',ah H H'->∀Q:VK,(∀x H2,ah H' H2->f x H2->Q x H2)->t σ H' Q
noncomputable def Ya (f:V->Hp->Prop) (t:TA) (σ:St) (H:Hp) (n:Nat):Prop:=∀H',ah H H'->∀Q:List V->Hp->Prop,(∀xs H2,ah H' H2->(∀x∈xs,f x H2)->xs.length=n->Q xs H2)->t σ H' Q
noncomputable abbrev Keeps (f:V->Hp->Prop):Prop:=∀x H H',f x H->ah H H'->f x H'
theorem Yd.imp {t:TE}{σ:St}{H:Hp}{f g:V->Hp->Prop} (h:Yd t σ H f) (i:∀x H',f x H'->g x H'):Yd t σ H g:=fun H' s Q k=>h H' s Q fun x H2 s2 hx=>k x H2 s2 (i x H2 hx)
theorem Yd.var {σ:St}{i:Nat}{v:V}{H:Hp}{f:V->Hp->Prop} (h:σ[i]?=some (some v)) (hf:∀H',ah H H'->f v H'):Yd (ba i) σ H f:=fun H' s Q k=>⟨v,h,k v H' (ah.refl _) (hf H' s)⟩
theorem Yd.con {σ:St}{H:Hp}{v:V}{f:V->Hp->Prop} (h:∀H',f v H'):Yd (tC v) σ H f:=fun H' s Q k=>k _ _ (ah.refl _) (h _)
theorem DVs.drop {H:Hp}:∀(n:Nat) {xs:List V}{ds:List PyData},DVs H xs ds->DVs H (xs.drop n) (ds.drop n)
 | 0,_,_,h=>h
 | n + 1,_,_,.nil=>by simpa using DVs.nil
 | n + 1,_,_,.cons a b=>by simpa using DVs.drop n b
theorem DVs.take {H:Hp}:∀(n:Nat) {xs:List V}{ds:List PyData},DVs H xs ds->DVs H (xs.take n) (ds.take n)
 | 0,_,_,h=>by simpa using DVs.nil
 | n + 1,_,_,.nil=>by simpa using DVs.nil
 | n + 1,_,_,.cons a b=>by simpa using DVs.cons a (DVs.take n b)
theorem DVs.append {H:Hp}:∀{xs ys:List V}{ds es:List PyData},DVs H xs ds->DVs H ys es->DVs H (xs++ys) (ds++es)
 | _,_,_,_,.nil,h=>h
 | _,_,_,_,.cons a b,h=>.cons a (DVs.append b h)
theorem DVs.rev {H:Hp}:∀{xs:List V}{ds:List PyData},DVs H xs ds->DVs H xs.reverse ds.reverse
 | _,_,.nil=>.nil
 | _,_,.cons a b=>by rw [List.reverse_cons,List.reverse_cons];exact DVs.append (DVs.rev b) (.cons a .nil)
theorem Ya.nil {f:V->Hp->Prop}{σ:St}{H:Hp}:Ya f bG σ H 0:=fun H' s Q k=>k _ _ (ah.refl _) (fun x hx=>(by cases hx)) rfl
theorem Ya.cons {f:V->Hp->Prop} (kf:Keeps f) {te:TE}{t:TA}{σ:St}{H:Hp}{n:Nat} (h:Yd te σ H f) (hs:Ya f t σ H n):Ya f (bK te t) σ H (n + 1):=fun H' s Q k=>h H' s _ fun x H1 s1 hx=>hs H1 (s.trans s1) _ fun xs H2 s2 hxs hl=>k _ _ (s1.trans s2) (fun y hy=>by
 rcases List.mem_cons.mp hy with e | e
 ·subst e;exact kf _ _ _ hx s2
 ·exact hxs y e) (by simp [hl])
theorem lZ {f:V->Hp->Prop} (kf:Keeps f) {t:TA}{g:TG}{u:TS}{D:Ends}{σ:St}{H:Hp}{n:Nat} (h:Ya f t σ H n) (hn:n<=900) (k:∀(p:Addr) (xs:List V) (H':Hp),ah H H'->H' p=some (.lst xs)->(∀x∈xs,f x H')->xs.length=n->H p=none->g (.ref p) σ H' (u D)):fB (fC (gk t) g) u D σ H :=
 h H (ah.refl _) _ fun xs H2 s2 hx hl=>⟨Nat.le_of_lt (fits (by omega)),fun p hp=>k p xs _ (am s2 hp) aj (fun x hm=>kf _ _ _ (hx x hm) (am (ah.refl _) hp)) hl (by
  cases hc:H p with
  | none=>rfl
  | some o=>have:=s2 _ _ hc;rw [hp] at this;cases this)⟩
theorem eH {f:V->Hp->Prop} (kf:Keeps f) {t:TA}{g:TG}{u:TS}{D:Ends}{σ:St}{H:Hp}{n i:Nat}{q:Addr}{ys:List V} (hi:σ[i]?=some (some (.ref q))) (hq:H q=some (.lst ys)) (hy:∀x∈ys,f x H) (h:Ya f t σ H n) (hn:ys.length + n<=900)
  (k:∀(p:Addr) (xs:List V) (H':Hp),ah H H'->H' p=some (.lst xs)->(∀x∈xs,f x H')->xs.length=ys.length + n->H p=none->g (.ref p) σ H' (u D)):fB (fC (tOp mY (ba i) (gk t)) g) u D σ H :=
 ⟨_,hi,h H (ah.refl _) _ fun xs H2 s2 hx hl=>⟨Nat.le_of_lt (fits (by omega)),fun p hp=>by
  have s3:=am (o:=.lst xs) s2 hp
  have h3:upd H2 p (.lst xs) p=some (.lst xs):=aj
  have x3:∀x∈xs,f x (upd H2 p (.lst xs)):=fun x hm=>kf _ _ _ (hx x hm) (am (ah.refl _) hp)
  generalize upd H2 p (.lst xs)=H3 at s3 h3 x3 ⊢
  refine⟨q,p,_,_,rfl,rfl,s3 _ _ hq,h3,Nat.le_of_lt (fits (by omega)),fun r hr=>?_⟩
  have s4:=am (o:=.lst (ys++xs)) (ah.refl H3) hr
  refine k r (ys++xs) _ (s3.trans s4) aj (fun x hm=>?_) (by simp [hl]) ?_
  ·rcases List.mem_append.mp hm with z | z
   ·exact kf _ _ _ (hy x z) (s3.trans s4)
   ·exact kf _ _ _ (x3 x z) s4
  ·cases hc:H r with
   | none=>rfl
   | some o=>have:=s3 _ _ hc;rw [hr] at this;cases this⟩⟩
theorem Pot.same {H H':Hp}{p:Addr} (h:Pot H p) (s:ah H H'):Pot H' p:=h.keep fun o e=>s _ _ e
mutual
theorem DV.kp {H H':Hp}{p:Addr} (k:Kp [p] H H') (hp:Pot H p):∀{x:V}{d:PyData},DV H x d->Dok d->DV H' x d
 | _,_,.non,_=>.non
 | _,_,.bl b,_=>.bl b
 | _,_,.int i,_=>.int i
 | _,_,.str x,_=>.str x
 | _,_,.tup (a:=a) (xs:=xs) e q,hd=>.tup (k _ _ e fun z=>by
   have z:a=p:=by simpa using z
   subst z
   obtain⟨i,j,q,_⟩:=hp
   rw [e] at q;cases q) (DVs.kp k hp q (by cases hd with | tup _ _ h=>exact h))
 | _,_,.lst (a:=a) (xs:=xs) e q,hd=>.lst (k _ _ e fun z=>by
   have z:a=p:=by simpa using z
   subst z
   obtain⟨i,j,q',_⟩:=hp
   rw [e] at q'
   cases q'
   cases hd with
   | lst _ _ _ hn =>
    cases q with
    | cons r1 r =>
     cases r with
     | cons r2 r3 =>
      cases r3
      cases r1
      cases r2
      exact hn _ _ rfl) (DVs.kp k hp q (by cases hd with | lst _ _ h _=>exact h))
theorem DVs.kp {H H':Hp}{p:Addr} (k:Kp [p] H H') (hp:Pot H p):∀{xs:List V}{ds:List PyData},DVs H xs ds->(∀d∈ds,Dok d)->DVs H' xs ds
 | _,_,.nil,_=>.nil
 | _,_,.cons a b,h=>.cons (DV.kp k hp a (h _ List.mem_cons_self)) (DVs.kp k hp b fun d hd=>h d (List.mem_cons_of_mem _ hd))
end
theorem bU {c:Const}{k:Nat}{p:Pos}{es:List Expr}{env:Env}:starEach (.Constant c k p::es) env=(false,eval (.Constant c k p) env)::starEach es env:=rfl
theorem aW {xs:List Expr}{k:Nat}{p:Pos}{es:List Expr}{env:Env}:starEach (.Tuple xs k p::es) env=(false,eval (.Tuple xs k p) env)::starEach es env:=rfl
theorem jC {xs:List Expr}{p:Pos}{es:List Expr}{env:Env}:starEach (.List xs p::es) env=(false,eval (.List xs p) env)::starEach es env:=rfl
noncomputable abbrev Dv (d:PyData) (x:V) (H:Hp):Prop:=DV H x d
noncomputable def Yas (t:TA) (σ:St) (H:Hp) (ds:List PyData):Prop:=∀H',ah H H'->∀Q:List V->Hp->Prop,(∀xs H2,ah H' H2->DVs H2 xs ds->Q xs H2)->t σ H' Q
theorem Yas.nil {σ:St}{H:Hp}:Yas bG σ H []:=fun H' s Q k=>k _ _ (ah.refl _) .nil
theorem Yas.cons {te:TE}{t:TA}{σ:St}{H:Hp}{d:PyData}{ds:List PyData} (h:Yd te σ H (Dv d)) (hs:Yas t σ H ds):Yas (bK te t) σ H (d::ds):=fun H' s Q k=>h H' s _ fun x H1 s1 hx=>hs H1 (s.trans s1) _ fun xs H2 s2 hxs=>k _ _ (s1.trans s2) (.cons (DV.same s2 hx) hxs)
theorem Yd.tupD {t:TA}{σ:St}{H:Hp}{ds:List PyData} (h:Yas t σ H ds) (hn:ds.length<=60):Yd (nh t) σ H (Dv (.tuple ds)):=fun H' s Q k=>h H' s _ fun xs H1 s1 hx=>by
 have:=DVs.len hx
 refine⟨Nat.le_of_lt (fits (by omega)),fun p hp=>?_⟩
 have s2:=am (o:=.tup xs) (ah.refl H1) hp
 exact k _ _ (s1.trans s2) (.tup aj (DVs.same s2 hx))
theorem Yd.lsD {t:TA}{σ:St}{H:Hp}{ds:List PyData} (h:Yas t σ H ds) (hn:ds.length<=60):Yd (gk t) σ H (Dv (.list ds)):=fun H' s Q k=>h H' s _ fun xs H1 s1 hx=>by
 have:=DVs.len hx
 refine⟨Nat.le_of_lt (fits (by omega)),fun p hp=>?_⟩
 have s2:=am (o:=.lst xs) (ah.refl H1) hp
 exact k _ _ (s1.trans s2) (.lst aj (DVs.same s2 hx))
theorem kN {H H':Hp}{p a:Addr} (k:Kp [p] H H') (hp:Pot H p) (h:H a=some (.dK [])):H' a=some (.dK []):=k a _ h fun z=>by
 have z:a=p:=by simpa using z
 subst z
 obtain⟨i,j,q,_⟩:=hp
 rw [h] at q;cases q
theorem aD.kp {x:V}{H H':Hp}{p:Addr} (h:aD x H) (k:Kp [p] H H') (hp:Pot H p):aD x H':=by
 rcases h with ⟨d,a,b,c⟩ | ⟨a,e,ha⟩
 ·exact .inl ⟨d,DV.kp k hp a b,b,c⟩
 ·exact .inr ⟨a,e,kN k hp ha⟩
theorem aY.kp {ps:List Str}{x:V}{H H':Hp}{p:Addr} (h:aY ps x H) (k:Kp [p] H H') (hp:Pot H p):aY ps x H':=by
 rcases h with ⟨d,a,b,c⟩ | ⟨a,e,ha⟩
 ·exact .inl ⟨d,DV.kp k hp a b,b,c⟩
 ·exact .inr ⟨a,e,kN k hp ha⟩
theorem bw {t:TE}{σ:St}{H:Hp}{d:PyData} (h:Yd t σ H (Dv d)) (ok:Dok d) (n:cQ d=false):Yd t σ H aD:=h.imp fun x H' z=>.inl ⟨d,z,ok,n⟩
theorem ee {ps:List Str}{t:TE}{σ:St}{H:Hp}{d:PyData} (h:Yd t σ H (Dv d)) (ok:Dok d) (n:cE d ps=false):Yd t σ H (aY ps):=h.imp fun x H' z=>.inl ⟨d,z,ok,n⟩
theorem Yd.i {σ:St}{H:Hp} (i:Int):Yd (tC (.int i)) σ H (Dv (.int i)):=Yd.con fun _=>.int i
theorem Yd.s {σ:St}{H:Hp} (x:Str):Yd (tC (.str x)) σ H (Dv (.str x)):=Yd.con fun _=>.str x
theorem Yd.b {σ:St}{H:Hp} (b:Bool):Yd (tC (.bl b)) σ H (Dv (.bool b)):=Yd.con fun _=>.bl b
theorem Yd.n {σ:St}{H:Hp}:Yd (tC .non) σ H (Dv .none):=Yd.con fun _=>.non
theorem cy {a:Expr}{op:Operator}{b:Expr}{p:Pos}{es:List Expr}{env:Env}:starEach (.BinOp a op b p::es) env=(false,eval (.BinOp a op b p) env)::starEach es env:=rfl
theorem eo {a b:Expr}{p:Pos}{es:List Expr}{env:Env}:starEach (.Subscript a b p::es) env=(false,eval (.Subscript a b p) env)::starEach es env:=rfl
theorem aV {x:Str}{p:Pos}{es:List Expr}{env:Env}:starEach (.Name x p::es) env=(false,eval (.Name x p) env)::starEach es env:=rfl
section
variable {P:Program}{w:World}{K:PySem.W.Frag}{mg:Str->Option Value}{base:Heap}
theorem aY.keeps {ps:List Str}:Keeps (aY ps):=fun x H H' h s=>h.same s
theorem aD.keeps:Keeps aD:=fun x H H' h s=>h.same s
end
noncomputable abbrev aR (r:Addr×Row):PyData:=.tuple [.str r.2.1,.str r.2.2.1,.str r.2.2.2]
noncomputable abbrev uU (ps:List Str) (rs:List (Addr×Row)):PyData:=.tuple [.tuple (ps.map PyData.str),.tuple (rs.map aR)]
theorem iV {H:Hp}:∀{rs:List (Addr×Row)},(∀r∈rs,e6 H r.1 r.2)->DVs H (aq rs) (rs.map aR)
 | [],_=>.nil
 | r::t,h=>.cons (.tup (h r List.mem_cons_self) (.cons (.str _) (.cons (.str _) (.cons (.str _) .nil)))) (iV fun x hx=>h x (List.mem_cons_of_mem _ hx))
theorem cH {x:Str} (h:be x):Dok (.str x):=.str x ⟨by have:=h.hi;omega,h.ascii⟩
theorem qd {ps:List Str} (h:∀x∈ps,be x) (hl:ps.length<=60):Dok (.tuple (ps.map PyData.str)):=.tup _ (by simpa using hl) fun d hd=>by
 obtain⟨x,hx,rfl⟩:=List.mem_map.mp hd
 exact cH (h x hx)
theorem eP {ps:List Str}{rs:List (Addr×Row)} (G:Good ps (rs.map (·.2))):∀d∈rs.map aR,Dok d:=fun d hd=>by
 obtain⟨r,hr,rfl⟩:=List.mem_map.mp hd
 obtain⟨h1,h2,h3,_⟩:=G.rn r.2 (List.mem_map_of_mem hr)
 refine .tup _ (by simp) fun d hd=>?_
 simp only [List.mem_cons,List.not_mem_nil,or_false] at hd
 rcases hd with rfl | rfl | rfl
 ·exact cH h1
 ·exact cH (G.nm _ h2)
 ·exact cH (G.nm _ h3)
theorem jc {ps:List Str}{x:Str} (G:∀y∈ps,be y) (h:¬ be x):cE (.str x) ps=false:=decide_eq_false fun z=>h (G x z)
theorem Yd.addS {t:TE}{σ:St}{H:Hp}{x:Str} (h:Yd t σ H (Dv (.str x))) (y:Str) (hl:x.length + y.length<=1000):Yd (tOp (fun x y H Q=>∃i j,x=V.str i/\y=V.str j/\i.length + j.length<=sizeLine/\Q (V.str (i++j)) H) t (tC (.str y))) σ H (Dv (.str (x++y))):=fun H' s Q k=>h H' s _ fun z H1 s1 hz=>by
 cases hz
 exact⟨x,y,rfl,rfl,Nat.le_of_lt (fits hl),k _ _ s1 (.str _)⟩
theorem Yd.ix00 {K:PySem.W.Frag}{σ:St}{H:Hp}{i:Nat}{v pa ra:Addr}{p0:Str}{r:List V} (hi:σ[i]?=some (some (.ref v))) (h1:H v=some (.tup [.ref pa,.ref ra])) (h2:H pa=some (.tup (.str p0::r))):Yd (tOp (rIx K) (tOp (rIx K) (ba i) (tC (.int 0))) (tC (.int 0))) σ H (Dv (.str p0)):=fun H' s Q k =>
 ⟨_,hi,aC (j:=0) (.inr (SqT.of (s _ _ h1))) rfl rfl (aC (j:=0) (.inr (SqT.of (s _ _ h2))) rfl rfl (k _ _ (ah.refl _) (.str _)))⟩
section
variable {P:Program}{w:World}{K:PySem.W.Frag}{mg:Str->Option Value}{base:Heap}
end
theorem wb1 {a b:PyData} (h:bM a=false):cQ (.tuple [a,b])=false:=by
 show (bM a && _)=false
 rw [h];rfl
theorem wb2 {a b:PyData} (h:(bS a).isEmpty=true):cQ (.tuple [a,b])=false:=by
 show (bM a && (!(bS a).isEmpty && _))=false
 rw [h];simp
theorem wb3 {a b:PyData} (h:fq b=false):cQ (.tuple [a,b])=false:=by
 show (bM a && (!(bS a).isEmpty && (fq b && _)))=false
 rw [h];simp
theorem wb4 {a:PyData}{ds:List PyData}{d:PyData} (hd:d∈ds) (h:bE (dg (bS a)) d=false):cQ (.tuple [a,.tuple ds])=false:=by
 show (bM a && (!(bS a).isEmpty && (fq (.tuple ds) && (ds.all (bE (dg (bS a))) && _))))=false
 have:ds.all (bE (dg (bS a)))=false:=by
  rw [List.all_eq_false]
  exact⟨d,hd,by rw [h];simp⟩
 rw [this];simp
theorem wb5 {a:PyData}{ds:List PyData} (h:¬ (ds.map cx).Pairwise nlt):cQ (.tuple [a,.tuple ds])=false:=by
 show (bM a && (!(bS a).isEmpty && (fq (.tuple ds) && (_ && dA (ds.map cx)))))=false
 rw [iZ h];simp
theorem so1 {ds:List PyData}{d:PyData} (hd:d∈ds) (h:bx d=false):bM (.tuple ds)=false:=by
 show (ds.all bx && _)=false
 have:ds.all bx=false:=by
  rw [List.all_eq_false]
  exact⟨d,hd,by rw [h];simp⟩
 rw [this];rfl
theorem so2 {ss:List Str} (h:¬ ss.Pairwise nlt):bM (.tuple (ss.map PyData.str))=false:=by
 show ((ss.map PyData.str).all bx && dA (dg (ss.map PyData.str)))=false
 rw [fQ,iZ h];simp
theorem gn:Dok (.tuple []):=.tup _ (by simp) (by simp)
theorem nB {a:PyData} (h:Dok a):Dok (.tuple [a]):=.tup _ (by simp) (by simpa using h)
theorem bH {a b:PyData} (h:Dok a) (g:Dok b):Dok (.tuple [a,b]):=.tup _ (by simp) (by simp;exact⟨h,g⟩)
theorem eh {a b c:PyData} (h:Dok a) (g:Dok b) (i:Dok c):Dok (.tuple [a,b,c]):=.tup _ (by simp) (by simp;exact⟨h,g,i⟩)
theorem eJ {x:Str} (h1:x.length<=100) (h2:x.cps.all (· < 128)=true):Dok (.str x):=.str x ⟨h1,h2⟩
theorem r8 {ps:List Str} (h:ps.Pairwise nlt) (h2:1 < ps.length):¬ ps.reverse.Pairwise nlt:=fun z=>by
 rw [List.pairwise_reverse] at z
 match ps,h2 with
 | a::b::r,_ =>
  have h3:=(List.pairwise_cons.mp h).1 b (by simp)
  have h4:=(List.pairwise_cons.mp z).1 b (by simp)
  exact List.lt_irrefl _ (List.lt_trans (show a.cps.toList < b.cps.toList from h3) h4)
theorem kB {ps:List Str}{x:Str} (h:x∈ps):¬ (ps++[x]).Pairwise nlt:=fun z=>by
 have:=(List.pairwise_append.mp z).2.2 x h x (by simp)
 exact List.lt_irrefl _ (show x.cps.toList < x.cps.toList from this)
structure Cn (σ:St) (H:Hp) (pa ra:Addr) (ps:List Str) (rs:List (Addr×Row)) (p0:Str):Prop where
 s2:σ[2]?=some (some (.ref pa))
 s3:σ[3]?=some (some (.ref ra))
 s4:σ[4]?=some (some (.str p0))
 h2:H pa=some (.tup (ps.map V.str))
 h3:H ra=some (.tup (aq rs))
 rw:∀r∈rs,e6 H r.1 r.2
section
variable {σ:St}{H:Hp}{pa ra:Addr}{ps:List Str}{rs:List (Addr×Row)}{p0:Str}
theorem Yd.lsO {K:PySem.W.Frag}{te:TE}{ds:List PyData} (h:Yd te σ H (Dv (.tuple ds))):Yd (tCB (fun xs H Q=>∃p ys,xs=[.ref p]/\(SqL K H p ys\/SqT K H p ys)/\∀l,H l=none->Q (.ref l) (upd H l (.lst ys))) (bK te bG)) σ H (Dv (.list ds)):=fun H' s Q k=>h H' s _ fun x H1 s1 hx=>by
 cases hx with
 | @tup a xs _ e q =>
  refine⟨a,_,rfl,.inr (SqT.of e),fun l hl=>?_⟩
  have s2:=am (o:=.lst xs) (ah.refl H1) hl
  exact k _ _ (s1.trans s2) (.lst aj (DVs.same s2 q))
theorem Yd.catD {K:PySem.W.Frag}{ta tb:TE}{ds es:List PyData} (ha:Yd ta σ H (Dv (.tuple ds))) (hb:Yd tb σ H (Dv (.tuple es))) (hz:ds.length + es.length<=900):Yd (tOp (jm K) ta tb) σ H (Dv (.tuple (ds++es))):=fun H' s Q k=>ha H' s _ fun x H1 s1 hx=>hb H1 (s.trans s1) _ fun y H2 s2 hy=>by
 cases hx with
 | @tup a xs _ e q =>
  cases hy with
  | @tup b ys _ e' q' =>
   have l1:=DVs.len q
   have l2:=DVs.len q'
   exact qw (s2 _ _ e) e' (Nat.le_of_lt (fits (by omega))) fun r H3 s3 hr=>k _ _ (s1.trans (s2.trans s3)) (.tup hr (DVs.append (DVs.same (s2.trans s3) q) (DVs.same s3 q')))
end
theorem mZ {f:Expr}{as:List Expr}{ks:List Keyword}{p:Pos}{es:List Expr}{env:Env}:starEach (.Call f as ks p::es) env=(false,eval (.Call f as ks p) env)::starEach es env:=rfl
theorem Yd.revD {K:PySem.W.Frag}{te:TE}{σ:St}{H:Hp}{ds:List PyData} (h:Yd te σ H (Dv (.tuple ds))):Yd (mP K te (dJ (tUn (rU fun i=>.int (-i)) (tC (.int 1))))) σ H (Dv (.tuple ds.reverse)):=fun H' s Q k=>h H' s _ fun x H1 s1 hx=>by
 cases hx with
 | @tup a xs _ e q =>
  refine⟨1,rfl,_,rfl,rfl,a,_,rfl,SqT.of e,fun p hp=>?_⟩
  have s2:=am (o:=.tup xs.reverse) (ah.refl H1) hp
  exact k _ _ (s1.trans s2) (.tup aj (DVs.same s2 (DVs.rev q)))
section
variable {P:Program}{w:World}{K:PySem.W.Frag}{mg:Str->Option Value}{base:Heap}
end
section
variable {P:Program}{w:World}{K:PySem.W.Frag}{mg:Str->Option Value}{base:Heap}
noncomputable def iy:Sp:=fun vs H Q _=>∃(ra:Addr) (a:Str) (rs:List T) (ps:List Str),vs=[.ref ra,.str a]/\H ra=some (.lst (aq rs))/\bA H rs/\a∈ps/\(∀r∈rs,r.2.2.2∈ps)/\ps.length<=100/\rs.length<=60 /\
 ∀(q:Addr) (H':Hp),ah H H'->H q=none->H' q=some (.lst (aq (first rs a)))->cc rs a (first rs a)->Q (.ref q) H'
theorem nS {f:Addr}{fd:FuncData} (F:Fun K "first_rows" "first_rows" (top 25) f fd) (B:Bl mg):ax P w K mg base CX0 1 f fd ["rows","start"] iy:=by
 refine F.ok di (fun vs H Q E h=>?_) (fun cdv A outer s H vs Q E hr h=>?_)
 ·obtain⟨ra,a,rs,ps,rfl,_⟩:=h
  rfl
 ·obtain⟨ra,a,rs,ps,rfl,hra,hrows,haps,hps,hz,hrz,k⟩:=h
  refine⟨_,ak (aG (i:=2) di.nd rfl (Or.inl rfl) (aN (ae (pv 1) ag)))
   (ak (aG (i:=3) di.nd rfl (Or.inl rfl) (aN ag))
   (ak (aG (i:=4) di.nd rfl (Or.inl rfl) ai)
   (ak (fh PassesOwn.never (aM gT (pv 4) (aB bD rfl B.len PySem.boot_len (ae (pv 2) ag)) (aQ _))
    (ak (eS PassesOwn.never rfl (dE (pv 0)) (bv (i:=5) di.nd rfl (Or.inl rfl))
     (av (bq (PW.pt (fZ (aM cX (ay aF (pv 5) ai (fun _ _=>rfl)) (ay aF (pv 2) (pv 4) (fun _ _=>rfl)) (aQ _))
       (fR (aM fH (ay aF (pv 5) ai (fun _ _=>rfl)) (pv 2) (by with_unfolding_all rfl)))))
      (ak (bj (cF PySem.F.plainAttrs_list PySem.F.slot_list_append PySem.F.type_list_append dj (pv 2) (ae (ay aF (pv 5) ai (fun _ _=>rfl)) ag)))
      (av (bj (cF PySem.F.plainAttrs_list PySem.F.slot_list_append PySem.F.type_list_append dj (pv 3) (ae (pv 5) ag))))) bc)))
    (av (mw (i:=4) di.nd rfl (Or.inl rfl) ai lT))))
   (av (aI (pv 3)))))),?_⟩
  refine⟨_,rfl,by show 1<=sizeLine;decide,fun fo hfo=>?_⟩
  have s1:=am (o:=.lst [.str a]) (ah.refl H) hfo
  have f1:upd H fo (.lst [.str a]) fo=some (.lst ((fnd a []).map V.str)):=aj
  generalize upd H fo (.lst [.str a])=H1 at s1 f1 ⊢
  refine⟨Nat.zero_le _,fun tk htk=>?_⟩
  have htk0:=s1.free htk
  have nft:fo≠tk:=aZ f1 htk
  have s2:=am (o:=.lst []) s1 htk
  have f2:upd H1 tk (.lst []) fo=some (.lst ((fnd a []).map V.str)):=by rw [au nft];exact f1
  have t2:upd H1 tk (.lst []) tk=some (.lst (aq [])):=aj
  generalize upd H1 tk (.lst [])=H2 at s2 f2 t2 ⊢
  refine⟨fun m σ H3=>∃(q:Nat) (fd:List (Str×Nat)) (g:Option V),σ=[some (.ref ra),some (.str a),some (.ref fo),some (.ref tk),some (.int q),g]/\m=200 - q/\Bfs rs a fd (bfs rs a q) q/\ah H H3/\H3 fo=some (.lst ((fnd a (bfs rs a q)).map V.str))/\H3 tk=some (.lst (aq (bfs rs a q))),
   ⟨_,0,_,none,rfl,rfl,Bfs.start rs a,s2,f2,t2⟩,?_⟩
  rintro m σ H3 ⟨q,fd,g,rfl,rfl,Bq,s3,f3,t3⟩
  have hfl:(fnd a (bfs rs a q)).length=fd.length:=by
   have:=congrArg List.length Bq.fst
   rw [List.length_map] at this
   exact this.symm
  have hfb:=Bq.bound haps hps
  have hql:=Bq.ql
  refine⟨_,rfl,_,rfl,fo,_,rfl,.inl (SqL.of f3),_,_,rfl,rfl,_,rfl,aS (fun c=>?_) (fun c=>?_)⟩
  ·have hlt:q < fd.length:=by
    have:=of_decide_eq_true c
    rw [List.length_map,hfl] at this
    omega
   have hqx:fd[q]?=some (fd[q].1,fd[q].2):=List.getElem?_eq_getElem hlt
   obtain⟨fd',B'⟩:=Bq.next hqx
   have hx:(fnd a (bfs rs a q))[q]?=some fd[q].1:=by
    show (a::(bfs rs a q).map (·.2.2.2))[q]?=_
    rw [<- Bq.fst,List.getElem?_map,hqx];rfl
   have eb:bfs rs a (q + 1)=rs.foldl (stp a fd[q].1) (bfs rs a q):=by
    show (match (a::(bfs rs a q).map (·.2.2.2))[q]? with | some x=>rs.foldl (stp a x) (bfs rs a q) | none=>bfs rs a q)=_
    rw [show (a::(bfs rs a q).map (·.2.2.2))[q]?=some fd[q].1 from hx]
   rw [<- eb] at B'
   generalize fd[q].1=x at hx eb
   refine⟨fun σ' H'=>∃m',m' < 200 - q/\∃(q:Nat) (fd:List (Str×Nat)) (g:Option V),σ'=[some (.ref ra),some (.str a),some (.ref fo),some (.ref tk),some (.int q),g]/\m'=200 - q/\Bfs rs a fd (bfs rs a q) q/\ah H H'/\H' fo=some (.lst ((fnd a (bfs rs a q)).map V.str))/\H' tk=some (.lst (aq (bfs rs a q))),fun σ' H' q=>q,?_⟩
   refine⟨_,rfl,ra,rfl,⟨_,SqL.of (s3 _ _ hra)⟩,qT (K:=K) (a:=ra) (xs:=aq rs) (fun i σ H4=>∃g,σ=[some (.ref ra),some (.str a),some (.ref fo),some (.ref tk),some (.int q),g]/\ah H H4/\H4 fo=some (.lst ((fnd a ((rs.take i).foldl (stp a x) (bfs rs a q))).map V.str))/\H4 tk=some (.lst (aq ((rs.take i).foldl (stp a x) (bfs rs a q)))))
    ⟨_,rfl,s3,f3,t3⟩ (fun i σ H4 _ p=>by obtain⟨_,_,s4,_⟩:=p;exact SqL.of (s4 _ _ hra)) ?_ ?_⟩
   ·rintro i y σ H4 hy ⟨g,rfl,s4,f4,t4⟩
    obtain⟨r,hri,rfl⟩:=ck hy
    have hil:i < rs.length:=(List.getElem?_eq_some_iff.mp hri).1
    have hrr:=s4 _ _ (hrows.e r (List.mem_of_getElem? hri))
    obtain⟨more,em,hml⟩:=iq a x (rs.take i) (bfs rs a q)
    have hlen:((rs.take i).foldl (stp a x) (bfs rs a q)).length<=160:=by
     rw [em,List.length_append]
     have h1:(bfs rs a q).length + 1=fd.length:=by simpa using hfl
     have h2:(rs.take i).length<=60:=by rw [List.length_take];omega
     omega
    have hx4:(fnd a ((rs.take i).foldl (stp a x) (bfs rs a q)))[q]?=some x:=by
     rw [em]
     show (a::(bfs rs a q++more).map (·.2.2.2))[q]?=_
     rw [List.map_append,<- List.cons_append,List.getElem?_append_left (by
      have:=hfl;simp at this ⊢;omega)]
     exact hx
    have tf:=j2 (a:=a) (x:=x) (tk:=bfs rs a q) hri
    rw [tf]
    generalize (rs.take i).foldl (stp a x) (bfs rs a q)=tl at f4 t4 hlen hx4 ⊢
    have hxs:((fnd a tl).map V.str)[q]?=some (.str x):=by rw [List.getElem?_map,hx4];rfl
    refine⟨_,rfl,aC (j:=1) (.inr (SqT.of hrr)) rfl rfl ⟨_,rfl,_,rfl,aC (j:=q) (.inl (SqL.of f4)) rfl hxs ⟨rfl,_,rfl,?_⟩⟩⟩
    by_cases c1:r.2.2.1=x
    ·rw [decide_eq_true (show V.str r.2.2.1=V.str x by rw [c1])]
     refine aA ⟨_,rfl,aC (j:=2) (.inr (SqT.of hrr)) rfl rfl ⟨_,rfl,fo,_,rfl,.inl (SqL.of f4),rfl,cm _,_,rfl,?_⟩⟩
     rw [cn]
     by_cases c2:r.2.2.2∈fnd a tl
     ·have es:stp a x tl r=tl:=by unfold stp;rw [if_neg (fun z=>z.2 c2)]
      rw [es]
      show if (!decide (r.2.2.2∈fnd a tl))=true then _ else _
      exact de c2 ⟨_,rfl,s4,f4,t4⟩
     ·have es:stp a x tl r=tl++[r]:=by unfold stp;rw [if_pos ⟨c1,c2⟩]
      rw [es]
      show if (!decide (r.2.2.2∈fnd a tl))=true then _ else _
      refine f9 c2 ?_
      refine⟨_,rfl,.inl ⟨rfl,_,SqL.of f4⟩,_,rfl,aC (j:=2) (.inr (SqT.of hrr)) rfl rfl ⟨fo,_,_,rfl,rfl,f4,fits (by simp;omega),?_⟩⟩
      have s5:=ah.upd0 s4 (o:=.lst ((fnd a tl).map V.str++[.str r.2.2.2])) (q:=fo) hfo
      have f5:upd H4 fo (.lst ((fnd a tl).map V.str++[.str r.2.2.2])) fo=some (.lst ((fnd a (tl++[r])).map V.str)):=by rw [aj];simp
      have t5:upd H4 fo (.lst ((fnd a tl).map V.str++[.str r.2.2.2])) tk=some (.lst (aq tl)):=by rw [au nft.symm];exact t4
      generalize upd H4 fo (.lst ((fnd a tl).map V.str++[.str r.2.2.2]))=H5 at s5 f5 t5 ⊢
      refine⟨_,rfl,.inl ⟨rfl,_,SqL.of t5⟩,_,rfl,tk,_,_,rfl,rfl,t5,fits (by simp;omega),_,rfl,ah.upd0 s5 htk0,by rw [au nft];exact f5,by rw [aj];simp [aq]⟩
    ·have es:stp a x tl r=tl:=by unfold stp;rw [if_neg (fun z=>c1 z.1)]
     rw [es,decide_eq_false (fun z=>c1 (V.str.inj z))]
     exact aL (aL ⟨_,rfl,s4,f4,t4⟩)
   ·rintro σ H4 ⟨g,rfl,s4,f4,t4⟩
    have et:rs.take (aq rs).length=rs:=take_all rs (by simp)
    rw [et,<- eb] at f4 t4
    exact⟨_,rfl,_,_,rfl,rfl,_,by omega,q + 1,fd',_,rfl,rfl,B',s4,f4,t4⟩
  ·have hge:fd.length<=q:=by
    have:=of_decide_eq_false (Bool.eq_false_iff.mpr c)
    rw [List.length_map,hfl] at this
    omega
   have e1:bfs rs a q=first rs a:=kX (by have:=hfl;simp at this;omega) (by omega)
   have Fu:=Bq.full hge
   rw [e1] at t3 Fu
   exact⟨_,rfl,k tk H3 s3 htk0 t3 Fu⟩
end
section
variable {P:Program}{w:World}{K:PySem.W.Frag}{mg:Str->Option Value}{base:Heap}
noncomputable def ly:Sp:=fun vs H Q _=>∃(ra:Addr) (a:Str) (rs:List T) (ps:List Str),vs=[.ref ra,.str a]/\H ra=some (.lst (aq rs))/\bA H rs/\a∈ps/\(∀r∈rs,r.2.2.2∈ps)/\ps.length<=100/\rs.length<=60 /\
 ∀(q:Addr) (H':Hp),ah H H'->H q=none->H' q=some (.lst ((fnd a (first rs a)).map V.str))->cc rs a (first rs a)->Q (.ref q) H'
theorem oy {f:Addr}{fd:FuncData} (F:Fun K "come_to" "come_to" (top 26) f fd) (F1:Fn P w K mg base 1 "first_rows" ["rows","start"] iy):ax P w K mg base CX0 2 f fd ["rows","start"] ly:=by
 refine F.ok nj (fun vs H Q E h=>?_) (fun cdv A outer s H vs Q E hr h=>?_)
 ·obtain⟨ra,a,rs,ps,rfl,_⟩:=h
  rfl
 ·obtain⟨ra,a,rs,ps,rfl,hra,hrows,haps,hps,hz,hrz,k⟩:=h
  refine⟨_,av (aI (aE ce (aN (ae (pv 1) ag)) (bC (N:=["row"]) (ix:=[none]) ⟨rfl,rfl,rfl,by decide⟩ rfl (dE (aw F1 hr (ae (pv 0) (ae (pv 1) ag)))) (fun _ _ _ _=>bp 0 (by decide) rfl rfl) (fun _ _ _ _=>bY)
   (fun _ _ _ _=>ay (bJ K) (pv 0) ai (fun _ _=>rfl))))),?_⟩
  refine⟨_,rfl,by show 1<=sizeLine;decide,fun l hl=>?_⟩
  have s1:=am (o:=.lst [.str a]) (ah.refl H) hl
  have l1:upd H l (.lst [.str a]) l=some (.lst [.str a]):=aj
  generalize upd H l (.lst [.str a])=H1 at s1 l1 ⊢
  refine⟨_,rfl,_,rfl,ra,a,rs,ps,rfl,s1 _ _ hra,hrows.same s1,haps,hps,hz,hrz,fun q H2 s2 hq2 q2 Fu=>?_⟩
  have hlen:=fg Fu haps hps
  have r2:bA H2 (first rs a):=⟨fun r hr=>s2 _ _ (s1 _ _ (hrows.e r (Fu.sub r hr)))⟩
  refine⟨q,rfl,⟨_,SqL.of q2⟩,fJ (xs:=aq (first rs a)) (fits (by simp;omega)) (fun i ys σ H3=>ys=((first rs a).take i).map (fun t=>V.str t.2.2.2)/\ah H2 H3/\∃v,σ=[v]) ⟨rfl,ah.refl _,_,rfl⟩
   (fun i ys σ H3 _ p=>⟨by rw [p.1];simp;omega,SqL.of (p.2.1 _ _ q2)⟩) ?_ ?_⟩
  ·rintro i x ys σ H3 hx ⟨rfl,s3,v,rfl⟩
   obtain⟨r,hri,rfl⟩:=ck hx
   exact⟨_,rfl,aC (j:=2) (.inr (SqT.of (s3 _ _ (r2.e r (List.mem_of_getElem? hri))))) rfl rfl ⟨(dC _ _ _ _ hri).symm,s3,_,rfl⟩⟩
  ·rintro ys σ H3 ⟨rfl,s3,v,rfl⟩ c hc
   rw [take_all (first rs a) (by simp)]
   have s4:=am (o:=.lst ((first rs a).map fun t=>V.str t.2.2.2)) s3 hc
   have c4:upd H3 c (.lst ((first rs a).map fun t=>V.str t.2.2.2)) c=some (.lst ((first rs a).map fun t=>V.str t.2.2.2)):=aj
   generalize upd H3 c (.lst ((first rs a).map fun t=>V.str t.2.2.2))=H4 at s4 c4 ⊢
   have s04:=s1.trans (s2.trans s4)
   refine⟨l,c,_,_,rfl,rfl,s4 _ _ (s2 _ _ l1),c4,Nat.le_of_lt (fits (by simp;omega)),fun p hp=>k p _ (am s04 hp) (s04.free hp) (by rw [aj];simp [List.map_map]) Fu⟩
end
section
variable {P:Program}{w:World}{K:PySem.W.Frag}{mg:Str->Option Value}{base:Heap}
noncomputable def gE:Sp:=fun vs H Q _=>∃(ra:Addr) (a b:Str) (rs:List T) (ps:List Str),vs=[.ref ra,.str a,.str b]/\H ra=some (.lst (aq rs))/\bA H rs/\a∈ps/\(∀r∈rs,r.2.2.2∈ps)/\ps.length<=100/\rs.length<=60 /\
 ∀(H':Hp),ah H H'->cc rs a (first rs a)->(b∉fnd a (first rs a)->Q .non H')/\(b∈fnd a (first rs a)->∀u,H u=none->H' u=some (.tup (dR (dh (first rs a) a b)))->Q (.ref u) H')
theorem n6 {f:Addr}{fd:FuncData} (F:Fun K "short_way" "short_way" (top 31) f fd) (F1:Fn P w K mg base 1 "first_rows" ["rows","start"] iy) (F2:Fn P w K mg base 2 "way_along" ["rows","root","place"] iQ):ax P w K mg base CX0 3 f fd ["rows","start","end"] gE:=by
 refine F.ok hV (fun vs H Q E h=>?_) (fun cdv A outer s H vs Q E hr h=>?_)
 ·obtain⟨ra,a,b,rs,ps,rfl,_⟩:=h
  rfl
 ·obtain⟨ra,a,b,rs,ps,rfl,hra,hrows,haps,hps,hz,hrz,k⟩:=h
  have hr1:aK 1 _:=hr.mono (by decide)
  refine⟨_,ak (aG (i:=3) hV.nd rfl (Or.inl rfl) (aw F1 hr1 (ae (pv 0) (ae (pv 1) ag))))
   (ak (bq (PW.pt (fZ (aM dI (pv 2) (pv 1) (aQ _)) (fR (aM fH (pv 2) (bC (N:=["row"]) (ix:=[none]) ⟨rfl,rfl,rfl,by decide⟩ rfl (dE (pv 3)) (fun _ _ _ _=>bp 0 (by decide) rfl rfl) (fun _ _ _ _=>bY)
    (fun _ _ _ _=>ay (bJ K) (pv 0) ai (fun _ _=>rfl))) (by with_unfolding_all rfl))))) (av (aI eV)) bc)
   (av (aI (aw F2 hr (ae (pv 3) (ae (pv 1) (ae (pv 2) ag))))))),?_⟩
  refine⟨_,rfl,_,rfl,ra,a,rs,ps,rfl,hra,hrows,haps,hps,hz,hrz,fun q H1 s1 hq0 q1 Fu=>?_⟩
  have hlen:=fg Fu haps hps
  have r1:bA H1 (first rs a):=⟨fun r hr=>s1 _ _ (hrows.e r (Fu.sub r hr))⟩
  dsimp only [bV]
  refine gf (fun σ H2=>σ=[some (.ref ra),some (.str a),some (.str b),some (.ref q)]/\ah H1 H2/\b∈fnd a (first rs a)) (fun N key=>?_) ?_
  ·refine⟨_,rfl,_,rfl,rfl,_,rfl,aS (fun c=>?_) (fun c=>aL (key _ _ ⟨rfl,ah.refl _,?_⟩))⟩
   ·have hne:b≠a:=fun e=>by subst e;simp at c
    refine⟨_,rfl,_,rfl,q,rfl,⟨_,SqL.of q1⟩,fJ (xs:=aq (first rs a)) (fits (by simp;omega)) (fun i ys σ H3=>ys=((first rs a).take i).map (fun t=>V.str t.2.2.2)/\ah H1 H3/\∃v,σ=[v]) ⟨rfl,ah.refl _,_,rfl⟩
     (fun i ys σ H3 _ p=>⟨by rw [p.1];simp;omega,SqL.of (p.2.1 _ _ q1)⟩) ?_ ?_⟩
    ·rintro i x ys σ H3 hx ⟨rfl,s3,v,rfl⟩
     obtain⟨r,hri,rfl⟩:=ck hx
     exact⟨_,rfl,aC (j:=2) (.inr (SqT.of (s3 _ _ (r1.e r (List.mem_of_getElem? hri))))) rfl rfl ⟨(dC _ _ _ _ hri).symm,s3,_,rfl⟩⟩
    ·rintro ys σ H3 ⟨rfl,s3,v,rfl⟩ c hc
     rw [take_all (first rs a) (by simp)]
     have em:((first rs a).map fun t=>V.str t.2.2.2)=((first rs a).map (·.2.2.2)).map V.str:=by rw [List.map_map];rfl
     rw [em]
     have s4:=am (o:=.lst (((first rs a).map (·.2.2.2)).map V.str)) s3 hc
     refine⟨c,_,rfl,.inl (SqL.of aj),rfl,cm _,_,rfl,?_⟩
     rw [cn]
     show if (!decide (b∈(first rs a).map (·.2.2.2)))=true then _ else _
     by_cases hm:b∈(first rs a).map (·.2.2.2)
     ·exact de hm (key _ _ ⟨rfl,s4,List.mem_cons_of_mem _ hm⟩)
     ·exact f9 hm ((k _ (s1.trans s4) Fu).1 fun z=>(List.mem_cons.mp z).elim hne hm)
   ·have e:b=a:=by simpa using c
    subst e;exact List.mem_cons_self
  ·rintro σ H2 ⟨rfl,s2,hb⟩
   obtain⟨n,hd⟩:=Fu.mem b hb
   have hnl:=iW haps (fun r hr=>by obtain⟨t,ht,rfl⟩:=List.mem_map.mp hr;exact hps t ht) hd
   refine⟨_,rfl,_,rfl,_,rfl,q,a,b,first rs a,rs,n,rfl,s2 _ _ q1,r1.same s2,Fu,hb,hd,by omega,by omega,fun u H3 s3 hu0 hu=>?_⟩
   have s03:=s1.trans (s2.trans s3)
   exact (k H3 s03 Fu).2 hb u ((s1.trans s2).free hu0) hu
end
noncomputable abbrev eN (r:Row):Row:=(r.1,r.2.2,r.2.1)
noncomputable def cO (R:List Row) (ns:List Str):List Row:=(R.filter fun r=>!decide (r.1∈ns))++(R.filter fun r=>decide (r.1∈ns)).map eN
theorem iG {R:List Row}{ns:List Str}{e:Row} (h:e∈cO R ns):(e∈R/\e.1∉ns)\/∃r∈R,r.1∈ns/\e=eN r:=by
 rcases List.mem_append.mp h with z | z
 ·obtain⟨a,b⟩:=List.mem_filter.mp z
  exact .inl ⟨a,by simpa using b⟩
 ·obtain⟨r,hr,rfl⟩:=List.mem_map.mp z
  obtain⟨a,b⟩:=List.mem_filter.mp hr
  exact .inr ⟨r,a,by simpa using b,rfl⟩
theorem kK {R:List Row}{ns ps:List Str} (h:∀r∈R,r.2.1∈ps/\r.2.2∈ps):∀e∈cO R ns,e.2.2∈ps:=fun e he=>by
 rcases iG he with ⟨a,_⟩ | ⟨r,a,_,rfl⟩
 ·exact (h e a).2
 ·exact (h r a).1
theorem kQ (R:List Row) (ns:List Str):(cO R ns).length=R.length:=by
 unfold cO
 rw [List.length_append,List.length_map]
 induction R with
 | nil=>rfl
 | cons r t ih =>
  by_cases c:r.1∈ns
  ·simp [c] at ih ⊢;omega
  ·simp [c] at ih ⊢;omega
structure EW (R:List Row) (a:Str) (es:List Row):Prop where
 mem:∀e∈es,e∈R
 hd:∃e r,es=e::r/\e.2.1=a
 en:∀e∈es,e.2.2≠a
theorem fz.ew {rs:List T}{a b:Str}{wy:List T} (W:fz rs a wy b) (hab:a≠b):EW (rs.map (·.2)) a (wy.map (·.2)):=by
 have d0:∀t∈wy,t.2.2.2≠a:=fun t ht e=>by
  obtain⟨i,hi⟩:=List.getElem?_of_mem ht
  obtain⟨_,_,d⟩:=W.at' i t hi
  rw [e] at d
  have:=d.uniq bh.zero
  omega
 refine⟨fun e he=>?_,?_,fun e he=>?_⟩
 ·obtain⟨t,ht,rfl⟩:=List.mem_map.mp he
  obtain⟨i,hi⟩:=List.getElem?_of_mem ht
  exact List.mem_map_of_mem (W.at' i t hi).1
 ·cases wy with
  | nil=>exact absurd W.last hab
  | cons t r =>
   obtain⟨_,s,_⟩:=W.at' 0 t rfl
   exact⟨t.2,r.map (·.2),rfl,s⟩
 ·obtain⟨t,ht,rfl⟩:=List.mem_map.mp he
  exact d0 t ht
noncomputable def oneOf (ns ws:List Str):List Str:=(ns.filter fun x=>!decide (x∈ws))++(ws.filter fun x=>!decide (x∈ns))
theorem gM {ns ws:List Str}{x:Str}:x∈oneOf ns ws ↔ (x∈ns/\x∉ws)\/(x∈ws/\x∉ns):=by
 unfold oneOf
 simp [List.mem_append,List.mem_filter]
noncomputable def good (a:Str) (ns:List Str) (r:Row):Bool:=(decide (r.2.1=a) && decide (r.1∈ns)) || (decide (r.2.2=a) && !decide (r.1∈ns))
theorem iA {R:List Row} (hn:(R.map (·.1)).Nodup) {x y:Row} (hx:x∈R) (hy:y∈R) (e:x.1=y.1):x=y:=by
 induction R with
 | nil=>cases hx
 | cons r t ih =>
  obtain⟨h1,h2⟩:=List.nodup_cons.mp (show (r.1::t.map (·.1)).Nodup from hn)
  rcases List.mem_cons.mp hx with ex | ex
  ·rcases List.mem_cons.mp hy with ey | ey
   ·rw [ex,ey]
   ·subst ex;exact absurd (List.mem_map_of_mem (f:=fun z:Row=>z.1) ey) (by rw [<- e];exact h1)
  ·rcases List.mem_cons.mp hy with ey | ey
   ·subst ey;exact absurd (List.mem_map_of_mem (f:=fun z:Row=>z.1) ex) (by rw [e];exact h1)
   ·exact ih h2 ex ey
theorem ir {α:Type}{p q:α->Bool}:∀{l:List α},(∀x∈l,p x=true->q x=true)->(∃x∈l,p x=false/\q x=true)->(l.filter p).length < (l.filter q).length
 | [],_,⟨x,hx,_⟩=>nomatch hx
 | y::l,h,⟨x,hx,h1,h2⟩=>by
  have le:∀{l:List α},(∀x∈l,p x=true->q x=true)->(l.filter p).length<=(l.filter q).length:=fun {l} h=>by
   induction l with
   | nil=>simp
   | cons z m ih =>
    have:=ih fun x hx=>h x (List.mem_cons_of_mem _ hx)
    cases c:p z with
    | true=>simp [c,h z List.mem_cons_self c];exact this
    | false=>cases d:q z <;> simp [c,d] <;> omega
  have ht:∀x∈l,p x=true->q x=true:=fun z hz=>h z (List.mem_cons_of_mem _ hz)
  rcases List.mem_cons.mp hx with e | e
  ·subst e
   have:=le ht
   simp [h1,h2];omega
  ·have:=ir ht ⟨x,e,h1,h2⟩
   cases c:p y with
   | true=>simp [c,h y List.mem_cons_self c];exact this
   | false=>cases d:q y <;> simp [c,d] <;> omega
theorem p9 {R:List Row}{a:Str}{ns:List Str}{es:List Row} (hn:(R.map (·.1)).Nodup) (W:EW (cO R ns) a es):(R.filter (good a ns)).length < (R.filter (good a (oneOf ns (es.map (·.1))))).length:=by
 obtain⟨e0,r0,he0,ha0⟩:=W.hd
 have in0:e0∈es:=by rw [he0];simp
 refine ir (fun r hr hg=>?_) ?_
 ·by_cases hw:r.1∈es.map (·.1)
  ·exfalso
   obtain⟨e,he,hne⟩:=List.mem_map.mp hw
   have hend:=W.en e he
   rcases iG (W.mem e he) with ⟨h1,h2⟩ | ⟨r',h1,h2,rfl⟩
   ·have:=iA hn h1 hr hne
    subst this
    unfold good at hg
    rw [decide_eq_false h2,decide_eq_false hend] at hg
    simp at hg
   ·have:=iA hn h1 hr hne
    subst this
    have hend':r'.2.1≠a:=hend
    unfold good at hg
    rw [decide_eq_true h2,decide_eq_false hend'] at hg
    simp at hg
  ·have hm:(r.1∈oneOf ns (es.map (·.1))) ↔ r.1∈ns:=by
    rw [gM]
    constructor
    ·rintro (h | h)
     ·exact h.1
     ·exact absurd h.1 hw
    ·exact fun h=>.inl ⟨h,hw⟩
   unfold good at hg ⊢
   rw [decide_eq_decide.mpr hm]
   exact hg
 ·have hw:∀r:Row,r.1=e0.1->r.1∈es.map (·.1):=fun r e=>by rw [e];exact List.mem_map_of_mem (f:=fun z:Row=>z.1) in0
  have hend:=W.en e0 in0
  rcases iG (W.mem e0 in0) with ⟨h1,h2⟩ | ⟨r,h1,h2,e⟩
  ·refine⟨e0,h1,?_,?_⟩
   ·unfold good;rw [decide_eq_false h2,decide_eq_false hend];simp
   ·have:e0.1∈oneOf ns (es.map (·.1)):=gM.mpr (.inr ⟨hw e0 rfl,h2⟩)
    unfold good;rw [decide_eq_true this,decide_eq_true ha0];rfl
  ·have hs:r.2.1≠a:=fun z=>hend (by rw [e];exact z)
   have he:r.2.2=a:=by rw [e] at ha0;exact ha0
   refine⟨r,h1,?_,?_⟩
   ·unfold good;rw [decide_eq_true h2,decide_eq_false hs];simp
   ·have:r.1∉oneOf ns (es.map (·.1)):=fun z=>by
     rcases gM.mp z with q | q
     ·exact q.2 (hw r (by rw [e]))
     ·exact q.2 h2
    unfold good;rw [decide_eq_false this,decide_eq_true he];simp
theorem fz.nodup {rs:List T}{a b:Str}{wy:List T} (W:fz rs a wy b) (hn:(rs.map (·.2.1)).Nodup):(wy.map (·.2.1)).Nodup:=by
 refine List.pairwise_iff_getElem.mpr fun i j hi hj hij e=>?_
 rw [List.length_map] at hi hj
 rw [List.getElem_map,List.getElem_map] at e
 obtain⟨m1,_,d1⟩:=W.at' i wy[i] (List.getElem?_eq_getElem hi)
 obtain⟨m2,_,d2⟩:=W.at' j wy[j] (List.getElem?_eq_getElem hj)
 have hn':((rs.map (·.2)).map (·.1)).Nodup:=by rw [List.map_map];exact hn
 have:=iA hn' (List.mem_map_of_mem (f:=fun z:T=>z.2) m1) (List.mem_map_of_mem (f:=fun z:T=>z.2) m2) e
 rw [this] at d1
 have:=d1.uniq d2
 omega
theorem jO (R:List Row) (ns:List Str):((cO R ns).map (·.1)).Perm (R.map (·.1)):=by
 unfold cO
 rw [List.map_append,List.map_map]
 have h2:((R.filter fun r=>decide (r.1∈ns)).map ((·.1) ∘ eN))=(R.filter fun r=>decide (r.1∈ns)).map (·.1):=rfl
 rw [h2,<- List.map_append]
 refine List.Perm.map _ ?_
 have:=List.filter_append_perm (fun r:Row=>!decide (r.1∈ns)) R
 simpa using this
theorem pG {ns ws:List Str} (h1:ns.Nodup) (h2:ws.Nodup):(oneOf ns ws).Nodup:=by
 refine List.nodup_append.mpr ⟨h1.filter _,h2.filter _,fun x hx y hy e=>?_⟩
 subst e
 have a:=(List.mem_filter.mp hx).1
 have b:=(List.mem_filter.mp hy).2
 simp [a] at b
theorem tfs {α:Type} (p:α->Bool) (l:List α) (i:Nat) (x:α) (h:l[i]?=some x):(l.take (i + 1)).filter p=(l.take i).filter p++(if p x then [x] else []):=by
 rw [List.take_add_one,h,List.filter_append]
 simp [List.filter_cons]
theorem fA {α:Type} (p:α->Bool) (l:List α) (i:Nat):((l.take i).filter p).length<=i:=Nat.le_trans (List.length_filter_le _ _) (by rw [List.length_take];omega)
section
variable {P:Program}{w:World}{K:PySem.W.Frag}{mg:Str->Option Value}{base:Heap}
theorem uH:aP ["web","names"] ["web","names"] (ao (top 21)):=⟨rfl,rfl,rfl,by decide +kernel,rfl,by decide +kernel,by decide +kernel⟩
noncomputable def kO:Sp:=fun vs H Q _=>∃(v pa ra tk:Addr) (ps ns:List Str) (rs:List T),vs=[.ref v,.ref tk]/\br H v pa ra ps rs/\rs.length<=60/\H tk=some (.lst (ns.map V.str))/\∀(q:Addr) (H':Hp),ah H H'->H' q=some (.lst (aq (rs.filter fun r=>decide (r.2.1∈ns))))->Q (.ref q) H'
theorem ph {f:Addr}{fd:FuncData} (F:Fun K "rows_of" "rows_of" (top 21) f fd):ax P w K mg base CX0 1 f fd ["web","names"] kO:=by
 refine F.ok uH (fun vs H Q E h=>?_) (fun cdv A outer s H vs Q E hr h=>?_)
 ·obtain⟨v,pa,ra,tk,ps,ns,rs,rfl,_⟩:=h
  rfl
 ·obtain⟨v,pa,ra,tk,ps,ns,rs,rfl,W,hz,ht,k⟩:=h
  refine⟨_,av (aI (bC (N:=["row","names"]) (ix:=[none,some 1]) ⟨rfl,rfl,rfl,by decide⟩ rfl (cK (ay aF (pv 0) ai (fun _ _=>rfl))) (fun _ _ _ _=>bp 0 (by decide) rfl rfl)
   (fun _ _ _ _=>dq (aM (lF K) (ay (bJ K) (pv 0) ai (fun _ _=>rfl)) (pv 1) (by with_unfolding_all rfl))) (fun _ _ _ _=>pv 0))),?_⟩
  refine⟨_,rfl,aC (j:=1) (.inr (SqT.of W.tp)) rfl rfl ⟨ra,rfl,⟨_,SqT.of W.rl⟩,fP (xs:=aq rs) (fits (by rw [List.length_map];omega)) (fun i ys σ H1=>ys=aq ((rs.take i).filter fun r=>decide (r.2.1∈ns))/\H1=H/\∃g,σ=[g,some (.ref tk)]) ⟨rfl,rfl,_,rfl⟩
   (fun i ys σ H1 _ q=>⟨by rw [q.1,List.length_map];exact fA _ _ _,by rw [q.2.1];exact SqT.of W.rl⟩) ?_ ?_⟩⟩
  ·rintro i x ys σ H1 hx ⟨rfl,rfl,g,rfl⟩
   obtain⟨r,hri,rfl⟩:=ck hx
   have tf:=tfs (fun r:T=>decide (r.2.1∈ns)) rs i r hri
   refine⟨_,rfl,aC (j:=0) (.inr (SqT.of (W.rows r (List.mem_of_getElem? hri)))) rfl rfl ⟨_,rfl,tk,ns.map V.str,rfl,.inl (SqL.of ht),rfl,cm ns,_,rfl,?_⟩⟩
   show if inV (.str r.2.1) (ns.map V.str)=true then _ else _
   rw [cn]
   refine aS (fun c=>⟨_,rfl,?_,rfl,_,rfl⟩) (fun c=>⟨?_,rfl,_,rfl⟩)
   ·rw [tf,c];simp
   ·rw [tf];simp only [Bool.not_eq_true] at c;rw [c];simp
  ·rintro ys σ H1 ⟨rfl,rfl,g,rfl⟩ q hq
   rw [take_all rs (by simp)]
   exact k q _ (am (ah.refl _) hq) aj
theorem ux:aP ["some","others"] ["some","others"] (ao (top 38)):=⟨rfl,rfl,rfl,by decide +kernel,rfl,by decide +kernel,by decide +kernel⟩
noncomputable def iM:Sp:=fun vs H Q _=>∃(a b:Addr) (ns ws:List Str),vs=[.ref a,.ref b]/\H a=some (.lst (ns.map V.str))/\H b=some (.tup (ws.map V.str))/\ns.length<=100/\ws.length<=100/\∀(q:Addr) (H':Hp),ah H H'->H' q=some (.lst ((oneOf ns ws).map V.str))->Q (.ref q) H'
theorem pJ {f:Addr}{fd:FuncData} (F:Fun K "in_one_of" "in_one_of" (top 38) f fd):ax P w K mg base CX0 1 f fd ["some","others"] iM:=by
 refine F.ok ux (fun vs H Q E h=>?_) (fun cdv A outer s H vs Q E hr h=>?_)
 ·obtain⟨a,b,ns,ws,rfl,_⟩:=h
  rfl
 ·obtain⟨a,b,ns,ws,rfl,ha,hb,hn,hw,k⟩:=h
  refine' ⟨_,av (aI ?r),?main⟩
  case' r=>refine' aE ce ?r1 ?r2
  case r1=>exact bC (N:=["name","others"]) (ix:=[none,some 1]) ⟨rfl,rfl,rfl,by decide⟩ rfl (dE (pv 0)) (fun _ _ _ _=>bp 0 (by decide) rfl rfl) (fun _ _ _ _=>dq (aM (fc K) (pv 0) (pv 1) (by with_unfolding_all rfl))) (fun _ _ _ _=>pv 0)
  case r2=>exact bC (N:=["name","some"]) (ix:=[none,some 0]) ⟨rfl,rfl,rfl,by decide⟩ rfl (cK (pv 1)) (fun _ _ _ _=>bp 0 (by decide) rfl rfl) (fun _ _ _ _=>dq (aM (fc K) (pv 0) (pv 1) (by with_unfolding_all rfl))) (fun _ _ _ _=>pv 0)
  case main =>
  refine⟨_,rfl,a,rfl,⟨_,SqL.of ha⟩,gv (xs:=ns.map V.str) (fits (by rw [List.length_map];omega)) (fun i ys σ H1=>ys=((ns.take i).filter fun x=>!decide (x∈ws)).map V.str/\H1=H/\∃g,σ=[g,some (.ref b)]) ⟨rfl,rfl,_,rfl⟩
   (fun i ys σ H1 _ q=>⟨by rw [q.1,List.length_map];exact fA _ _ _,by rw [q.2.1];exact SqL.of ha⟩) ?_ ?_⟩
  ·rintro i x ys σ H1 hx ⟨rfl,rfl,g,rfl⟩
   rw [List.getElem?_map] at hx
   cases hc:ns[i]? with
   | none=>rw [hc] at hx;cases hx
   | some z =>
    rw [hc] at hx
    cases hx
    have tf:=tfs (fun x:Str=>!decide (x∈ws)) ns i z hc
    refine⟨_,rfl,_,rfl,b,ws.map V.str,rfl,.inr (SqT.of hb),rfl,cm ws,_,rfl,?_⟩
    show if (!inV (.str z) (ws.map V.str))=true then _ else _
    rw [cn]
    refine aS (fun c=>⟨_,rfl,?_,rfl,_,rfl⟩) (fun c=>⟨?_,rfl,_,rfl⟩)
    ·rw [tf,c];simp
    ·rw [tf];simp only [Bool.not_eq_true] at c;rw [c];simp
  rintro ys σ H1 ⟨rfl,rfl,g,rfl⟩ q1 hq1
  rw [take_all ns (by simp)]
  have s1:=am (o:=.lst ((ns.filter fun x=>!decide (x∈ws)).map V.str)) (ah.refl H1) hq1
  have e1:upd H1 q1 (.lst ((ns.filter fun x=>!decide (x∈ws)).map V.str)) q1=some (.lst ((ns.filter fun x=>!decide (x∈ws)).map V.str)):=aj
  generalize upd H1 q1 (.lst ((ns.filter fun x=>!decide (x∈ws)).map V.str))=H2 at s1 e1 ⊢
  refine⟨_,rfl,b,rfl,⟨_,SqT.of (s1 _ _ hb)⟩,fP (xs:=ws.map V.str) (fits (by rw [List.length_map];omega)) (fun i ys σ H3=>ys=((ws.take i).filter fun x=>!decide (x∈ns)).map V.str/\H3=H2/\∃g,σ=[g,some (.ref a)]) ⟨rfl,rfl,_,rfl⟩
   (fun i ys σ H3 _ q=>⟨by rw [q.1,List.length_map];exact fA _ _ _,by rw [q.2.1];exact SqT.of (s1 _ _ hb)⟩) ?_ ?_⟩
  ·rintro i x ys σ H3 hx ⟨rfl,rfl,g,rfl⟩
   rw [List.getElem?_map] at hx
   cases hc:ws[i]? with
   | none=>rw [hc] at hx;cases hx
   | some z =>
    rw [hc] at hx
    cases hx
    have tf:=tfs (fun x:Str=>!decide (x∈ns)) ws i z hc
    refine⟨_,rfl,_,rfl,a,ns.map V.str,rfl,.inl (SqL.of (s1 _ _ ha)),rfl,cm ns,_,rfl,?_⟩
    show if (!inV (.str z) (ns.map V.str))=true then _ else _
    rw [cn]
    refine aS (fun c=>⟨_,rfl,?_,rfl,_,rfl⟩) (fun c=>⟨?_,rfl,_,rfl⟩)
    ·rw [tf,c];simp
    ·rw [tf];simp only [Bool.not_eq_true] at c;rw [c];simp
  rintro ys σ H3 ⟨rfl,rfl,g,rfl⟩ q2 hq2
  rw [take_all ws (by simp)]
  have s2:=am (o:=.lst ((ws.filter fun x=>!decide (x∈ns)).map V.str)) (ah.refl H3) hq2
  have e2:upd H3 q2 (.lst ((ws.filter fun x=>!decide (x∈ns)).map V.str)) q2=some (.lst ((ws.filter fun x=>!decide (x∈ns)).map V.str)):=aj
  generalize upd H3 q2 (.lst ((ws.filter fun x=>!decide (x∈ns)).map V.str))=H4 at s2 e2 ⊢
  have l1:=List.length_filter_le (fun x:Str=>!decide (x∈ws)) ns
  have l2:=List.length_filter_le (fun x:Str=>!decide (x∈ns)) ws
  refine⟨q1,q2,_,_,rfl,rfl,s2 _ _ e1,e2,Nat.le_of_lt (fits (by rw [List.length_map,List.length_map];omega)),fun q hq=>?_⟩
  have s3:=am (o:=.lst ((ns.filter fun x=>!decide (x∈ws)).map V.str++(ws.filter fun x=>!decide (x∈ns)).map V.str)) (ah.refl H4) hq
  refine k q _ (s1.trans (s2.trans s3)) ?_
  rw [aj,<- List.map_append];rfl
noncomputable abbrev N37:List Str:=["rows","taken","back"]
theorem nM:aP N37 ["rows","taken"] (ao (top 37)):=⟨rfl,rfl,rfl,by decide +kernel,rfl,by decide +kernel,by decide +kernel⟩
noncomputable def gS:Sp:=fun vs H Q _=>∃(ra tk:Addr) (ns:List Str) (rs:List T),vs=[.ref ra,.ref tk]/\H ra=some (.tup (aq rs))/\bA H rs/\rs.length<=60/\H tk=some (.lst (ns.map V.str))/\∀(q:Addr) (ls:List T) (H':Hp),ah H H'->H' q=some (.lst (aq ls))->bA H' ls->ls.map (·.2)=cO (rs.map (·.2)) ns->Q (.ref q) H'
theorem sx {f:Addr}{fd:FuncData} (F:Fun K "rows_left" "rows_left" (top 37) f fd):ax P w K mg base CX0 1 f fd ["rows","taken"] gS:=by
 refine F.ok nM (fun vs H Q E h=>?_) (fun cdv A outer s H vs Q E hr h=>?_)
 ·obtain⟨ra,tk,ns,rs,rfl,_⟩:=h
  rfl
 ·obtain⟨ra,tk,ns,rs,rfl,hra,hrows,hz,ht,k⟩:=h
  refine' ⟨_,ak ?s1 (av (aI ?r)),?main⟩
  case s1 =>
   refine' gB (i:=2) (N:=["name","start","end","taken"]) (ix:=[none,none,none,some 1]) nM.nd rfl (Or.inl rfl) ⟨rfl,rfl,rfl,by decide⟩ rfl ?q1 ?q2 ?q3 ?q4
   case q1=>exact (cK (pv 0))
   case q2=>exact (fun _ _ _ _=>iT K rfl (n:=3) (bt (bp 0 (by decide) rfl rfl) (bt (bp 1 (by decide) rfl rfl) (bt (bp 2 (by decide) rfl rfl) dn))))
   case q3=>exact (fun _ _ _ _=>dq (aM (lF K) (pv 0) (pv 3) (by with_unfolding_all rfl)))
   case q4=>exact (fun _ _ _ _=>aH (ae (pv 0) (ae (pv 2) (ae (pv 1) ag))))
  case' r=>refine' aE ce ?r1 (pv 2)
  case r1=>exact bC (N:=["row","taken"]) (ix:=[none,some 1]) ⟨rfl,rfl,rfl,by decide⟩ rfl (cK (pv 0)) (fun _ _ _ _=>bp 0 (by decide) rfl rfl) (fun _ _ _ _=>dq (aM (fc K) (ay (bJ K) (pv 0) ai (fun _ _=>rfl)) (pv 1) (by with_unfolding_all rfl))) (fun _ _ _ _=>pv 0)
  case main =>
  refine⟨_,rfl,ra,rfl,⟨_,SqT.of hra⟩,iL (xs:=aq rs) (fits (by rw [List.length_map];omega)) (fun i ys σ H1=>(∃bs:List T,ys=aq bs/\bs.length<=i/\bA H1 bs/\bs.map (·.2)=((((rs.take i).map (·.2)).filter fun r=>decide (r.1∈ns)).map eN))/\ah H H1/\∃g1 g2 g3,σ=[g1,g2,g3,some (.ref tk)]) ⟨⟨[],rfl,by simp,⟨fun r hr=>nomatch hr⟩,rfl⟩,ah.refl _,_,_,_,rfl⟩
   (fun i ys σ H1 _ q=>by obtain⟨⟨bs,rfl,hb,_⟩,s1,_⟩:=q;exact⟨by rw [List.length_map];exact hb,SqT.of (s1 _ _ hra)⟩) ?_ ?_⟩
  ·rintro i x ys σ H1 hx ⟨⟨bs,rfl,hb,Rb,eb⟩,s1,g1,g2,g3,rfl⟩
   obtain⟨r,hri,rfl⟩:=ck hx
   have hrr:=s1 _ _ (hrows.e r (List.mem_of_getElem? hri))
   have tf:(((rs.take (i + 1)).map (·.2)).filter fun r=>decide (r.1∈ns)).map eN=(((rs.take i).map (·.2)).filter fun r=>decide (r.1∈ns)).map eN++(if decide (r.2.1∈ns)=true then [eN r.2] else []):=by
    rw [List.take_add_one,hri,List.map_append,List.filter_append,List.map_append]
    by_cases c:r.2.1∈ns <;> simp [c]
   refine⟨r.1,_,rfl,SqT.of hrr,rfl,_,_,rfl,_,_,rfl,_,_,rfl,rfl,?_⟩
   refine⟨_,rfl,_,rfl,tk,ns.map V.str,rfl,.inl (SqL.of (s1 _ _ ht)),rfl,cm ns,_,rfl,?_⟩
   show if inV (.str r.2.1) (ns.map V.str)=true then _ else _
   rw [cn]
   refine aS (fun c=>⟨_,rfl,_,rfl,_,rfl,by show 3<=sizeLine;decide,fun t hT=>?_⟩) (fun c=>⟨⟨bs,rfl,by omega,Rb,by rw [tf,eb];simp only [Bool.not_eq_true] at c;rw [c];simp⟩,s1,_,_,_,rfl⟩)
   have s2:=am (o:=.tup [.str r.2.1,.str r.2.2.2,.str r.2.2.1]) (ah.refl H1) hT
   refine⟨⟨bs++[(t,eN r.2)],by simp,by simp;omega,⟨fun b hbm=>?_⟩,by rw [List.map_append,tf,eb,c];rfl⟩,s1.trans s2,_,_,_,rfl⟩
   rcases List.mem_append.mp hbm with z | z
   ·exact s2 _ _ (Rb.e b z)
   ·rw [List.mem_singleton.mp z];exact aj
  rintro ys σ H1 ⟨⟨bs,rfl,hb,Rb,eb⟩,s1,g1,g2,g3,rfl⟩ q1 hq1
  rw [take_all rs (by simp)] at eb
  have s2:=am (o:=.lst (aq bs)) (ah.refl H1) hq1
  have e2:upd H1 q1 (.lst (aq bs)) q1=some (.lst (aq bs)):=aj
  generalize upd H1 q1 (.lst (aq bs))=H2 at s2 e2 ⊢
  have t2:=s1.trans s2
  have hra2:=t2 _ _ hra
  refine⟨_,rfl,ra,rfl,⟨_,SqT.of hra2⟩,fP (xs:=aq rs) (fits (by rw [List.length_map];omega)) (fun i ys σ H3=>ys=aq ((rs.take i).filter fun r=>!decide (r.2.1∈ns))/\H3=H2/\∃g,σ=[g,some (.ref tk)]) ⟨rfl,rfl,_,rfl⟩
   (fun i ys σ H3 _ q=>⟨by rw [q.1,List.length_map];exact fA _ _ _,by rw [q.2.1];exact SqT.of hra2⟩) ?_ ?_⟩
  ·rintro i x ys σ H3 hx ⟨rfl,rfl,g,rfl⟩
   obtain⟨r,hri,rfl⟩:=ck hx
   have tf:=tfs (fun r:T=>!decide (r.2.1∈ns)) rs i r hri
   refine⟨_,rfl,aC (j:=0) (.inr (SqT.of (t2 _ _ (hrows.e r (List.mem_of_getElem? hri))))) rfl rfl ⟨_,rfl,tk,ns.map V.str,rfl,.inl (SqL.of (t2 _ _ ht)),rfl,cm ns,_,rfl,?_⟩⟩
   show if (!inV (.str r.2.1) (ns.map V.str))=true then _ else _
   rw [cn]
   refine aS (fun c=>⟨_,rfl,?_,rfl,_,rfl⟩) (fun c=>⟨?_,rfl,_,rfl⟩)
   ·rw [tf,c];simp
   ·rw [tf];simp only [Bool.not_eq_true] at c;rw [c];simp
  rintro ys σ H3 ⟨rfl,rfl,g,rfl⟩ q2 hq2
  rw [take_all rs (by simp)]
  have s3:=am (o:=.lst (aq (rs.filter fun r=>!decide (r.2.1∈ns)))) (ah.refl H3) hq2
  have e3:upd H3 q2 (.lst (aq (rs.filter fun r=>!decide (r.2.1∈ns)))) q2=some (.lst (aq (rs.filter fun r=>!decide (r.2.1∈ns)))):=aj
  generalize upd H3 q2 (.lst (aq (rs.filter fun r=>!decide (r.2.1∈ns))))=H4 at s3 e3 ⊢
  have l1:=List.length_filter_le (fun r:T=>!decide (r.2.1∈ns)) rs
  have hbl:bs.length<=rs.length:=by simpa using hb
  refine⟨_,rfl,q2,q1,_,_,rfl,rfl,e3,s3 _ _ e2,Nat.le_of_lt (fits (by rw [List.length_map,List.length_map];exact Nat.le_trans (Nat.add_le_add (List.length_filter_le _ _) hbl) (by omega))),fun q hq=>?_⟩
  have s4:=am (o:=.lst (aq (rs.filter fun r=>!decide (r.2.1∈ns))++aq bs)) (ah.refl H4) hq
  have t4:=t2.trans (s3.trans s4)
  refine k q ((rs.filter fun r=>!decide (r.2.1∈ns))++bs) _ t4 (by rw [aj,<- List.map_append]) ⟨fun r hr=>?_⟩ ?_
  ·rcases List.mem_append.mp hr with z | z
   ·exact t4 _ _ (hrows.e r (List.mem_filter.mp z).1)
   ·exact (s2.trans (s3.trans s4)) _ _ (Rb.e r z)
  ·rw [List.map_append,eb]
   unfold cO
   rw [List.filter_map,List.filter_map]
   rfl
end
theorem qE (R:List Row):cO R []=R:=by
 unfold cO
 rw [List.filter_eq_self.mpr (by simp),List.filter_eq_nil_iff.mpr (by simp)]
 simp
theorem kD {rs:List T}{a b:Str}{ps:List Str} (F:cc rs a (first rs a)) (hb:b∈fnd a (first rs a)) (ha:a∈ps) (h:∀r∈rs,r.2.2.2∈ps) (hz:ps.length<=100):fz rs a (dh (first rs a) a b) b/\(dh (first rs a) a b).length<=100:=by
 obtain⟨n,hd⟩:=F.mem b hb
 have hnl:=iW ha (fun r hr=>by obtain⟨t,ht,rfl⟩:=List.mem_map.mp hr;exact h t ht) hd
 obtain⟨w,l⟩:=F.way 200 n b (by omega) hb hd
 rw [kZ]
 exact⟨w,by omega⟩
section
variable {P:Program}{w:World}{K:PySem.W.Frag}{mg:Str->Option Value}{base:Heap}
noncomputable abbrev N39:List Str:=["rows","a","b","taken","way"]
theorem gh:aP N39 ["rows","a","b"] (ao (top 39)):=⟨rfl,rfl,rfl,by decide +kernel,rfl,by decide +kernel,by decide +kernel⟩
noncomputable def lG:Sp:=fun vs H Q _=>∃(ra:Addr) (a b:Str) (ps:List Str) (rs:List T),vs=[.ref ra,.str a,.str b]/\H ra=some (.tup (aq rs))/\bA H rs/\Good ps (rs.map (·.2))/\a∈ps/\a≠b/\∀(q:Addr) (ns:List Str) (H':Hp),ah H H'->H' q=some (.lst (ns.map V.str))->ns.length<=60->Q (.ref q) H'
theorem rg {f:Addr}{fd:FuncData} (F:Fun K "taken_most" "taken_most" (top 39) f fd) (Fs:Fn P w K mg base 3 "short_way" ["rows","start","end"] iO) (FsL:Fn P w K mg base 3 "short_way" ["rows","start","end"] gE) (F1:Fn P w K mg base 1 "in_one_of" ["some","others"] iM) (F2:Fn P w K mg base 1 "rows_left" ["rows","taken"] gS):ax P w K mg base CX0 4 f fd ["rows","a","b"] lG:=by
 refine F.ok gh (fun vs H Q E h=>?_) (fun cdv A outer s H vs Q E hr h=>?_)
 ·obtain⟨ra,a,b,ps,rs,rfl,_⟩:=h
  rfl
 ·obtain⟨ra,a,b,ps,rs,rfl,hra,hrows,G,ha,hab,k⟩:=h
  have hr1:aK 1 _:=hr.mono (by decide)
  refine⟨_,ak (aG (i:=3) gh.nd rfl (Or.inl rfl) (aN ag))
   (ak (aG (i:=4) gh.nd rfl (Or.inl rfl) (aw Fs hr (ae (pv 0) (ae (pv 1) (ae (pv 2) ag)))))
   (ak (fh PassesOwn.never (aM lO (pv 4) eV (aQ _))
    (ak (aG (i:=3) gh.nd rfl (Or.inl rfl) (aw F1 hr1 (ae (pv 3) (ae (pv 4) ag))))
    (av (aG (i:=4) gh.nd rfl (Or.inl rfl) (aw FsL hr (ae (aw F2 hr1 (ae (pv 0) (ae (pv 3) ag))) (ae (pv 1) (ae (pv 2) ag))))))))
   (av (aI (pv 3))))),?_⟩
  have hrz:rs.length<=60:=by have:=G.rz;simpa using this
  have hRn:((rs.map (·.2)).map (·.1)).Nodup:=rk G.rso
  have hends:∀r∈rs,r.2.2.2∈ps:=fun r hr=>(G.rn r.2 (List.mem_map_of_mem hr)).2.2.1
  have hboth:∀r∈rs.map (·.2),r.2.1∈ps/\r.2.2∈ps:=fun r hr=>⟨(G.rn r hr).2.1,(G.rn r hr).2.2.1⟩
  refine⟨Nat.zero_le _,fun tk htk=>?_⟩
  have s1:=am (o:=.lst []) (ah.refl H) htk
  have t1:upd H tk (.lst []) tk=some (.lst (([]:List Str).map V.str)):=aj
  generalize upd H tk (.lst [])=H1 at s1 t1 ⊢
  let Wy:List Str->V->Hp->Prop:=fun ns wv H2=>wv=.non\/∃(u:Addr) (es:List Row),wv=.ref u/\H2 u=some (.tup ((es.map (·.1)).map V.str))/\EW (cO (rs.map (·.2)) ns) a es/\(es.map (·.1)).Nodup/\es.length<=100
  let J:Nat->L2.St->Hp->Prop:=fun m σ H2=>∃(ns:List Str) (tk:Addr) (wv:V),σ=[some (.ref ra),some (.str a),some (.str b),some (.ref tk),some wv]/\ah H H2/\H2 tk=some (.lst (ns.map V.str))/\ns.Nodup/\(∀x∈ns,x∈(rs.map (·.2)).map (·.1))/\Wy ns wv H2/\m=100 - ((rs.map (·.2)).filter (good a ns)).length
  have start:∀(H2:Hp) (wv:V),ah H1 H2->Wy [] wv H2->J _ [some (.ref ra),some (.str a),some (.str b),some (.ref tk),some wv] H2:=fun H2 wv s2 hw=>⟨[],tk,wv,rfl,s1.trans s2,s2 _ _ t1,List.nodup_nil,by simp,hw,rfl⟩
  have wayR:∀(ls:List T) (ns:List Str),ls.map (·.2)=cO (rs.map (·.2)) ns->cc ls a (first ls a)->b∈fnd a (first ls a)->(∀r∈ls,r.2.2.2∈ps)->∀(u:Addr) (H2:Hp),H2 u=some (.tup (dR (dh (first ls a) a b)))->Wy ns (.ref u) H2:=fun ls ns e Fu hb hle u H2 hu=>by
   obtain⟨w1,w2⟩:=kD Fu hb ha hle G.pz
   refine .inr ⟨u,(dh (first ls a) a b).map (·.2),rfl,?_,?_,?_,by rw [List.length_map];exact w2⟩
   ·rw [hu,List.map_map,List.map_map];rfl
   ·rw [<- e];exact w1.ew hab
   ·rw [List.map_map]
    refine w1.nodup ?_
    have:(ls.map (·.2.1))=(ls.map (·.2)).map (·.1):=by rw [List.map_map];rfl
    rw [this,e]
    exact (jO _ _).nodup_iff.mpr hRn
  have loop:∀(wv:V) (H2:Hp),ah H1 H2->Wy [] wv H2->fB (mf (jf (tOp (fun x y H Q=>y=.non/\Q (.bl (!decide (x=.non))) H) (ba 4) (tC .non))) (fB (fC (dM iM [] E0 (bK (ba 3) (bK (ba 4) bG))) (bV 3)) (fC (dM gE [] E0 (bK (dM gS [] E0 (bK (ba 0) (bK (ba 3) bG))) (bK (ba 1) (bK (ba 2) bG)))) (bV 4)))) (jq (ba 3)) { nx:=fun _ H'=>Q .non H',rt:=Q } [some (.ref ra),some (.str a),some (.str b),some (.ref tk),some wv] H2:=by
   intro wv H2 s2 hw
   refine⟨J,⟨_,start H2 wv s2 hw⟩,?_⟩
   rintro m σ H3 ⟨ns,tk,wv,rfl,s3,t3,nd,sub,hw,rfl⟩
   have nl:ns.length<=60:=by
    have:=fN nd sub
    simp at this
    omega
   refine⟨_,rfl,rfl,_,rfl,?_⟩
   rcases hw with rfl | ⟨u,es,rfl,hu,W,wnd,wl⟩
   ·exact aL ⟨_,rfl,k tk ns H3 s3 t3 nl⟩
   ·refine aA ⟨fun σ' H'=>∃m',m' < 100 - ((rs.map (·.2)).filter (good a ns)).length/\J m' σ' H',fun σ' H' q=>q,?_⟩
    have more:=p9 hRn W
    have cb:((rs.map (·.2)).filter (good a (oneOf ns (es.map (·.1))))).length<=60:=Nat.le_trans (List.length_filter_le _ _) (by rw [List.length_map];exact hrz)
    have nd':=pG nd wnd
    have sub':∀x∈oneOf ns (es.map (·.1)),x∈(rs.map (·.2)).map (·.1):=fun x hx=>by
     rcases gM.mp hx with z | z
     ·exact sub x z.1
     ·obtain⟨e,he,rfl⟩:=List.mem_map.mp z.1
      exact (jO _ ns).mem_iff.mp (List.mem_map_of_mem (f:=fun z:Row=>z.1) (W.mem e he))
    refine⟨_,rfl,_,rfl,tk,u,ns,es.map (·.1),rfl,t3,hu,by omega,by rw [List.length_map];omega,fun q H4 s4 q4=>?_⟩
    have s04:=s3.trans s4
    refine⟨_,rfl,_,rfl,ra,q,_,rs,rfl,s04 _ _ hra,hrows.same s04,hrz,q4,fun lq ls H5 s5 l5 R5 e5=>?_⟩
    have hlen:ls.length<=60:=by
     have:=congrArg List.length e5
     rw [List.length_map,kQ,List.length_map] at this
     omega
    have hle:∀r∈ls,r.2.2.2∈ps:=fun r hr=>kK hboth r.2 (by rw [<- e5];exact List.mem_map_of_mem hr)
    have s05:=s04.trans s5
    refine⟨_,rfl,_,rfl,lq,a,b,ls,ps,rfl,l5,R5,ha,hle,G.pz,hlen,fun H6 s6 Fu=>⟨fun hb=>?_,fun hb v hv0 hv=>?_⟩⟩
    ·exact⟨_,by omega,_,q,.non,rfl,s05.trans s6,s6 _ _ (s5 _ _ q4),nd',sub',.inl rfl,rfl⟩
    ·exact⟨_,by omega,_,q,.ref v,rfl,s05.trans s6,s6 _ _ (s5 _ _ q4),nd',sub',wayR ls _ e5 Fu hb hle v H6 hv,rfl⟩
  refine⟨_,rfl,_,rfl,_,rfl,ra,a,b,rs,ps,rfl,s1 _ _ hra,hrows.same s1,ha,hends,G.pz,hrz,fun H2 s2 Fu=>⟨fun hb=>?_,fun hb u hu0 hu=>?_⟩⟩
  ·exact loop .non H2 s2 (.inl rfl)
  ·exact loop (.ref u) H2 s2 (wayR rs [] (qE _).symm Fu hb hends u H2 hu)
end
section
variable {P:Program}{w:World}{K:PySem.W.Frag}{mg:Str->Option Value}{base:Heap}
noncomputable abbrev N40:List Str:=["rows","a","b","told","left","way"]
theorem fF:aP N40 ["rows","a","b"] (ao (top 40)):=⟨rfl,rfl,rfl,by decide +kernel,rfl,by decide +kernel,by decide +kernel⟩
noncomputable def lQ:Sp:=fun vs H Q _=>∃(ra:Addr) (a b:Str) (ps:List Str) (rs:List T),vs=[.ref ra,.str a,.str b]/\H ra=some (.lst (aq rs))/\bA H rs/\a∈ps/\(∀r∈rs,r.2.2.2∈ps)/\ps.length<=100/\rs.length<=60/\a≠b/\∀(q:Addr) (H':Hp),ah H H'->Q (.ref q) H'
theorem qZ {f:Addr}{fd:FuncData} (F:Fun K "ways_apart" "ways_apart" (top 40) f fd) (FsL:Fn P w K mg base 3 "short_way" ["rows","start","end"] gE):ax P w K mg base CX0 4 f fd ["rows","a","b"] lQ:=by
 refine F.ok fF (fun vs H Q E h=>?_) (fun cdv A outer s H vs Q E hr h=>?_)
 ·obtain⟨ra,a,b,ps,rs,rfl,_⟩:=h
  rfl
 ·obtain⟨ra,a,b,ps,rs,rfl,hra,hrows,ha,hends,hpz,hrz,hab,k⟩:=h
  refine' ⟨_,?d0,?main⟩
  case' d0=>refine' ak (aG (i:=3) fF.nd rfl (Or.inl rfl) (aN ag)) ?d1
  case' d1=>refine' ak (aG (i:=4) fF.nd rfl (Or.inl rfl) (pv 0)) ?d2
  case' d2=>refine' ak (aG (i:=5) fF.nd rfl (Or.inr rfl) (aw FsL hr (ae (pv 4) (ae (pv 1) (ae (pv 2) ag))))) ?d3
  case' d3=>refine' ak ?lp (av (aI (pv 3)))
  case' lp=>refine' fh PassesOwn.never (aM lO (pv 5) eV (aQ _)) ?b0
  case' b0=>refine' ak (bj (cF PySem.F.plainAttrs_list PySem.F.slot_list_append PySem.F.type_list_append dj (pv 3) (ae (pv 5) ag))) ?b1
  case' b1=>refine' ak ?b2 (av (aG (i:=5) fF.nd rfl (Or.inr rfl) (aw FsL hr (ae (pv 4) (ae (pv 1) (ae (pv 2) ag))))))
  case b2 =>
   refine' gB (i:=4) (N:=["row","way"]) (ix:=[none,some 5]) fF.nd rfl (Or.inl rfl) ⟨rfl,rfl,rfl,by decide⟩ rfl ?q1 ?q2 ?q3 ?q4
   case q1=>exact (dE (pv 4))
   case q2=>exact (fun _ _ _ _=>bp 0 (by decide) rfl rfl)
   case q3=>exact (fun _ _ _ _=>dq (aM (fc K) (ay (bJ K) (pv 0) ai (fun _ _=>rfl)) (pv 1) (by with_unfolding_all rfl)))
   case q4=>exact (fun _ _ _ _=>pv 0)
  case main =>
  refine⟨Nat.zero_le _,fun to hto=>?_⟩
  have s1:=am (o:=.lst []) (ah.refl H) hto
  have t1:upd H to (.lst []) to=some (.lst []):=aj
  generalize upd H to (.lst [])=H1 at s1 t1 ⊢
  let Wy:List T->V->Hp->Prop:=fun ls wv H2=>wv=.non\/∃(u:Addr) (ws:List Str),wv=.ref u/\H2 u=some (.tup (ws.map V.str))/\(∃t∈ls,t.2.1∈ws)
  have wayR:∀(ls:List T),cc ls a (first ls a)->b∈fnd a (first ls a)->(∀r∈ls,r.2.2.2∈ps)->∀(u:Addr) (H2:Hp),H2 u=some (.tup (dR (dh (first ls a) a b)))->Wy ls (.ref u) H2:=fun ls Fu hb hle u H2 hu=>by
   obtain⟨w1,w2⟩:=kD Fu hb ha hle hpz
   refine .inr ⟨u,(dh (first ls a) a b).map (·.2.1),rfl,by rw [hu,List.map_map];rfl,?_⟩
   cases e:dh (first ls a) a b with
   | nil=>rw [e] at w1;exact absurd w1.last hab
   | cons t r =>
    rw [e] at w1
    exact⟨t,(w1.at' 0 t rfl).1,by simp⟩
  let J:Nat->L2.St->Hp->Prop:=fun m σ H2=>∃(ls:List T) (lf:Addr) (wv:V) (xs:List V),σ=[some (.ref ra),some (.str a),some (.str b),some (.ref to),some (.ref lf),some wv]/\ah H H2/\H2 to=some (.lst xs)/\xs.length + ls.length<=60/\H2 lf=some (.lst (aq ls))/\bA H2 ls/\(∀r∈ls,r.2.2.2∈ps)/\lf≠to/\Wy ls wv H2/\m=ls.length
  have nrt:ra≠to:=fun z=>by rw [z,hto] at hra;cases hra
  refine⟨_,rfl,_,rfl,_,rfl,_,rfl,ra,a,b,rs,ps,rfl,s1 _ _ hra,hrows.same s1,ha,hends,hpz,hrz,fun H2 s2 Fu=>⟨fun hb=>?g1,fun hb u hu0 hu=>?g2⟩⟩
  case' g1=>have hW:Wy rs .non H2:=.inl rfl
  case' g2=>have hW:Wy rs (.ref u) H2:=wayR rs Fu hb hends u H2 hu
  all_goals
   refine⟨J,⟨_,rs,ra,_,[],rfl,s1.trans s2,s2 _ _ t1,by simpa using hrz,(s1.trans s2) _ _ hra,hrows.same (s1.trans s2),hends,nrt,hW,rfl⟩,?_⟩
   rintro m σ H3 ⟨ls,lf,wv,xs,rfl,s3,t3,hl3,lf3,R3,he3,nlt3,hw3,rfl⟩
   refine⟨_,rfl,rfl,_,rfl,?_⟩
   rcases hw3 with rfl | ⟨v,ws,rfl,hv,tt,htt,hin⟩
   ·exact aL ⟨_,rfl,k to H3 s3⟩
   ·refine aA ⟨fun σ' H'=>∃m',m' < ls.length/\J m' σ' H',fun σ' H' q=>q,?_⟩
    refine⟨_,rfl,.inl ⟨rfl,_,SqL.of t3⟩,_,rfl,to,xs,.ref v,rfl,rfl,t3,fits (by omega),?_⟩
    have s4:ah H (upd H3 to (.lst (xs++[.ref v]))):=ah.upd0 s3 hto
    have t4:upd H3 to (.lst (xs++[.ref v])) to=some (.lst (xs++[.ref v])):=aj
    have lf4:upd H3 to (.lst (xs++[.ref v])) lf=some (.lst (aq ls)):=by rw [au nlt3];exact lf3
    have v4:upd H3 to (.lst (xs++[.ref v])) v=some (.tup (ws.map V.str)):=by rw [au (fun z=>by rw [z,t3] at hv;cases hv)];exact hv
    have R4:bA (upd H3 to (.lst (xs++[.ref v]))) ls:=⟨fun r hr=>by
     have e:=R3.e r hr
     show upd H3 to (.lst (xs++[.ref v])) r.1=_
     rw [au (fun z=>by have e':H3 r.1=_:=e;rw [z,t3] at e';cases e')]
     exact e⟩
    generalize upd H3 to (.lst (xs++[.ref v]))=H4 at s4 t4 lf4 v4 R4 ⊢
    refine⟨_,rfl,lf,rfl,⟨_,SqL.of lf4⟩,gv (xs:=aq ls) (fits (by rw [List.length_map];omega)) (fun i ys σ H5=>ys=aq ((ls.take i).filter fun r=>!decide (r.2.1∈ws))/\H5=H4/\∃g,σ=[g,some (.ref v)]) ⟨rfl,rfl,_,rfl⟩
     (fun i ys σ H5 _ q=>⟨by rw [q.1,List.length_map];exact fA _ _ _,by rw [q.2.1];exact SqL.of lf4⟩) ?_ ?_⟩
    ·rintro i x ys σ H5 hx ⟨rfl,rfl,g,rfl⟩
     obtain⟨r,hri,rfl⟩:=ck hx
     have tf:=tfs (fun r:T=>!decide (r.2.1∈ws)) ls i r hri
     refine⟨_,rfl,aC (j:=0) (.inr (SqT.of (R4.e r (List.mem_of_getElem? hri)))) rfl rfl ⟨_,rfl,v,ws.map V.str,rfl,.inr (SqT.of v4),rfl,cm ws,_,rfl,?_⟩⟩
     show if (!inV (.str r.2.1) (ws.map V.str))=true then _ else _
     rw [cn]
     refine aS (fun c=>⟨_,rfl,?_,rfl,_,rfl⟩) (fun c=>⟨?_,rfl,_,rfl⟩)
     ·rw [tf,c];simp
     ·rw [tf];simp only [Bool.not_eq_true] at c;rw [c];simp
    rintro ys σ H5 ⟨rfl,rfl,g,rfl⟩ l2 hl2
    rw [take_all ls (by simp)]
    have s5:=am (o:=.lst (aq (ls.filter fun r=>!decide (r.2.1∈ws)))) (ah.refl H5) hl2
    have l5:upd H5 l2 (.lst (aq (ls.filter fun r=>!decide (r.2.1∈ws)))) l2=some (.lst (aq (ls.filter fun r=>!decide (r.2.1∈ws)))):=aj
    have less:(ls.filter fun r=>!decide (r.2.1∈ws)).length < ls.length:=by
     have:=ir (p:=fun r:T=>!decide (r.2.1∈ws)) (q:=fun _=>true) (l:=ls) (fun _ _ _=>rfl) ⟨tt,htt,by simp [hin],rfl⟩
     rw [List.filter_eq_self.mpr (fun _ _=>rfl)] at this
     exact this
    have R5:bA (upd H5 l2 (.lst (aq (ls.filter fun r=>!decide (r.2.1∈ws))))) (ls.filter fun r=>!decide (r.2.1∈ws)):=⟨fun r hr=>s5 _ _ (R4.e r (List.mem_filter.mp hr).1)⟩
    have he5:∀r∈(ls.filter fun r=>!decide (r.2.1∈ws)),r.2.2.2∈ps:=fun r hr=>he3 r (List.mem_filter.mp hr).1
    have n2:l2≠to:=fun z=>by rw [z,t4] at hl2;cases hl2
    generalize (ls.filter fun r=>!decide (r.2.1∈ws))=ls2 at s5 l5 less R5 he5 ⊢
    generalize upd H5 l2 (.lst (aq ls2))=H6 at s5 l5 R5 ⊢
    refine⟨_,rfl,_,rfl,_,rfl,l2,a,b,ls2,ps,rfl,l5,R5,ha,he5,hpz,by omega,fun H7 s7 Fu'=>⟨fun hb'=>?_,fun hb' u' hu0' hu'=>?_⟩⟩
    ·exact⟨_,less,ls2,l2,.non,_,rfl,s4.trans (s5.trans s7),s7 _ _ (s5 _ _ t4),by simp;omega,s7 _ _ l5,R5.same s7,he5,n2,.inl rfl,rfl⟩
    ·exact⟨_,less,ls2,l2,.ref u',_,rfl,s4.trans (s5.trans s7),s7 _ _ (s5 _ _ t4),by simp;omega,s7 _ _ l5,R5.same s7,he5,n2,wayR ls2 Fu' hb' he5 u' H7 hu',rfl⟩
theorem uh:aP ["web","a","b"] ["web","a","b"] (ao (top 24)):=⟨rfl,rfl,rfl,by decide +kernel,rfl,by decide +kernel,by decide +kernel⟩
noncomputable def jh (C:Addr):Sp:=fun vs H Q E=>∃(v pa ra:Addr) (ps:List Str) (rs:List T) (x y:V),vs=[.ref v,x,y]/\br H v pa ra ps rs /\
 ((aY ps x H/\E (.ref C) none H)\/∃a,x=.str a/\a∈ps/\((aY ps y H/\E (.ref C) none H)\/∃b,y=.str b/\b∈ps/\(a=b->E (.ref C) none H)/\(a≠b->Q .non H)))
theorem tF {f C:Addr}{fd:FuncData} (F:Fun K "need_two_places" "need_two_places" (top 24) f fd) (hx:mg "NoPlace"=some (.ref C)) (hC:eO base C) (F1:FnX P w K mg base 2 "need_place" ["web","thing"] (cT eA (fM C))):ax P w K mg base (CXE P w) 3 f fd ["web","a","b"] (jh C):=by
 refine F.okX uh (fun vs H Q E h=>?_) (fun cdv A outer s H vs Q E hr h=>?_)
 ·obtain⟨v,pa,ra,ps,rs,x,y,rfl,_⟩:=h
  rfl
 ·obtain⟨v,pa,ra,ps,rs,x,y,rfl,W,h⟩:=h
  refine⟨_,ak (bj (cL (E:=E) F1 hr cM (ae (pv 0) (ae (pv 1) ag)))) (ak (bj (cL (E:=E) F1 hr cM (ae (pv 0) (ae (pv 2) ag))))
   (av (bq (aM cX (pv 1) (pv 2) (aQ _)) (av (iw (W:=fun H=>E (.ref C) none H) hx hC hr.hd (ae bF ag) (fun pins σ H s h' ea args I m hW=>iY I m hW))) bc))),?_⟩
  rcases h with ⟨hx',k⟩ | ⟨a,rfl,ha,h⟩
  ·exact⟨_,rfl,_,rfl,.inr ⟨v,pa,ra,ps,rs,x,rfl,W,hx',k⟩⟩
  ·refine⟨_,rfl,_,rfl,.inl ⟨v,pa,ra,ps,rs,a,rfl,W,ha,?_⟩⟩
   rcases h with ⟨hy,k⟩ | ⟨b,rfl,hb,k1,k2⟩
   ·exact⟨_,rfl,_,rfl,.inr ⟨v,pa,ra,ps,rs,y,rfl,W,hy,k⟩⟩
   ·refine⟨_,rfl,_,rfl,.inl ⟨v,pa,ra,ps,rs,b,rfl,W,hb,_,rfl,_,rfl,rfl,_,rfl,?_⟩⟩
    by_cases c:a=b
    ·rw [decide_eq_true (show V.str a=V.str b by rw [c])]
     exact aA ⟨by show 1<=sizeLine;decide,k1 c⟩
    ·rw [decide_eq_false (show ¬ V.str a=V.str b from fun z=>c (V.str.inj z))]
     exact aL (k2 c)
noncomputable abbrev N41:List Str:=["web","a","b","taken","lot"]
theorem gZ:aP N41 ["web","a","b"] (ao (top 41)):=⟨rfl,rfl,rfl,by decide +kernel,rfl,by decide +kernel,by decide +kernel⟩
noncomputable def lx (CW CP:Addr):Sp:=fun vs H _ E=>(∃x y z:V,vs=[x,y,z]/\aD x H/\∀H',ah H H'->E (.ref CW) none H') \/
 ∃(v pa ra:Addr) (ps:List Str) (rs:List T) (x y:V),vs=[.ref v,x,y]/\br H v pa ra ps rs/\Good ps (rs.map (·.2))/\(aY ps x H\/∃a,x=.str a/\a∈ps/\(aY ps y H\/y=.str a))/\∀H',ah H H'->E (.ref CP) none H'
theorem qV {f CW CP:Addr}{fd:FuncData} (F:Fun K "ways" "ways" (top 41) f fd) (F1:FnX P w K mg base 4 "need_web" ["thing"] (cT (dz .non) (fu CW))) (F2:FnX P w K mg base 3 "need_two_places" ["web","a","b"] (jh CP)):ax P w K mg base (CXE P w) 5 f fd ["web","a","b"] (lx CW CP):=by
 refine F.okX gZ (fun vs H Q E h=>?_) (fun cdv A outer s H vs Q E hr h=>?_)
 ·rcases h with ⟨x,y,z,rfl,_⟩ | ⟨v,pa,ra,ps,rs,x,y,rfl,_⟩ <;> rfl
 ·have hr3:aK 3 _:=hr.mono (by decide)
  refine⟨_,ak (bj (cL (E:=E) F1 hr cM (ae (pv 0) ag))) (ak (bj (cL (E:=E) F2 hr3 cM (ae (pv 0) (ae (pv 1) (ae (pv 2) ag))))) dk),?_⟩
  rcases h with ⟨x,y,z,rfl,hw,k⟩ | ⟨v,pa,ra,ps,rs,x,y,rfl,W,G,hp,k⟩
  ·exact⟨_,rfl,.inr ⟨x,rfl,hw,k⟩⟩
  ·refine⟨_,rfl,.inl ⟨v,pa,ra,ps,rs,rfl,W,G,fun H1 s1=>⟨_,rfl,_,rfl,_,rfl,v,pa,ra,ps,rs,x,y,rfl,W.same s1,?_⟩⟩⟩
   rcases hp with hx | ⟨a,rfl,ha,hy | rfl⟩
   ·exact .inl ⟨hx.same s1,k H1 s1⟩
   ·exact .inr ⟨a,rfl,ha,.inl ⟨hy.same s1,k H1 s1⟩⟩
   ·exact .inr ⟨a,rfl,ha,.inr ⟨a,rfl,ha,fun _=>k H1 s1,fun c=>absurd rfl c⟩⟩
noncomputable def lI:Sp:=fun vs H Q _=>∃(v pa ra:Addr) (ps:List Str) (rs:List T) (a b:Str),vs=[.ref v,.str a,.str b]/\br H v pa ra ps rs/\Good ps (rs.map (·.2))/\a∈ps/\b∈ps/\a≠b/\∀(u:Addr) (H':Hp),ah H H'->Q (.ref u) H'
theorem qB {f CW CP:Addr}{fd:FuncData} (F:Fun K "ways" "ways" (top 41) f fd) (F1:FnX P w K mg base 4 "need_web" ["thing"] (cT (dz .non) (fu CW))) (F2:FnX P w K mg base 3 "need_two_places" ["web","a","b"] (jh CP)) (F3:Fn P w K mg base 4 "taken_most" ["rows","a","b"] lG) (F4:Fn P w K mg base 1 "places_beyond" ["web","found"] iH) (F5:Fn P w K mg base 2 "come_to" ["rows","start"] ly)
  (F6:Fn P w K mg base 1 "rows_left" ["rows","taken"] gS) (F7:Fn P w K mg base 4 "ways_apart" ["rows","a","b"] lQ) (F8:Fn P w K mg base 1 "rows_of" ["web","names"] kO):ax P w K mg base (CXE P w) 5 f fd ["web","a","b"] lI:=by
 refine F.okX gZ (fun vs H Q E h=>?_) (fun cdv A outer s H vs Q E hr h=>?_)
 ·obtain⟨v,pa,ra,ps,rs,a,b,rfl,_⟩:=h
  rfl
 ·obtain⟨v,pa,ra,ps,rs,a,b,rfl,W,G,ha,hb,hab,k⟩:=h
  have hr3:aK 3 _:=hr.mono (by decide)
  have hr2:aK 2 _:=hr.mono (by decide)
  have hr1:aK 1 _:=hr.mono (by decide)
  refine⟨_,ak (bj (cL (E:=E) F1 hr cM (ae (pv 0) ag))) (ak (bj (cL (E:=E) F2 hr3 cM (ae (pv 0) (ae (pv 1) (ae (pv 2) ag)))))
   (ak (aG (i:=3) gZ.nd rfl (Or.inl rfl) (aw F3 hr (ae (ay aF (pv 0) ai (fun _ _=>rfl)) (ae (pv 1) (ae (pv 2) ag)))))
   (ak (aG (i:=4) gZ.nd rfl (Or.inl rfl) (aw F4 hr1 (ae (pv 0) (ae (aw F5 hr2 (ae (aw F6 hr1 (ae (ay aF (pv 0) ai (fun _ _=>rfl)) (ae (pv 3) ag))) (ae (pv 1) ag))) ag))))
   (av (aI (aH (ae (aw F7 hr (ae (aw F8 hr1 (ae (pv 0) (ae (pv 3) ag))) (ae (pv 1) (ae (pv 2) ag)))) (ae (pv 4) ag)))))))),?_⟩
  have hrz:rs.length<=60:=by have:=G.rz;simpa using this
  have hends:∀r∈rs,r.2.2.2∈ps:=fun r hr=>(G.rn r.2 (List.mem_map_of_mem hr)).2.2.1
  have hboth:∀r∈rs.map (·.2),r.2.1∈ps/\r.2.2∈ps:=fun r hr=>⟨(G.rn r hr).2.1,(G.rn r hr).2.2.1⟩
  refine⟨_,rfl,.inl ⟨v,pa,ra,ps,rs,rfl,W,G,fun H1 s1=>⟨_,rfl,_,rfl,_,rfl,v,pa,ra,ps,rs,_,_,rfl,W.same s1,.inr ⟨a,rfl,ha,.inr ⟨b,rfl,hb,fun z=>absurd z hab,fun _=>?_⟩⟩⟩⟩⟩
  have W1:=W.same s1
  refine⟨_,rfl,aC (j:=1) (.inr (SqT.of W1.tp)) rfl rfl ⟨_,rfl,_,rfl,ra,a,b,ps,rs,rfl,W1.rl,⟨W1.rows⟩,G,ha,hab,fun tk ns H2 s2 t2 nl=>?_⟩⟩
  have W2:=W1.same s2
  refine⟨_,rfl,_,rfl,aC (j:=1) (.inr (SqT.of W2.tp)) rfl rfl ⟨_,rfl,ra,tk,ns,rs,rfl,W2.rl,⟨W2.rows⟩,hrz,t2,fun lq ls H3 s3 l3 R3 e3=>?_⟩⟩
  have hlen:ls.length<=60:=by
   have:=congrArg List.length e3
   rw [List.length_map,kQ,List.length_map] at this
   omega
  have hle:∀r∈ls,r.2.2.2∈ps:=fun r hr=>kK hboth r.2 (by rw [<- e3];exact List.mem_map_of_mem hr)
  refine⟨_,rfl,lq,a,ls,ps,rfl,l3,R3,ha,hle,G.pz,hlen,fun cq H4 s4 _ c4 _=>?_⟩
  have W4:=W2.same (s3.trans s4)
  refine⟨v,pa,ra,cq,ps,rs,_,rfl,W4,G.pz,c4,fun bu H5 s5 _ b5=>?_⟩
  have t25:=s3.trans (s4.trans s5)
  have W5:=W4.same s5
  refine⟨_,rfl,_,rfl,v,pa,ra,tk,ps,ns,rs,rfl,W5,hrz,t25 _ _ t2,fun oq H6 s6 o6=>?_⟩
  refine⟨_,rfl,_,rfl,oq,a,b,ps,_,rfl,o6,⟨fun r hr=>(W5.same s6).rows r (List.mem_filter.mp hr).1⟩,ha,fun r hr=>hends r (List.mem_filter.mp hr).1,G.pz,Nat.le_trans (List.length_filter_le _ _) hrz,hab,fun wq H7 s7=>?_⟩
  refine⟨_,rfl,by show 2<=sizeLine;decide,fun tq htq=>?_⟩
  exact k tq _ (s1.trans (s2.trans (t25.trans (s6.trans (s7.trans (am (ah.refl _) htq))))))
end
noncomputable def cutD (ds:List PyData) (lo hi:Option Int):List PyData:=(ds.drop (HT.sIx ds.length 0 lo)).take (HT.sIx ds.length ds.length hi - HT.sIx ds.length 0 lo)
theorem DVs.cut {H:Hp}{xs:List V}{ds:List PyData} (h:DVs H xs ds) (lo hi:Option Int):DVs H (dQ xs lo hi) (cutD ds lo hi):=by
 unfold dQ cutD
 rw [DVs.len h]
 exact DVs.take _ (DVs.drop _ h)
theorem Yd.slD {K:PySem.W.Frag}{te:TE}{σ:L2.St}{H:Hp}{ds:List PyData}{tlo thi:TO}{lo hi:Option Int} (h:Yd te σ H (Dv (.tuple ds))) (hl:∀(H:Hp) (Q:Option Int->Hp->Prop),Q lo H->tlo σ H Q) (hh:∀(H:Hp) (Q:Option Int->Hp->Prop),Q hi H->thi σ H Q):Yd (tSl (nJ K) te tlo thi) σ H (Dv (.tuple (cutD ds lo hi))):=fun H' s Q k=>h H' s _ fun x H1 s1 hx=>hl _ _ (hh _ _ (by
 cases hx with
 | @tup a xs _ e q =>
  refine⟨a,xs,rfl,SqT.of e,fun z=>?_,fun p hp=>?_⟩
  ·have q':=DVs.cut q lo hi
   rw [z] at q'
   exact k _ _ s1 (.tup e q')
  ·have s2:=am (o:=.tup (dQ xs lo hi)) (ah.refl H1) hp
   exact k _ _ (s1.trans s2) (.tup aj (DVs.same s2 (DVs.cut q lo hi)))))
theorem Yd.cast {te:TE}{σ:L2.St}{H:Hp}{d d':PyData} (h:Yd te σ H (Dv d)) (e:d=d'):Yd te σ H (Dv d'):=by rw [<- e];exact h
theorem Yd.ixD {K:PySem.W.Frag}{te ti:TE}{σ:L2.St}{H:Hp}{ds:List PyData}{d:PyData}{i:Int}{j:Nat} (h:Yd te σ H (Dv (.tuple ds))) (hi:∀(H:Hp) (Q:VK),Q (.int i) H->ti σ H Q) (e:ixN ds.length i=some j/\ds[j]?=some d):Yd (tOp (rIx K) te ti) σ H (Dv d):=fun H' s Q k=>h H' s _ fun x H1 s1 hx=>hi _ _ (by
 cases hx with
 | @tup a xs _ e1 q =>
  have hjl:j < xs.length:=by rw [DVs.len q];exact (List.getElem?_eq_some_iff.mp e.2).1
  obtain⟨d',hd',dv⟩:=DVs.at q (List.getElem?_eq_getElem hjl)
  rw [e.2] at hd'
  cases hd'
  exact .inr (.inl ⟨a,xs,i,xs[j],rfl,rfl,SqT.of e1,by unfold atI;rw [DVs.len q,e.1];exact List.getElem?_eq_getElem hjl,k _ _ s1 dv⟩))
theorem rH (d:PyData) (r:List PyData):cutD (d::r) none (some 1)=[d]:=by
 unfold cutD
 simp [HT.sIx]
theorem pM (ds:List PyData) (d:PyData):cutD (ds++[d]) (some (-1)) none=[d]:=by
 unfold cutD
 simp [HT.sIx]
 have e:(-1 + ((ds.length:Int) + 1)).toNat=ds.length:=by omega
 rw [e]
 simp
theorem qU (ds:List PyData) (d:PyData):cutD (ds++[d]) none (some (-1))=ds:=by
 unfold cutD
 simp [HT.sIx]
 have e:(-1 + ((ds.length:Int) + 1)).toNat=ds.length:=by omega
 rw [e]
 simp
theorem tQ (ds:List PyData) (a b:PyData):cutD (a::b::ds) (some 2) none=ds:=by
 unfold cutD
 simp [HT.sIx]
theorem qu {ps:List Str}{rs:List (Addr×Row)} (hn:∀x∈ps,be x) (h:∀r∈rs,be r.2.1/\r.2.2.1∈ps/\r.2.2.2∈ps):PyData.canLayAll0 (rs.map aR)=true/\PyData.depthAll (rs.map aR)<=1:=by
 induction rs with
 | nil=>exact⟨rfl,by decide⟩
 | cons r t ih =>
  have q:=ih fun y hy=>h y (List.mem_cons_of_mem _ hy)
  obtain⟨h1,h2,h3⟩:=h r List.mem_cons_self
  rw [List.map_cons]
  have e1:PyData.canLay0 (aR r)=true:=by
   simp only [PyData.canLay0,PyData.canLayAll0,gG h1,gG (hn _ h2),gG (hn _ h3)];rfl
  have e2:PyData.depth (aR r)=1:=by simp only [PyData.depth,PyData.depthAll];rfl
  simp only [PyData.canLayAll0,PyData.depthAll,e1,e2,q.1]
  exact⟨rfl,Nat.max_le.mpr ⟨Nat.le_refl _,q.2⟩⟩
theorem oo {ps:List Str}{rs:List (Addr×Row)} (G:Good ps (rs.map (·.2))):SeqAt.shaped (.tuple (rs.map aR))=true:=by
 have q:=qu G.nm (rs:=rs) fun r hr=>by
  obtain⟨a,b,c,_⟩:=G.rn r.2 (List.mem_map_of_mem hr)
  exact⟨a,b,c⟩
 unfold SeqAt.shaped
 simp only [PyData.canLay0,PyData.depth,q.1]
 simp
 omega
theorem jM (rs:List (Addr×Row)):(rs.map aR).map cx=(rs.map (·.2)).map (·.1):=by
 rw [List.map_map,List.map_map];rfl
section
variable {P:Program}{w:World}{K:PySem.W.Frag}{mg:Str->Option Value}{base:Heap}
noncomputable def kY:Sp:=fun vs H Q _=>∃(p v pa ra:Addr) (ps:List Str) (rs:List (Addr×Row)),vs=[.ref p,.ref v]/\Pot H p/\br H v pa ra ps rs/\Good ps (rs.map (·.2))/\ps.length<=8/\rs.length<=30/\Str.ofString "nowhere"∉ps/\∀(x:V) (H':Hp),Pot H' p->Kp [p] H H'->aD x H'->Q x H'
noncomputable abbrev N49:List Str:=["_law_pot_here","_law_web_here","_law_places","_law_ties","_law_some","_law_tie","_law_a","_law_b"]
theorem cz:aP N49 ["_law_pot_here","_law_web_here"] (ao (top 49)):=⟨rfl,rfl,rfl,by decide +kernel,rfl,by decide +kernel,by decide +kernel⟩
theorem pT {f:Addr}{fd:FuncData} (F:Fun K "_law_no_web" "_law_no_web" (top 49) f fd) (B:Bl mg) (Ft:Fn P w K mg base 1 "_law_draw" ["_law_pot_here","_law_many"] eG):ax P w K mg base CX0 2 f fd ["_law_pot_here","_law_web_here"] kY:=by
 refine F.ok cz (fun vs H Q E h=>?_) (fun cdv A outer s H vs Q E hr h=>?_)
 ·obtain⟨p,v,pa,ra,ps,rs,rfl,_⟩:=h
  rfl
 ·obtain⟨p,v,pa,ra,ps,rs,rfl,hp,W,G,h8,h30,hnow,k⟩:=h
  refine' ⟨_,?d0,?main⟩
  case' d0=>refine' ak (dZ (pv 1) (d9 rfl (n:=2) (bt (bv (i:=2) cz.nd rfl (Or.inl rfl)) (bt (bv (i:=3) cz.nd rfl (Or.inl rfl)) dn)))) ?d1
  case' d1=>refine' ak ?s1 ?d2
  case' d2=>refine' ak ?s2 ?d3
  case' d3=>refine' ak ?s3 ?d4
  case' d4=>refine' ak ?s4 ?d5
  case' d5=>refine' ak ?si ?d6
  case' d6=>refine' ak ?sj ?r1
  case' si=>refine' bq (aM (eW hr) (pv 3) (aH ag) (aQ _)) ?e0 bc
  case' e0=>refine' ak (dZ (ay aF (pv 3) (dw dr ai) (fun _ _=>rfl)) (d9 rfl (n:=3) (bt (bv (i:=5) cz.nd rfl (Or.inl rfl)) (bt (bv (i:=6) cz.nd rfl (Or.inl rfl)) (bt (bv (i:=7) cz.nd rfl (Or.inl rfl)) dn))))) ?e1
  case' e1=>refine' ak ?s5 ?e2
  case' e2=>refine' ak ?s6 ?e3
  case' e3=>refine' ak ?s7 ?e4
  case' e4=>refine' ak ?s8 bc
  case' sj=>refine' bq (aM f6 (aB bD rfl B.len PySem.boot_len (ae (pv 3) ag)) ai (aQ _)) ?j0 bc
  case' j0=>refine' ak ?s9 bc
  case s1 =>
   refine' aG (i:=4) ?kand ?kax ?kay ?kaz ?kahs ?kahf
   case kand=>exact cz.nd
   case kax=>exact rfl
   case kay=>exact Or.inl rfl
   case kahf=>first | exact .inl rfl | exact .inr rfl
   case' kaz=>refine' aN ?kal0
   case' kal0=>refine' ae ?kai0 ?kal1 ?kah0
   case kai0=>exact eV
   case kah0=>exact bU
   case' kal1=>refine' ae ?kai1 ?kal2 ?kah1
   case kai1=>exact ai
   case kah1=>exact bU
   case' kal2=>refine' ae ?kai2 ?kal3 ?kah2
   case kai2=>exact bF
   case kah2=>exact bU
   case' kal3=>refine' ae ?kai3 ?kal4 ?kah3
   case kai3=>exact aH ag
   case kah3=>exact aW
   case' kal4=>refine' ae ?kai4 ?kal5 ?kah4
   case kai4=>exact aH (ae (pv 2) ag aV)
   case kah4=>exact aW
   case' kal5=>refine' ae ?kai5 ?kal6 ?kah5
   case kai5=>exact aN (ae (pv 2) (ae (pv 3) ag aV) aV)
   case kah5=>exact jC
   case' kal6=>refine' ae ?kai6 ?kal7 ?kah6
   case kai6=>exact aH (ae (eC jG rfl B.list ma (ae (pv 2) ag)) (ae (pv 3) ag aV) mZ)
   case kah6=>exact aW
   case' kal7=>refine' ae ?kai7 ?kal8 ?kah7
   case kai7=>exact aH (ae (pv 2) (ae (eC jG rfl B.list ma (ae (pv 3) ag)) ag mZ) aV)
   case kah7=>exact aW
   case' kal8=>refine' ae ?kai8 ?kal9 ?kah8
   case kai8=>exact aH (ae (aH ag) (ae (aH ag) ag aW) aW)
   case kah8=>exact aW
   case kal9=>exact ag
   case kahs=>kernel_rfl
  case s2 =>
   refine' aG (i:=4) ?kbnd ?kbx ?kby ?kbz ?kbhs ?kbhf
   case kbnd=>exact cz.nd
   case kbx=>exact rfl
   case kby=>exact Or.inl rfl
   case kbhf=>first | exact .inl rfl | exact .inr rfl
   case' kbz=>refine' aE ?kbo ?kba ?kbb
   case kbo=>exact ce
   case kba=>exact pv 4
   case' kbb=>refine' aN ?kbl0
   case' kbl0=>refine' ae ?kbi0 ?kbl1 ?kbh0
   case kbi0=>exact aH (ae (aE cD (lE (fun o i=>[o,i]) (pv 2) (dm (dw dr ai)) (fun _ _=>by with_unfolding_all rfl)) (eD eE (pv 2) eF (dm ai))) (ae (pv 3) ag aV) cy)
   case kbh0=>exact aW
   case' kbl1=>refine' ae ?kbi1 ?kbl2 ?kbh1
   case kbi1=>exact aH (ae (aE cD (pv 2) (aH (ae (bF) ag bU))) (ae (pv 3) ag aV) cy)
   case kbh1=>exact aW
   case' kbl2=>refine' ae ?kbi2 ?kbl3 ?kbh2
   case kbi2=>exact aH (ae (aE cD (pv 2) (aH (ae (ai) ag bU))) (ae (pv 3) ag aV) cy)
   case kbh2=>exact aW
   case' kbl3=>refine' ae ?kbi3 ?kbl4 ?kbh3
   case kbi3=>exact aH (ae (pv 2) (ae (eV) ag bU) aV)
   case kbh3=>exact aW
   case kbl4=>exact ag
   case kbhs=>kernel_rfl
  case s3 =>
   refine' aG (i:=4) ?kcnd ?kcx ?kcy ?kcz ?kchs ?kchf
   case kcnd=>exact cz.nd
   case kcx=>exact rfl
   case kcy=>exact Or.inl rfl
   case kchf=>first | exact .inl rfl | exact .inr rfl
   case' kcz=>refine' aE ?kco ?kca ?kcb
   case kco=>exact ce
   case kca=>exact pv 4
   case' kcb=>refine' aN ?kcl0
   case' kcl0=>refine' ae ?kci0 ?kcl1 ?kch0
   case kci0=>exact aH (ae (pv 2) (ae (aE cD (pv 3) (aH (ae (aH (ae (bF) (ae (ay aF (pv 2) ai (fun _ _=>rfl)) (ae (ay aF (pv 2) ai (fun _ _=>rfl)) ag eo) eo) bU)) ag aW))) ag cy) aV)
   case kch0=>exact aW
   case' kcl1=>refine' ae ?kci1 ?kcl2 ?kch1
   case kci1=>exact aH (ae (pv 2) (ae (aE cD (pv 3) (aH (ae (aH ag) ag aW))) ag cy) aV)
   case kch1=>exact aW
   case' kcl2=>refine' ae ?kci2 ?kcl3 ?kch2
   case kci2=>exact aH (ae (pv 2) (ae (pv 3) (ae (aH ag) ag aW) aV) aV)
   case kch2=>exact aW
   case kcl3=>exact ag
   case kchs=>kernel_rfl
  case s4 =>
   refine' aG (i:=4) ?kdnd ?kdx ?kdy ?kdz ?kdhs ?kdhf
   case kdnd=>exact cz.nd
   case kdx=>exact rfl
   case kdy=>exact Or.inl rfl
   case kdhf=>first | exact .inl rfl | exact .inr rfl
   case' kdz=>refine' aE ?kdo ?kda ?kdb
   case kdo=>exact ce
   case kda=>exact pv 4
   case' kdb=>refine' aN ?kdl0
   case' kdl0=>refine' ae ?kdi0 ?kdl1 ?kdh0
   case kdi0=>exact aH (ae (pv 2) (ae (aE cD (aH (ae (aH (ae (bF) (ae (ay aF (pv 2) ai (fun _ _=>rfl)) (ae (ay aF (pv 2) (dw dr ai) (fun _ _=>rfl)) ag eo) eo) bU)) ag aW)) (pv 3)) ag cy) aV)
   case kdh0=>exact aW
   case' kdl1=>refine' ae ?kdi1 ?kdl2 ?kdh1
   case kdi1=>exact aH (ae (pv 2) (ae (aH (ae (aH (ae (bF) (ae (bF) (ae (bF) ag bU) bU) bU)) ag aW)) ag aW) aV)
   case kdh1=>exact aW
   case kdl2=>exact ag
   case kdhs=>kernel_rfl
  case s5 =>
   refine' aG (i:=4) ?kend ?kex ?key ?kez ?kehs ?kehf
   case kend=>exact cz.nd
   case kex=>exact rfl
   case key=>exact Or.inl rfl
   case kehf=>first | exact .inl rfl | exact .inr rfl
   case' kez=>refine' aE ?keo ?kea ?keb
   case keo=>exact ce
   case kea=>exact pv 4
   case' keb=>refine' aN ?kel0
   case' kel0=>refine' ae ?kei0 ?kel1 ?keh0
   case kei0=>exact aH (ae (pv 2) (ae (aE cD (pv 3) (eD eE (pv 3) (dm (dw dr ai)) eF)) ag cy) aV)
   case keh0=>exact aW
   case' kel1=>refine' ae ?kei1 ?kel2 ?keh1
   case kei1=>exact aH (ae (pv 2) (ae (aE cD (eD eE (pv 3) eF (dm (dw dr ai))) (aH (ae (aN (ae (pv 5) (ae (pv 6) (ae (pv 7) ag aV) aV) aV)) ag jC))) ag cy) aV)
   case keh1=>exact aW
   case kel2=>exact ag
   case kehs=>kernel_rfl
  case s6 =>
   refine' aG (i:=4) ?kfnd ?kfx ?kfy ?kfz ?kfhs ?kfhf
   case kfnd=>exact cz.nd
   case kfx=>exact rfl
   case kfy=>exact Or.inl rfl
   case kfhf=>first | exact .inl rfl | exact .inr rfl
   case' kfz=>refine' aE ?kfo ?kfa ?kfb
   case kfo=>exact ce
   case kfa=>exact pv 4
   case' kfb=>refine' aN ?kfl0
   case' kfl0=>refine' ae ?kfi0 ?kfl1 ?kfh0
   case kfi0=>exact aH (ae (pv 2) (ae (aE cD (pv 3) (aH (ae (aH (ae (pv 5) (ae (pv 7) (ae (pv 6) ag aV) aV) aV)) ag aW))) ag cy) aV)
   case kfh0=>exact aW
   case kfl1=>exact ag
   case kfhs=>kernel_rfl
  case s7 =>
   refine' aG (i:=4) ?kgnd ?kgx ?kgy ?kgz ?kghs ?kghf
   case kgnd=>exact cz.nd
   case kgx=>exact rfl
   case kgy=>exact Or.inl rfl
   case kghf=>first | exact .inl rfl | exact .inr rfl
   case' kgz=>refine' aE ?kgo ?kga ?kgb
   case kgo=>exact ce
   case kga=>exact pv 4
   case' kgb=>refine' aN ?kgl0
   case' kgl0=>refine' ae ?kgi0 ?kgl1 ?kgh0
   case kgi0=>exact aH (ae (pv 2) (ae (aE cD (eD eE (pv 3) eF (dm (dw dr ai))) (aH (ae (aH (ae (pv 5) (ae (pv 6) ag aV) aV)) ag aW))) ag cy) aV)
   case kgh0=>exact aW
   case' kgl1=>refine' ae ?kgi1 ?kgl2 ?kgh1
   case kgi1=>exact aH (ae (pv 2) (ae (aE cD (eD eE (pv 3) eF (dm (dw dr ai))) (aH (ae (aH (ae (pv 5) (ae (pv 6) (ae (bF) ag bU) aV) aV)) ag aW))) ag cy) aV)
   case kgh1=>exact aW
   case kgl2=>exact ag
   case kghs=>kernel_rfl
  case s8 =>
   refine' aG (i:=4) ?khnd ?khx ?khy ?khz ?khhs ?khhf
   case khnd=>exact cz.nd
   case khx=>exact rfl
   case khy=>exact Or.inl rfl
   case khhf=>first | exact .inl rfl | exact .inr rfl
   case' khz=>refine' aE ?kho ?kha ?khb
   case kho=>exact ce
   case kha=>exact pv 4
   case' khb=>refine' aN ?khl0
   case' khl0=>refine' ae ?khi0 ?khl1 ?khh0
   case khi0=>exact aH (ae (pv 2) (ae (aE cD (eD eE (pv 3) eF (dm (dw dr ai))) (aH (ae (aH (ae (ai) (ae (pv 6) (ae (pv 7) ag aV) aV) bU)) ag aW))) ag cy) aV)
   case khh0=>exact aW
   case' khl1=>refine' ae ?khi1 ?khl2 ?khh1
   case khi1=>exact aH (ae (pv 2) (ae (aE cD (eD eE (pv 3) eF (dm (dw dr ai))) (aH (ae (aH (ae (pv 5) (ae (pv 6) (ae (pv 6) ag aV) aV) aV)) ag aW))) ag cy) aV)
   case khh1=>exact aW
   case khl2=>exact ag
   case khhs=>kernel_rfl
  case s9 =>
   refine' aG (i:=4) ?kind ?kix ?kiy ?kiz ?kihs ?kihf
   case kind=>exact cz.nd
   case kix=>exact rfl
   case kiy=>exact Or.inl rfl
   case kihf=>first | exact .inl rfl | exact .inr rfl
   case' kiz=>refine' aE ?kio ?kia ?kib
   case kio=>exact ce
   case kia=>exact pv 4
   case' kib=>refine' aN ?kil0
   case' kil0=>refine' ae ?kii0 ?kil1 ?kih0
   case kii0=>exact aH (ae (pv 2) (ae (lE (fun o i=>[o,i]) (pv 3) (dm (dw dr ai)) (fun _ _=>by with_unfolding_all rfl)) ag eo) aV)
   case kih0=>exact aW
   case' kil1=>refine' ae ?kii1 ?kil2 ?kih1
   case kii1=>exact aH (ae (pv 2) (ae (aE cD (aH (ae (ay aF (pv 3) ai (fun _ _=>rfl)) (ae (ay aF (pv 3) ai (fun _ _=>rfl)) ag eo) eo)) (eD eE (pv 3) (dm ai) eF)) ag cy) aV)
   case kih1=>exact aW
   case kil2=>exact ag
   case kihs=>kernel_rfl
  case r1=>exact av (aI (ay aF (pv 4) (aw Ft hr (ae (pv 0) (ae (aB bD rfl B.len PySem.boot_len (ae (pv 4) ag)) ag))) (fun _ _=>rfl)))
  case main =>
   obtain⟨p0,pr,hps⟩:∃p0 pr,ps=p0::pr:=by
    cases ps with
    | nil=>exact absurd rfl G.ne
    | cons a b=>exact⟨a,b,rfl⟩
   obtain⟨ini,lst,hlast⟩:∃ini l,ps=ini++[l]:=⟨ps.dropLast,ps.getLast G.ne,(List.dropLast_concat_getLast G.ne).symm⟩
   have hlm:lst∈ps:=by rw [hlast];simp
   have hp0m:p0∈ps:=by rw [hps];simp
   have hp0:be p0:=G.nm p0 hp0m
   have n2:decide (Str.ofString "nowhere"∈ps)=false:=decide_eq_false hnow
   have et:dg (bS (.tuple (ps.map PyData.str)))=ps:=fQ ps
   have hz:(rs.map aR).length<=30:=by simpa using h30
   have hpl:(ps.map PyData.str).length<=8:=by simpa using h8
   have oks:Dok (.str (Str.ofString "web")):=eJ (by decide +kernel) (by decide +kernel)
   have kP:Dok (.tuple (ps.map PyData.str)):=qd G.nm (by omega)
   have kR:Dok (.tuple (rs.map aR)):=.tup _ (by omega) (eP G)
   have kF:Dok (.str p0):=cH hp0
   have kM:Dok (.str lst):=cH (G.nm _ hlm)
   have kLP:Dok (.list (ps.map PyData.str)):=.lst _ (by omega) (fun d hd=>by obtain⟨x,hx,rfl⟩:=List.mem_map.mp hd;exact cH (G.nm x hx)) (fun i j e=>by rw [hps] at e;cases pr <;> simp at e)
   have kLR:Dok (.list (rs.map aR)):=.lst _ (by omega) (eP G) (fun i j e=>by
    cases rs with
    | nil=>simp at e
    | cons r t=>cases t <;> simp at e)
   have dP:∀d∈ps.map PyData.str,Dok d:=fun d hd=>by obtain⟨x,hx,rfl⟩:=List.mem_map.mp hd;exact cH (G.nm x hx)
   have kPa:∀d,Dok d->Dok (.tuple (ps.map PyData.str++[d])):=fun d hd=>.tup _ (by simp;omega) fun e he=>(List.mem_append.mp he).elim (dP e) fun z=>by rw [List.mem_singleton.mp z];exact hd
   have kPr:Dok (.tuple ((ps.map PyData.str).reverse++[.str p0])):=.tup _ (by simp;omega) fun e he=>(List.mem_append.mp he).elim (fun z=>dP e (List.mem_reverse.mp z)) fun z=>by rw [List.mem_singleton.mp z];exact kF
   have kRa:∀d,Dok d->Dok (.tuple (rs.map aR++[d])):=fun d hd=>.tup _ (by simp;omega) fun e he=>(List.mem_append.mp he).elim (eP G e) fun z=>by rw [List.mem_singleton.mp z];exact hd
   have kRb:∀d,Dok d->Dok (.tuple ([d]++rs.map aR)):=fun d hd=>.tup _ (by simp;omega) fun e he=>(List.mem_append.mp he).elim (fun z=>by rw [List.mem_singleton.mp z];exact hd) (eP G e)
   have nrev:bM (.tuple ((ps.map PyData.str).reverse++[.str p0]))=false:=by
    have:=so2 (kB (ps:=ps.reverse) (x:=p0) (List.mem_reverse.mpr hp0m))
    rwa [List.map_append,List.map_reverse] at this
   have eP0:(ps.map PyData.str)[0]?=some (.str p0):=by rw [hps];rfl
   have eI0:ixN (ps.map PyData.str).length 0=some 0:=by rw [hps];unfold ixN;rw [List.length_map,if_pos (by decide),if_pos (by simp)];rfl
   have eP1:PyData.tuple (cutD (ps.map PyData.str) none (some 1))=.tuple [.str p0]:=by rw [hps,List.map_cons,rH]
   have eIm:ixN (ps.map PyData.str).length (-1)=some (ps.length - 1):=by
    have:1<=ps.length:=by rw [hps];simp
    unfold ixN;rw [List.length_map,if_neg (by decide),if_pos (by omega)];congr 1;omega
   have ePm:(ps.map PyData.str)[ps.length - 1]?=some (.str lst):=by rw [hlast];simp
   have cP:∀(q:Option V) (g1 g2 g3:Option V) (H':Hp),ah H H'->Yd (ba 2) [some (.ref p),some (.ref v),some (.ref pa),some (.ref ra),q,g1,g2,g3] H' (Dv (.tuple (ps.map PyData.str))):=fun q g1 g2 g3 H' s=>Yd.var rfl fun H2 s2=>.tup (s2 _ _ (s _ _ W.pl)) (DVs.strs _)
   have cR:∀(q:Option V) (g1 g2 g3:Option V) (H':Hp),ah H H'->Yd (ba 3) [some (.ref p),some (.ref v),some (.ref pa),some (.ref ra),q,g1,g2,g3] H' (Dv (.tuple (rs.map aR))):=fun q g1 g2 g3 H' s=>Yd.var rfl fun H2 s2=>.tup (s2 _ _ (s _ _ W.rl)) (iV fun r hr=>s2 _ _ (s _ _ (W.rows r hr)))
   refine⟨_,rfl,v,_,rfl,SqT.of W.tp,rfl,_,_,rfl,_,_,rfl,rfl,?_⟩
   have c1P:=cP none none none none H (ah.refl _)
   have c1R:=cR none none none none H (ah.refl _)
   have ua9:Ya aD bG [some (.ref p),some (.ref v),some (.ref pa),some (.ref ra),none,none,none,none] H 0:=.nil
   have ua8:=Ya.cons aD.keeps (bw (Yd.tupD (.cons (Yd.tupD .nil (by simp)) (.cons (Yd.tupD .nil (by simp)) .nil)) (by simp)) (bH gn gn) (wb2 rfl)) ua9
   have ua7:=Ya.cons aD.keeps (bw (Yd.tupD (.cons c1P (.cons (Yd.lsO (K:=(aJ CX0 P w K mg base N49 (Str.ofString "_law_no_web") (ao (top 49)) f cdv A outer s H E).nox.K) c1R) .nil)) (by simp)) (bH kP kLR) (wb3 rfl)) ua8
   have ua6:=Ya.cons aD.keeps (bw (Yd.tupD (.cons (Yd.lsO (K:=(aJ CX0 P w K mg base N49 (Str.ofString "_law_no_web") (ao (top 49)) f cdv A outer s H E).nox.K) c1P) (.cons c1R .nil)) (by simp)) (bH kLP kR) (wb1 rfl)) ua7
   have ua5:=Ya.cons aD.keeps (bw (Yd.lsD (.cons c1P (.cons c1R .nil)) (by simp)) (.lst _ (by simp) (by simp;exact⟨kP,kR⟩) (by simp)) rfl) ua6
   have ua4:=Ya.cons aD.keeps (bw (Yd.tupD (.cons c1P .nil) (by simp)) (nB kP) (gz (by simp))) ua5
   have ua3:=Ya.cons aD.keeps (bw (Yd.tupD .nil (by simp)) gn (gz (by decide))) ua4
   have ua2:=Ya.cons aD.keeps (bw (Yd.s (Str.ofString "web")) oks rfl) ua3
   have ua1:=Ya.cons aD.keeps (bw (Yd.i 7) (.int _) rfl) ua2
   have ua0:=Ya.cons aD.keeps (bw Yd.n .non rfl) ua1
   refine lZ aD.keeps ua0 (by decide) fun q1 x1 H1 s1 h1 t1 l1 _=>?_
   have c2P:=cP (some (.ref q1)) none none none H1 s1
   have c2R:=cR (some (.ref q1)) none none none H1 s1
   have ub4:Ya aD bG [some (.ref p),some (.ref v),some (.ref pa),some (.ref ra),some (.ref q1),none,none,none] H1 0:=.nil
   have ub3:=Ya.cons aD.keeps (bw (Yd.tupD (.cons c2P (.cons Yd.n .nil)) (by simp)) (bH kP .non) (wb3 rfl)) ub4
   have ub2:=Ya.cons aD.keeps (bw (Yd.tupD (.cons (Yd.catD (K:=(aJ CX0 P w K mg base N49 (Str.ofString "_law_no_web") (ao (top 49)) f cdv A outer s H E).nox.K) c2P (Yd.tupD (.cons (Yd.i 5) .nil) (by simp)) (by simp;omega)) (.cons c2R .nil)) (by simp)) (bH (kPa _ (.int _)) kR) (wb1 (so1 (List.mem_append_right _ (List.mem_singleton.mpr rfl)) rfl))) ub3
   have ub1:=Ya.cons aD.keeps (bw (Yd.tupD (.cons (Yd.catD (K:=(aJ CX0 P w K mg base N49 (Str.ofString "_law_no_web") (ao (top 49)) f cdv A outer s H E).nox.K) c2P (Yd.tupD (.cons (Yd.s (Str.ofString "A")) .nil) (by simp)) (by simp;omega)) (.cons c2R .nil)) (by simp)) (bH (kPa _ (eJ (by decide +kernel) (by decide +kernel))) kR) (wb1 (so1 (List.mem_append_right _ (List.mem_singleton.mpr rfl)) (by decide +kernel)))) ub2
   have ub0:=Ya.cons aD.keeps (bw (Yd.tupD (.cons (Yd.catD (K:=(aJ CX0 P w K mg base N49 (Str.ofString "_law_no_web") (ao (top 49)) f cdv A outer s H E).nox.K) (Yd.revD (K:=(aJ CX0 P w K mg base N49 (Str.ofString "_law_no_web") (ao (top 49)) f cdv A outer s H E).nox.K) c2P) (Yd.cast (Yd.slD (K:=(aJ CX0 P w K mg base N49 (Str.ofString "_law_no_web") (ao (top 49)) f cdv A outer s H E).nox.K) (tlo:=dX) (thi:=dJ (tC (.int 1))) (lo:=none) (hi:=some (1)) c2P (fun _ _ q=>q) (fun _ _ q=>⟨1,rfl,q⟩)) eP1) (by simp;omega)) (.cons c2R .nil)) (by simp)) (bH kPr kR) (wb1 nrev)) ub1
   refine eH aD.keeps (ys:=x1) rfl h1 t1 ub0 (by omega) fun q2 x2 H2 s2' h2 t2 l2 m2=>?_
   have s2:=s1.trans s2'
   have u2:H q2=none:=s1.free m2
   have c3P:=cP (some (.ref q2)) none none none H2 s2
   have c3R:=cR (some (.ref q2)) none none none H2 s2
   have uc3:Ya aD bG [some (.ref p),some (.ref v),some (.ref pa),some (.ref ra),some (.ref q2),none,none,none] H2 0:=.nil
   have uc2:=Ya.cons aD.keeps (bw (Yd.tupD (.cons c3P (.cons c3R (.cons (Yd.tupD .nil (by simp)) .nil))) (by simp)) (eh kP kR gn) (gz (by simp))) uc3
   have uc1:=Ya.cons aD.keeps (bw (Yd.tupD (.cons c3P (.cons (Yd.catD (K:=(aJ CX0 P w K mg base N49 (Str.ofString "_law_no_web") (ao (top 49)) f cdv A outer s H E).nox.K) c3R (Yd.tupD (.cons (Yd.tupD .nil (by simp)) .nil) (by simp)) (by simp;omega)) .nil)) (by simp)) (bH kP (kRa _ gn)) (wb4 (List.mem_append_right _ (List.mem_singleton.mpr rfl)) (by rw [et];exact (iF (by simp))))) uc2
   have uc0:=Ya.cons aD.keeps (bw (Yd.tupD (.cons c3P (.cons (Yd.catD (K:=(aJ CX0 P w K mg base N49 (Str.ofString "_law_no_web") (ao (top 49)) f cdv A outer s H E).nox.K) c3R (Yd.tupD (.cons (Yd.tupD (.cons (Yd.s (Str.ofString "x")) (.cons (Yd.ixD (K:=(aJ CX0 P w K mg base N49 (Str.ofString "_law_no_web") (ao (top 49)) f cdv A outer s H E).nox.K) (ti:=tC (.int 0)) (j:=0) (i:=0) c3P (fun _ _ q=>q) ⟨eI0,eP0⟩) (.cons (Yd.ixD (K:=(aJ CX0 P w K mg base N49 (Str.ofString "_law_no_web") (ao (top 49)) f cdv A outer s H E).nox.K) (ti:=tC (.int 0)) (j:=0) (i:=0) c3P (fun _ _ q=>q) ⟨eI0,eP0⟩) .nil))) (by simp)) .nil) (by simp)) (by simp;omega)) .nil)) (by simp)) (bH kP (kRa _ (eh (eJ (by decide +kernel) (by decide +kernel)) kF kF))) (wb4 (List.mem_append_right _ (List.mem_singleton.mpr rfl)) (by rw [et];exact (by rw [eX];show (_ && (_ && (_ && !decide (p0=p0))))=false;simp)))) uc1
   refine eH aD.keeps (ys:=x2) rfl h2 t2 uc0 (by omega) fun q3 x3 H3 s3' h3 t3 l3 m3=>?_
   have s3:=s2.trans s3'
   have u3:H q3=none:=s2.free m3
   have c4P:=cP (some (.ref q3)) none none none H3 s3
   have c4R:=cR (some (.ref q3)) none none none H3 s3
   have ud2:Ya aD bG [some (.ref p),some (.ref v),some (.ref pa),some (.ref ra),some (.ref q3),none,none,none] H3 0:=.nil
   have ud1:=Ya.cons aD.keeps (bw (Yd.tupD (.cons c4P (.cons (Yd.tupD (.cons (Yd.tupD (.cons (Yd.s (Str.ofString "ninelongs")) (.cons (Yd.s (Str.ofString "a")) (.cons (Yd.s (Str.ofString "b")) .nil))) (by simp)) .nil) (by simp)) .nil)) (by simp)) (bH kP (nB (eh (eJ (by decide +kernel) (by decide +kernel)) (eJ (by decide +kernel) (by decide +kernel)) (eJ (by decide +kernel) (by decide +kernel))))) (wb4 (List.mem_singleton.mpr rfl) (by rw [et];exact (by rw [eX];rw [show bx (.str (Str.ofString "ninelongs"))=false by decide +kernel];rfl)))) ud2
   have ud0:=Ya.cons aD.keeps (bw (Yd.tupD (.cons c4P (.cons (Yd.catD (K:=(aJ CX0 P w K mg base N49 (Str.ofString "_law_no_web") (ao (top 49)) f cdv A outer s H E).nox.K) (Yd.tupD (.cons (Yd.tupD (.cons (Yd.s (Str.ofString "Zz")) (.cons (Yd.ixD (K:=(aJ CX0 P w K mg base N49 (Str.ofString "_law_no_web") (ao (top 49)) f cdv A outer s H E).nox.K) (ti:=tC (.int 0)) (j:=0) (i:=0) c4P (fun _ _ q=>q) ⟨eI0,eP0⟩) (.cons (Yd.ixD (K:=(aJ CX0 P w K mg base N49 (Str.ofString "_law_no_web") (ao (top 49)) f cdv A outer s H E).nox.K) (ti:=tUn (rU fun i=>.int (-i)) (tC (.int 1))) (j:=(ps.length - 1)) (i:=-1) c4P (fun _ _ q=>⟨1,rfl,q⟩) ⟨eIm,ePm⟩) .nil))) (by simp)) .nil) (by simp)) c4R (by simp;omega)) .nil)) (by simp)) (bH kP (kRb _ (eh (eJ (by decide +kernel) (by decide +kernel)) kF kM))) (wb4 (List.mem_append_left _ (List.mem_singleton.mpr rfl)) (by rw [et];exact (by rw [eX];rw [show bx (.str (Str.ofString "Zz"))=false by decide +kernel];rfl)))) ud1
   refine eH aD.keeps (ys:=x3) rfl h3 t3 ud0 (by omega) fun q4 x4 H4 s4' h4 t4 l4 m4=>?_
   have s4:=s3.trans s4'
   have u4:H q4=none:=s3.free m4
   have fin:∀(g1 g2 g3:Option V) (q:Addr) (xs:List V) (H1:Hp),ah H H1->H1 q=some (.lst xs)->(∀x∈xs,aD x H1)->0 < xs.length->xs.length < 900->H q=none->jq (tOp (rIx (aJ CX0 P w K mg base N49 (Str.ofString "_law_no_web") (ao (top 49)) f cdv A outer s H E).nox.K) (ba 4) (dM eG [] E0 (bK (ba 0) (bK (tCB (fun xs H Q=>∃p ys,xs=[.ref p]/\(SqL (aJ CX0 P w K mg base N49 (Str.ofString "_law_no_web") (ao (top 49)) f cdv A outer s H E).nox.K H p ys\/SqT (aJ CX0 P w K mg base N49 (Str.ofString "_law_no_web") (ao (top 49)) f cdv A outer s H E).nox.K H p ys)/\Q (.int ys.length) H) (bK (ba 4) bG)) bG)))) { nx:=fun _ H'=>Q .non H',rt:=Q } [some (.ref p),some (.ref v),some (.ref pa),some (.ref ra),some (.ref q),g1,g2,g3] H1:=by
    intro g1 g2 g3 q xs H1 s1 h1 t1 l0 l9 hq0
    have nqp:q≠p:=fun z=>by obtain⟨i,j,e,_⟩:=hp;rw [<- z,hq0] at e;cases e
    have P1:=hp.same s1
    refine⟨_,rfl,_,rfl,_,rfl,q,_,rfl,.inl (SqL.of h1),p,_,rfl,P1,by omega,by omega,fun i H2 b0 b1 P2 K2=>?_⟩
    have hi:i.toNat < xs.length:=by omega
    refine aC (j:=i.toNat) (.inl (SqL.of (K2.at nqp h1))) (by omega) (List.getElem?_eq_getElem hi) ?_
    exact k _ H2 P2 ((Kp.same s1).trans K2) ((t1 _ (List.getElem_mem hi)).kp K2 P1)
   refine gf (fun σ H5=>∃(g1 g2 g3:Option V) (q:Addr) (xs:List V),σ=[some (.ref p),some (.ref v),some (.ref pa),some (.ref ra),some (.ref q),g1,g2,g3]/\ah H H5/\H5 q=some (.lst xs)/\(∀x∈xs,aD x H5)/\0 < xs.length/\xs.length < 100/\H q=none) (fun N key=>?_) ?_
   ·refine⟨_,rfl,Nat.zero_le _,fun et0 het=>?_⟩
    have se:=am (o:=.tup []) s4 het
    have se4:=am (o:=.tup []) (ah.refl H4) het
    refine⟨.tuple (rs.map aR),.tuple [],.tup (se _ _ W.rl) (iV fun r hr=>se _ _ (W.rows r hr)),.tup aj .nil,oo G,rfl,_,rfl,?_⟩
    rcases List.eq_nil_or_concat rs with hn | ⟨ri,rl,hr⟩
    ·rw [hn]
     refine aL (key _ _ ⟨_,_,_,q4,x4,rfl,se,se4 _ _ h4,fun x hx=>(t4 x hx).same se4,by omega,by omega,u4⟩)
    have e0:(!PyData.eqv (.tuple (rs.map aR)) (.tuple []))=true:=by rw [hr];cases ri <;> rfl
    rw [e0]
    refine aA ?_
    have h4':=se4 _ _ h4
    have t4':∀x∈x4,aD x (upd H4 et0 (.tup [])):=fun x hx=>(t4 x hx).same se4
    generalize upd H4 et0 (.tup [])=H4 at se h4' t4' ⊢
    have hr':rs=ri++[rl]:=by simpa using hr
    have hrm:rl∈rs:=by rw [hr'];simp
    obtain⟨tt,ta,tb,htr⟩:∃tt ta tb,rl.2=(tt,ta,tb):=⟨_,_,_,rfl⟩
    obtain⟨g1,g2,g3,g4⟩:=G.rn rl.2 (List.mem_map_of_mem hrm)
    rw [htr] at g1 g2 g3 g4
    have kt:Dok (.str tt):=cH g1
    have ka:Dok (.str ta):=cH (G.nm _ g2)
    have kb:Dok (.str tb):=cH (G.nm _ g3)
    have eDt:rs.map aR=ri.map aR++[.tuple [.str tt,.str ta,.str tb]]:=by rw [hr',List.map_append];show _++[aR rl]=_;unfold aR;rw [htr]
    have dRi:∀d∈ri.map aR,Dok d:=fun d hd=>eP G d (by rw [eDt];exact List.mem_append_left _ hd)
    have hril:(ri.map aR).length<=30:=by have:=congrArg List.length eDt;simp at this hz ⊢;omega
    have kRi:∀d,Dok d->Dok (.tuple (ri.map aR++[d])):=fun d hd=>.tup _ (by rw [List.length_append];simp at hril ⊢;omega) fun e he=>(List.mem_append.mp he).elim (dRi e) fun z=>by rw [List.mem_singleton.mp z];exact hd
    have eRl:PyData.tuple (cutD (rs.map aR) (some (-1)) none)=.tuple [.tuple [.str tt,.str ta,.str tb]]:=by rw [eDt,pM]
    have eRi:PyData.tuple (cutD (rs.map aR) none (some (-1)))=.tuple (ri.map aR):=by rw [eDt,qU]
    have hil:ri.length + 1<=30:=by have:=congrArg List.length hr';simp at this;omega
    have hrl:rs.length<=30:=h30
    have nd1:∀d:PyData,cx d=tt->¬ ((rs.map aR++[d]).map cx).Pairwise nlt:=fun d e=>by
     rw [List.map_append,jM,List.map_cons,List.map_nil,e]
     refine kB ?_
     rw [List.map_map]
     exact List.mem_map.mpr ⟨rl,hrm,by show rl.2.1=tt;rw [htr]⟩
    have nll:=nd1 (.tuple [.str tt,.str ta,.str tb]) rfl
    have nll2:=nd1 (.tuple [.str tt,.str tb,.str ta]) rfl
    have ixm:ixN (aq rs).length (-1)=some (rs.length - 1):=by
     have:1<=rs.length:=by rw [hr'];simp
     unfold ixN;rw [List.length_map,if_neg (by decide),if_pos (by omega)];congr 1;omega
    have ixv:(aq rs)[rs.length - 1]?=some (.ref rl.1):=by rw [List.getElem?_map,hr'];simp
    have hrr:H4 rl.1=some (.tup [.str tt,.str ta,.str tb]):=by
     have:=se _ _ (W.rows rl hrm)
     rw [htr] at this
     exact this
    refine⟨_,rfl,1,rfl,.inr (.inl ⟨ra,_,-1,.ref rl.1,rfl,rfl,SqT.of (se _ _ W.rl),by unfold atI;rw [ixm];exact ixv,rl.1,_,rfl,SqT.of hrr,rfl,_,_,rfl,_,_,rfl,_,_,rfl,rfl,?_⟩)⟩
    have s4:=se
    have h4:=h4'
    have t4:=t4'
    have c5P:=cP (some (.ref q4)) (some (.str tt)) (some (.str ta)) (some (.str tb)) H4 s4
    have c5R:=cR (some (.ref q4)) (some (.str tt)) (some (.str ta)) (some (.str tb)) H4 s4
    have c5t:Yd (ba 5) [some (.ref p),some (.ref v),some (.ref pa),some (.ref ra),some (.ref q4),some (.str tt),some (.str ta),some (.str tb)] H4 (Dv (.str tt)):=Yd.var rfl fun _ _=>.str _
    have c5a:Yd (ba 6) [some (.ref p),some (.ref v),some (.ref pa),some (.ref ra),some (.ref q4),some (.str tt),some (.str ta),some (.str tb)] H4 (Dv (.str ta)):=Yd.var rfl fun _ _=>.str _
    have c5b:Yd (ba 7) [some (.ref p),some (.ref v),some (.ref pa),some (.ref ra),some (.ref q4),some (.str tt),some (.str ta),some (.str tb)] H4 (Dv (.str tb)):=Yd.var rfl fun _ _=>.str _
    have ue2:Ya aD bG [some (.ref p),some (.ref v),some (.ref pa),some (.ref ra),some (.ref q4),some (.str tt),some (.str ta),some (.str tb)] H4 0:=.nil
    have ue1:=Ya.cons aD.keeps (bw (Yd.tupD (.cons c5P (.cons (Yd.catD (K:=(aJ CX0 P w K mg base N49 (Str.ofString "_law_no_web") (ao (top 49)) f cdv A outer s H E).nox.K) (Yd.cast (Yd.slD (K:=(aJ CX0 P w K mg base N49 (Str.ofString "_law_no_web") (ao (top 49)) f cdv A outer s H E).nox.K) (tlo:=dX) (thi:=dJ (tUn (rU fun i=>.int (-i)) (tC (.int 1)))) (lo:=none) (hi:=some (-1)) c5R (fun _ _ q=>q) (fun _ _ q=>⟨1,rfl,_,rfl,q⟩)) eRi) (Yd.tupD (.cons (Yd.lsD (.cons c5t (.cons c5a (.cons c5b .nil))) (by simp)) .nil) (by simp)) (by simp;omega)) .nil)) (by simp)) (bH kP (kRi _ (.lst _ (by simp) (by simp;exact⟨kt,ka,kb⟩) (by simp)))) (wb4 (List.mem_append_right _ (List.mem_singleton.mpr rfl)) (by rw [et];exact rfl))) ue2
    have ue0:=Ya.cons aD.keeps (bw (Yd.tupD (.cons c5P (.cons (Yd.catD (K:=(aJ CX0 P w K mg base N49 (Str.ofString "_law_no_web") (ao (top 49)) f cdv A outer s H E).nox.K) c5R (Yd.cast (Yd.slD (K:=(aJ CX0 P w K mg base N49 (Str.ofString "_law_no_web") (ao (top 49)) f cdv A outer s H E).nox.K) (tlo:=dJ (tUn (rU fun i=>.int (-i)) (tC (.int 1)))) (thi:=dX) (lo:=some (-1)) (hi:=none) c5R (fun _ _ q=>⟨1,rfl,_,rfl,q⟩) (fun _ _ q=>q)) eRl) (by simp;omega)) .nil)) (by simp)) (bH kP (kRa _ (eh kt ka kb))) (wb5 nll)) ue1
    refine eH aD.keeps (ys:=x4) rfl h4 t4 ue0 (by omega) fun q5 x5 H5 s5' h5 t5 l5 m5=>?_
    have s5:=s4.trans s5'
    have u5:H q5=none:=s4.free m5
    have c6P:=cP (some (.ref q5)) (some (.str tt)) (some (.str ta)) (some (.str tb)) H5 s5
    have c6R:=cR (some (.ref q5)) (some (.str tt)) (some (.str ta)) (some (.str tb)) H5 s5
    have c6t:Yd (ba 5) [some (.ref p),some (.ref v),some (.ref pa),some (.ref ra),some (.ref q5),some (.str tt),some (.str ta),some (.str tb)] H5 (Dv (.str tt)):=Yd.var rfl fun _ _=>.str _
    have c6a:Yd (ba 6) [some (.ref p),some (.ref v),some (.ref pa),some (.ref ra),some (.ref q5),some (.str tt),some (.str ta),some (.str tb)] H5 (Dv (.str ta)):=Yd.var rfl fun _ _=>.str _
    have c6b:Yd (ba 7) [some (.ref p),some (.ref v),some (.ref pa),some (.ref ra),some (.ref q5),some (.str tt),some (.str ta),some (.str tb)] H5 (Dv (.str tb)):=Yd.var rfl fun _ _=>.str _
    have uf1:Ya aD bG [some (.ref p),some (.ref v),some (.ref pa),some (.ref ra),some (.ref q5),some (.str tt),some (.str ta),some (.str tb)] H5 0:=.nil
    have uf0:=Ya.cons aD.keeps (bw (Yd.tupD (.cons c6P (.cons (Yd.catD (K:=(aJ CX0 P w K mg base N49 (Str.ofString "_law_no_web") (ao (top 49)) f cdv A outer s H E).nox.K) c6R (Yd.tupD (.cons (Yd.tupD (.cons c6t (.cons c6b (.cons c6a .nil))) (by simp)) .nil) (by simp)) (by simp;omega)) .nil)) (by simp)) (bH kP (kRa _ (eh kt kb ka))) (wb5 nll2)) uf1
    refine eH aD.keeps (ys:=x5) rfl h5 t5 uf0 (by omega) fun q6 x6 H6 s6' h6 t6 l6 m6=>?_
    have s6:=s5.trans s6'
    have u6:H q6=none:=s5.free m6
    have c7P:=cP (some (.ref q6)) (some (.str tt)) (some (.str ta)) (some (.str tb)) H6 s6
    have c7R:=cR (some (.ref q6)) (some (.str tt)) (some (.str ta)) (some (.str tb)) H6 s6
    have c7t:Yd (ba 5) [some (.ref p),some (.ref v),some (.ref pa),some (.ref ra),some (.ref q6),some (.str tt),some (.str ta),some (.str tb)] H6 (Dv (.str tt)):=Yd.var rfl fun _ _=>.str _
    have c7a:Yd (ba 6) [some (.ref p),some (.ref v),some (.ref pa),some (.ref ra),some (.ref q6),some (.str tt),some (.str ta),some (.str tb)] H6 (Dv (.str ta)):=Yd.var rfl fun _ _=>.str _
    have c7b:Yd (ba 7) [some (.ref p),some (.ref v),some (.ref pa),some (.ref ra),some (.ref q6),some (.str tt),some (.str ta),some (.str tb)] H6 (Dv (.str tb)):=Yd.var rfl fun _ _=>.str _
    have ug2:Ya aD bG [some (.ref p),some (.ref v),some (.ref pa),some (.ref ra),some (.ref q6),some (.str tt),some (.str ta),some (.str tb)] H6 0:=.nil
    have ug1:=Ya.cons aD.keeps (bw (Yd.tupD (.cons c7P (.cons (Yd.catD (K:=(aJ CX0 P w K mg base N49 (Str.ofString "_law_no_web") (ao (top 49)) f cdv A outer s H E).nox.K) (Yd.cast (Yd.slD (K:=(aJ CX0 P w K mg base N49 (Str.ofString "_law_no_web") (ao (top 49)) f cdv A outer s H E).nox.K) (tlo:=dX) (thi:=dJ (tUn (rU fun i=>.int (-i)) (tC (.int 1)))) (lo:=none) (hi:=some (-1)) c7R (fun _ _ q=>q) (fun _ _ q=>⟨1,rfl,_,rfl,q⟩)) eRi) (Yd.tupD (.cons (Yd.tupD (.cons c7t (.cons c7a (.cons (Yd.s (Str.ofString "nowhere")) .nil))) (by simp)) .nil) (by simp)) (by simp;omega)) .nil)) (by simp)) (bH kP (kRi _ (eh kt ka (eJ (by decide +kernel) (by decide +kernel))))) (wb4 (List.mem_append_right _ (List.mem_singleton.mpr rfl)) (by rw [et];exact (by rw [eX];show (_ && (_ && (decide (Str.ofString "nowhere"∈ps) && _)))=false;rw [n2];simp)))) ug2
    have ug0:=Ya.cons aD.keeps (bw (Yd.tupD (.cons c7P (.cons (Yd.catD (K:=(aJ CX0 P w K mg base N49 (Str.ofString "_law_no_web") (ao (top 49)) f cdv A outer s H E).nox.K) (Yd.cast (Yd.slD (K:=(aJ CX0 P w K mg base N49 (Str.ofString "_law_no_web") (ao (top 49)) f cdv A outer s H E).nox.K) (tlo:=dX) (thi:=dJ (tUn (rU fun i=>.int (-i)) (tC (.int 1)))) (lo:=none) (hi:=some (-1)) c7R (fun _ _ q=>q) (fun _ _ q=>⟨1,rfl,_,rfl,q⟩)) eRi) (Yd.tupD (.cons (Yd.tupD (.cons c7t (.cons c7a .nil)) (by simp)) .nil) (by simp)) (by simp;omega)) .nil)) (by simp)) (bH kP (kRi _ (bH kt ka))) (wb4 (List.mem_append_right _ (List.mem_singleton.mpr rfl)) (by rw [et];exact (iF (by simp))))) ug1
    refine eH aD.keeps (ys:=x6) rfl h6 t6 ug0 (by omega) fun q7 x7 H7 s7' h7 t7 l7 m7=>?_
    have s7:=s6.trans s7'
    have u7:H q7=none:=s6.free m7
    have c8P:=cP (some (.ref q7)) (some (.str tt)) (some (.str ta)) (some (.str tb)) H7 s7
    have c8R:=cR (some (.ref q7)) (some (.str tt)) (some (.str ta)) (some (.str tb)) H7 s7
    have c8t:Yd (ba 5) [some (.ref p),some (.ref v),some (.ref pa),some (.ref ra),some (.ref q7),some (.str tt),some (.str ta),some (.str tb)] H7 (Dv (.str tt)):=Yd.var rfl fun _ _=>.str _
    have c8a:Yd (ba 6) [some (.ref p),some (.ref v),some (.ref pa),some (.ref ra),some (.ref q7),some (.str tt),some (.str ta),some (.str tb)] H7 (Dv (.str ta)):=Yd.var rfl fun _ _=>.str _
    have c8b:Yd (ba 7) [some (.ref p),some (.ref v),some (.ref pa),some (.ref ra),some (.ref q7),some (.str tt),some (.str ta),some (.str tb)] H7 (Dv (.str tb)):=Yd.var rfl fun _ _=>.str _
    have uh2:Ya aD bG [some (.ref p),some (.ref v),some (.ref pa),some (.ref ra),some (.ref q7),some (.str tt),some (.str ta),some (.str tb)] H7 0:=.nil
    have uh1:=Ya.cons aD.keeps (bw (Yd.tupD (.cons c8P (.cons (Yd.catD (K:=(aJ CX0 P w K mg base N49 (Str.ofString "_law_no_web") (ao (top 49)) f cdv A outer s H E).nox.K) (Yd.cast (Yd.slD (K:=(aJ CX0 P w K mg base N49 (Str.ofString "_law_no_web") (ao (top 49)) f cdv A outer s H E).nox.K) (tlo:=dX) (thi:=dJ (tUn (rU fun i=>.int (-i)) (tC (.int 1)))) (lo:=none) (hi:=some (-1)) c8R (fun _ _ q=>q) (fun _ _ q=>⟨1,rfl,_,rfl,q⟩)) eRi) (Yd.tupD (.cons (Yd.tupD (.cons c8t (.cons c8a (.cons c8a .nil))) (by simp)) .nil) (by simp)) (by simp;omega)) .nil)) (by simp)) (bH kP (kRi _ (eh kt ka ka))) (wb4 (List.mem_append_right _ (List.mem_singleton.mpr rfl)) (by rw [et];exact (by rw [eX];show (_ && (_ && (_ && !decide (ta=ta))))=false;simp)))) uh2
    have uh0:=Ya.cons aD.keeps (bw (Yd.tupD (.cons c8P (.cons (Yd.catD (K:=(aJ CX0 P w K mg base N49 (Str.ofString "_law_no_web") (ao (top 49)) f cdv A outer s H E).nox.K) (Yd.cast (Yd.slD (K:=(aJ CX0 P w K mg base N49 (Str.ofString "_law_no_web") (ao (top 49)) f cdv A outer s H E).nox.K) (tlo:=dX) (thi:=dJ (tUn (rU fun i=>.int (-i)) (tC (.int 1)))) (lo:=none) (hi:=some (-1)) c8R (fun _ _ q=>q) (fun _ _ q=>⟨1,rfl,_,rfl,q⟩)) eRi) (Yd.tupD (.cons (Yd.tupD (.cons (Yd.i 1) (.cons c8a (.cons c8b .nil))) (by simp)) .nil) (by simp)) (by simp;omega)) .nil)) (by simp)) (bH kP (kRi _ (eh (.int _) ka kb))) (wb4 (List.mem_append_right _ (List.mem_singleton.mpr rfl)) (by rw [et];exact (by rw [eX];rfl)))) uh1
    refine eH aD.keeps (ys:=x7) rfl h7 t7 uh0 (by omega) fun q8 x8 H8 s8' h8 t8 l8 m8=>?_
    have s8:=s7.trans s8'
    have u8:H q8=none:=s7.free m8
    exact key _ _ ⟨_,_,_,q8,x8,rfl,s8,h8,t8,by omega,by omega,u8⟩
   rintro σ H9 ⟨g1,g2,g3,q9,x9,rfl,s9,h9,t9,l0,l100,u9⟩
   refine⟨_,rfl,ra,_,rfl,.inr (SqT.of (s9 _ _ W.rl)),_,_,rfl,rfl,_,rfl,aS (fun c=>?_) (fun c=>fin g1 g2 g3 q9 x9 H9 s9 h9 t9 l0 (by omega) u9)⟩
   have hl1:1 < rs.length:=by have:=of_decide_eq_true c;rw [List.length_map] at this;omega
   obtain⟨r0,r1,rr,hrs⟩:∃r0 r1 rr,rs=r0::r1::rr:=by
    match rs,hl1 with
    | a::b::c,_=>exact⟨a,b,c,rfl⟩
   have nrr:¬ ((rs.map aR).reverse.map cx).Pairwise nlt:=by
    rw [List.map_reverse,jM]
    exact r8 G.rso (by simpa using hl1)
   have kRr:Dok (.tuple (rs.map aR).reverse):=.tup _ (by simp;omega) fun e he=>eP G e (List.mem_reverse.mp he)
   have eR0:(rs.map aR)[0]?=some (aR r0):=by rw [hrs];rfl
   have eR1:(rs.map aR)[1]?=some (aR r1):=by rw [hrs];rfl
   have eJ0:ixN (rs.map aR).length 0=some 0:=by rw [hrs];unfold ixN;rw [List.length_map,if_pos (by decide),if_pos (by simp only [List.length_cons];omega)];rfl
   have eJ1:ixN (rs.map aR).length 1=some 1:=by rw [hrs];unfold ixN;rw [List.length_map,if_pos (by decide),if_pos (by simp only [List.length_cons];omega)];rfl
   have eR2:PyData.tuple (cutD (rs.map aR) (some 2) none)=.tuple (rr.map aR):=by rw [hrs,List.map_cons,List.map_cons,tQ]
   have hrrl:rr.length<=30:=by have:=congrArg List.length hrs;simp at this;omega
   have nsw:¬ (([aR r1,aR r0]++rr.map aR).map cx).Pairwise nlt:=fun z=>by
    have h1:=G.rso
    rw [hrs] at h1
    have a1:nlt r0.2.1 r1.2.1:=(List.pairwise_cons.mp h1).1 _ (by simp)
    have a2:nlt r1.2.1 r0.2.1:=(List.pairwise_cons.mp z).1 _ (List.mem_cons_self)
    exact List.lt_irrefl _ (List.lt_trans (show r0.2.1.cps.toList < r1.2.1.cps.toList from a1) a2)
   have kSw:Dok (.tuple ([aR r1,aR r0]++rr.map aR)):=.tup _ (by simp;omega) fun e he=>eP G e (by
    rw [hrs]
    simp only [List.map_cons,List.mem_append,List.mem_cons,List.not_mem_nil,or_false] at he ⊢
    rcases he with (h | h) | h
    ·exact .inr (.inl h)
    ·exact .inl h
    ·exact .inr (.inr h))
   have c9P:=cP (some (.ref q9)) g1 g2 g3 H9 s9
   have c9R:=cR (some (.ref q9)) g1 g2 g3 H9 s9
   have ui2:Ya aD bG [some (.ref p),some (.ref v),some (.ref pa),some (.ref ra),some (.ref q9),g1,g2,g3] H9 0:=.nil
   have ui1:=Ya.cons aD.keeps (bw (Yd.tupD (.cons c9P (.cons (Yd.catD (K:=(aJ CX0 P w K mg base N49 (Str.ofString "_law_no_web") (ao (top 49)) f cdv A outer s H E).nox.K) (Yd.tupD (.cons (Yd.ixD (K:=(aJ CX0 P w K mg base N49 (Str.ofString "_law_no_web") (ao (top 49)) f cdv A outer s H E).nox.K) (ti:=tC (.int 1)) (j:=1) (i:=1) c9R (fun _ _ q=>q) ⟨eJ1,eR1⟩) (.cons (Yd.ixD (K:=(aJ CX0 P w K mg base N49 (Str.ofString "_law_no_web") (ao (top 49)) f cdv A outer s H E).nox.K) (ti:=tC (.int 0)) (j:=0) (i:=0) c9R (fun _ _ q=>q) ⟨eJ0,eR0⟩) .nil)) (by simp)) (Yd.cast (Yd.slD (K:=(aJ CX0 P w K mg base N49 (Str.ofString "_law_no_web") (ao (top 49)) f cdv A outer s H E).nox.K) (tlo:=dJ (tC (.int 2))) (thi:=dX) (lo:=some (2)) (hi:=none) c9R (fun _ _ q=>⟨2,rfl,q⟩) (fun _ _ q=>q)) eR2) (by simp;omega)) .nil)) (by simp)) (bH kP kSw) (wb5 nsw)) ui2
   have ui0:=Ya.cons aD.keeps (bw (Yd.tupD (.cons c9P (.cons (Yd.revD (K:=(aJ CX0 P w K mg base N49 (Str.ofString "_law_no_web") (ao (top 49)) f cdv A outer s H E).nox.K) c9R) .nil)) (by simp)) (bH kP kRr) (wb5 nrr)) ui1
   refine eH aD.keeps (ys:=x9) rfl h9 t9 ui0 (by simp;omega) fun qz xz Hz sz' hz' tz lz mz=>?_
   exact fin g1 g2 g3 qz xz Hz (s9.trans sz') hz' tz (by omega) (by omega) (s9.free mz)
end
section
variable {P:Program}{w:World}{K:PySem.W.Frag}{mg:Str->Option Value}{base:Heap}
noncomputable def km:Sp:=fun vs H Q _=>∃(p v pa ra:Addr) (ps:List Str) (rs:List (Addr×Row)),vs=[.ref p,.ref v]/\Pot H p/\br H v pa ra ps rs/\Good ps (rs.map (·.2))/\ps.length<=8/\rs.length<=30/\Str.ofString "nowhere"∉ps/\∀(x:V) (H':Hp),Pot H' p->Kp [p] H H'->aY ps x H'->Q x H'
noncomputable abbrev N50:List Str:=["_law_pot_here","_law_web_here","_law_some"]
theorem jA:aP N50 ["_law_pot_here","_law_web_here"] (ao (top 50)):=⟨rfl,rfl,rfl,by decide +kernel,rfl,by decide +kernel,by decide +kernel⟩
theorem oB {f:Addr}{fd:FuncData} (F:Fun K "_law_no_place" "_law_no_place" (top 50) f fd) (B:Bl mg) (Ft:Fn P w K mg base 1 "_law_draw" ["_law_pot_here","_law_many"] eG):ax P w K mg base CX0 2 f fd ["_law_pot_here","_law_web_here"] km:=by
 refine F.ok jA (fun vs H Q E h=>?_) (fun cdv A outer s H vs Q E hr h=>?_)
 ·obtain⟨p,v,pa,ra,ps,rs,rfl,_⟩:=h
  rfl
 ·obtain⟨p,v,pa,ra,ps,rs,rfl,hp,W,G,h8,h30,hnow,k⟩:=h
  refine' ⟨_,ak ?s1 (ak ?s2 ?r1),?main⟩
  case s1 =>
   refine' aG (i:=2) ?nd ?x ?y ?z ?hs ?hf
   case nd=>exact jA.nd
   case x=>exact rfl
   case y=>exact Or.inl rfl
   case hf=>first | exact .inl rfl | exact .inr rfl
   case' z=>refine' aN ?l0
   case' l0=>refine' ae ?i0 ?l1 ?h0
   case i0=>exact bF
   case h0=>exact bU
   case' l1=>refine' ae ?i1 ?l2 ?h1
   case i1=>exact bF
   case h1=>exact bU
   case' l2=>refine' ae ?i2 ?l3 ?h2
   case i2=>exact bF
   case h2=>exact bU
   case' l3=>refine' ae ?i3 ?l4 ?h3
   case i3=>exact cZ
   case h3=>exact bU
   case' l4=>refine' ae ?i4 ?l5 ?h4
   case i4=>exact ai
   case h4=>exact bU
   case' l5=>refine' ae ?i5 ?l6 ?h5
   case i5=>exact eV
   case h5=>exact bU
   case' l6=>refine' ae ?i6 ?l7 ?h6
   case i6=>exact aN (ae (ay aF (ay aF (pv 1) ai (fun _ _=>rfl)) ai (fun _ _=>rfl)) ag eo)
   case h6=>exact jC
   case' l7=>refine' ae ?i7 ?l8 ?h7
   case i7=>exact aH (ae (ay aF (ay aF (pv 1) ai (fun _ _=>rfl)) ai (fun _ _=>rfl)) ag eo)
   case h7=>exact aW
   case' l8=>refine' ae ?i8 ?l9 ?h8
   case i8=>exact aE ig (ay aF (ay aF (pv 1) ai (fun _ _=>rfl)) ai (fun _ _=>rfl)) bF
   case h8=>exact cy
   case l9=>exact ag
   case hs=>kernel_rfl
  case s2 =>
   refine' aG (i:=2) ?nd2 ?x2 ?y2 ?z2 ?hs2 ?hf2
   case nd2=>exact jA.nd
   case x2=>exact rfl
   case y2=>exact Or.inl rfl
   case hf2=>first | exact .inl rfl | exact .inr rfl
   case' z2=>refine' aE ?o2 ?a2 ?b2
   case o2=>exact ce
   case a2=>exact pv 2
   case b2=>exact bC (N:=["_law_row","_law_web_here"]) (ix:=[none,some 1]) ⟨rfl,rfl,rfl,by decide⟩ rfl (cK (ay aF (pv 1) ai (fun _ _=>rfl))) (fun _ _ _ _=>bp 0 (by decide) rfl rfl) (fun _ _ _ _=>dq (aM (fc K) (ay (bJ K) (pv 0) ai (fun _ _=>rfl)) (ay (bJ K) (pv 1) ai (fun _ _=>rfl)) (by with_unfolding_all rfl))) (fun _ _ _ _=>ay (bJ K) (pv 0) ai (fun _ _=>rfl))
   case hs2=>kernel_rfl
  case r1=>exact av (aI (ay aF (pv 2) (aw Ft hr (ae (pv 0) (ae (aB bD rfl B.len PySem.boot_len (ae (pv 2) ag)) ag))) (fun _ _=>rfl)))
  case main =>
   obtain⟨p0,pr,hps⟩:∃p0 pr,ps=p0::pr:=by
    cases ps with
    | nil=>exact absurd rfl G.ne
    | cons a b=>exact⟨a,b,rfl⟩
   have hp0:be p0:=G.nm p0 (by rw [hps];simp)
   have hpa:H pa=some (.tup (.str p0::pr.map V.str)):=by rw [W.pl,hps];rfl
   have n1:cE (.str (Str.ofString "")) ps=false:=jc G.nm fun z=>by have:=z.lo;revert this;decide +kernel
   have n2:cE (.str (Str.ofString "nowhere")) ps=false:=decide_eq_false hnow
   have n3:cE (.str (Str.ofString "A")) ps=false:=jc G.nm fun z=>by have:=z.az 65 (by decide +kernel);revert this;decide
   have n4:cE (.str (p0++Str.ofString "zzzzzzzzz")) ps=false:=jc G.nm fun z=>by
    have:=z.hi
    rw [Str.length_append,show (Str.ofString "zzzzzzzzz").length=9 by decide +kernel] at this
    omega
   have hl0:=hp0.hi
   have kp:Dok (.str p0):=cH hp0
   have kt:Dok (.str (p0++Str.ofString "zzzzzzzzz")):=.str _ ⟨by rw [Str.length_append,show (Str.ofString "zzzzzzzzz").length=9 by decide +kernel];omega,by
    have:=hp0.ascii
    rw [Str.cps_append,Array.all_append,this]
    decide +kernel⟩
   have yp:Yd (tOp (rIx (aJ CX0 P w K mg base N50 (Str.ofString "_law_no_place") (ao (top 50)) f cdv A outer s H E).nox.K) (tOp (rIx (aJ CX0 P w K mg base N50 (Str.ofString "_law_no_place") (ao (top 50)) f cdv A outer s H E).nox.K) (ba 1) (tC (.int 0))) (tC (.int 0))) [some (.ref p),some (.ref v),none] H (Dv (.str p0)):=Yd.ix00 rfl W.tp hpa
   have a9:Ya (aY ps) bG [some (.ref p),some (.ref v),none] H 0:=.nil
   have a8:=Ya.cons aY.keeps (ee (ps:=ps) (Yd.addS yp (Str.ofString "zzzzzzzzz") (by rw [show (Str.ofString "zzzzzzzzz").length=9 by decide +kernel];omega)) kt n4) a9
   have a7:=Ya.cons aY.keeps (ee (ps:=ps) (Yd.tupD (.cons yp .nil) (by simp)) (.tup _ (by simp) (by simp;exact kp)) rfl) a8
   have a6:=Ya.cons aY.keeps (ee (ps:=ps) (Yd.lsD (.cons yp .nil) (by simp)) (.lst _ (by simp) (by simp;exact kp) (by simp)) rfl) a7
   have a5:=Ya.cons aY.keeps (ee (ps:=ps) Yd.n .non rfl) a6
   have a4:=Ya.cons aY.keeps (ee (ps:=ps) (Yd.i 0) (.int _) rfl) a5
   have a3:=Ya.cons aY.keeps (ee (ps:=ps) (Yd.b true) (.bl _) rfl) a4
   have a2:=Ya.cons aY.keeps (ee (ps:=ps) (Yd.s (Str.ofString "A")) (.str _ ⟨by decide +kernel,by decide +kernel⟩) n3) a3
   have a1:=Ya.cons aY.keeps (ee (ps:=ps) (Yd.s (Str.ofString "")) (.str _ ⟨by decide +kernel,by decide +kernel⟩) n1) a2
   have a0:=Ya.cons aY.keeps (ee (ps:=ps) (Yd.s (Str.ofString "nowhere")) (.str _ ⟨by decide +kernel,by decide +kernel⟩) n2) a1
   refine lZ aY.keeps a0 (by decide) fun q1 x1 H1 s1 h1 t1 l1 m1=>?_
   have W1:=W.same s1
   refine⟨_,rfl,_,rfl,aC (j:=1) (.inr (SqT.of W1.tp)) rfl rfl ⟨ra,rfl,⟨_,SqT.of W1.rl⟩,fP (xs:=aq rs) (fits (by rw [List.length_map];omega)) (fun i ys σ H2=>ys=(((rs.take i).filter fun r=>!decide (r.2.1∈ps)).map fun r=>V.str r.2.1)/\H2=H1/\∃g,σ=[g,some (.ref v)]) ⟨rfl,rfl,_,rfl⟩
    (fun i ys σ H2 _ q=>⟨by rw [q.1,List.length_map];exact fA _ _ _,by rw [q.2.1];exact SqT.of W1.rl⟩) ?_ ?_⟩⟩
   ·rintro i x ys σ H2 hx ⟨rfl,rfl,g,rfl⟩
    obtain⟨r,hri,rfl⟩:=ck hx
    have tf:=tfs (fun r:T=>!decide (r.2.1∈ps)) rs i r hri
    refine⟨_,rfl,aC (j:=0) (.inr (SqT.of (W1.rows r (List.mem_of_getElem? hri)))) rfl rfl ⟨_,rfl,aC (j:=0) (.inr (SqT.of W1.tp)) rfl rfl ⟨pa,ps.map V.str,rfl,.inr (SqT.of W1.pl),rfl,cm ps,_,rfl,?_⟩⟩⟩
    show if (!inV (.str r.2.1) (ps.map V.str))=true then _ else _
    rw [cn]
    refine aS (fun c=>⟨_,rfl,aC (j:=0) (.inr (SqT.of (W1.rows r (List.mem_of_getElem? hri)))) rfl rfl ⟨?_,rfl,_,rfl⟩⟩) (fun c=>⟨?_,rfl,_,rfl⟩)
    ·rw [tf,c];simp
    ·rw [tf];simp only [Bool.not_eq_true] at c;rw [c];simp
   rintro ys σ H2 ⟨rfl,rfl,g,rfl⟩ qq hqq
   rw [take_all rs (by simp)]
   have lf:=List.length_filter_le (fun r:T=>!decide (r.2.1∈ps)) rs
   have tn:∀x∈((rs.filter fun r:T=>!decide (r.2.1∈ps)).map fun r:T=>V.str r.2.1),∀H',aY ps x H':=fun x hx H'=>by
    obtain⟨r,hr,rfl⟩:=List.mem_map.mp hx
    obtain⟨hr1,hr2⟩:=List.mem_filter.mp hr
    refine .inl ⟨.str r.2.1,.str _,cH (G.rn r.2 (List.mem_map_of_mem hr1)).1,decide_eq_false fun z=>?_⟩
    rw [decide_eq_true z] at hr2
    cases hr2
   have ln:((rs.filter fun r:T=>!decide (r.2.1∈ps)).map fun r:T=>V.str r.2.1).length<=30:=by rw [List.length_map];omega
   generalize ((rs.filter fun r:T=>!decide (r.2.1∈ps)).map fun r:T=>V.str r.2.1)=nn at tn ln ⊢
   have s2:=am (o:=.lst nn) (ah.refl H2) hqq
   have e2:upd H2 qq (.lst nn) qq=some (.lst nn):=aj
   generalize upd H2 qq (.lst nn)=H3 at s2 e2 ⊢
   refine⟨q1,qq,_,_,rfl,rfl,s2 _ _ h1,e2,Nat.le_of_lt (fits (by omega)),fun q hq=>?_⟩
   have s3:=am (o:=.lst (x1++nn)) (ah.refl H3) hq
   have e3:upd H3 q (.lst (x1++nn)) q=some (.lst (x1++nn)):=aj
   generalize upd H3 q (.lst (x1++nn))=H4 at s3 e3 ⊢
   have sA:=s1.trans (s2.trans s3)
   have nqp:q≠p:=fun z=>by obtain⟨i,j,e,_⟩:=hp.same (s1.trans s2);rw [<- z,hq] at e;cases e
   have P1:=hp.same sA
   have tA:∀x∈x1++nn,aY ps x H4:=fun x hx=>(List.mem_append.mp hx).elim (fun z=>(t1 x z).same (s2.trans s3)) (fun z=>tn x z H4)
   have lA:(x1++nn).length=x1.length + nn.length:=List.length_append
   refine⟨_,rfl,_,rfl,_,rfl,q,_,rfl,.inl (SqL.of e3),p,_,rfl,P1,by omega,by omega,fun i H5 b0 b1 P2 K2=>?_⟩
   have hi:i.toNat < (x1++nn).length:=by omega
   refine aC (j:=i.toNat) (.inl (SqL.of (K2.at nqp e3))) (by omega) (List.getElem?_eq_getElem hi) ?_
   exact k _ H5 P2 ((Kp.same sA).trans K2) ((tA _ (List.getElem_mem hi)).kp K2 P1)
end
theorem uo:bootBuiltins "ValueError"=some (.type "ValueError"):=by decide +kernel
structure Cls (mg:Str->Option Value) (c0 c1 c2 c3 c4 c5 c6 c7 c8 c9 c10:Addr):Prop where
 m0:mg "NoWeb"=some (.ref c0)
 m1:mg "NoPlace"=some (.ref c1)
 m2:mg "TooFew"=some (.ref c2)
 m3:mg "NoTie"=some (.ref c3)
 m4:mg "NoLot"=some (.ref c4)
 m5:mg "NoTree"=some (.ref c5)
 m6:mg "NoText"=some (.ref c6)
 m7:mg "NoNumber"=some (.ref c7)
 m8:mg "NoRoots"=some (.ref c8)
 m9:mg "NoCosts"=some (.ref c9)
 m10:mg "TooMany"=some (.ref c10)
 ve:mg "ValueError"=none
structure Srt (K:PySem.W.Frag) (C c0 c1 c2 c3 c4 c5 c6 c7 c8 c9 c10:Addr) (bs:List Bool):Prop where
 ke:gj K C
 kk:∃b0 b1 b2 b3 b4 b5 b6 b7 b8 b9 b10 b11:Bool,bs=[b0,b1,b2,b3,b4,b5,b6,b7,b8,b9,b10,b11]/\PySem.W.kitOne K (.ref C) (.ref c0)=some b0/\PySem.W.kitOne K (.ref C) (.ref c1)=some b1/\PySem.W.kitOne K (.ref C) (.ref c2)=some b2/\PySem.W.kitOne K (.ref C) (.ref c3)=some b3/\PySem.W.kitOne K (.ref C) (.ref c4)=some b4/\PySem.W.kitOne K (.ref C) (.ref c5)=some b5/\PySem.W.kitOne K (.ref C) (.ref c6)=some b6/\PySem.W.kitOne K (.ref C) (.ref c7)=some b7/\PySem.W.kitOne K (.ref C) (.ref c8)=some b8/\PySem.W.kitOne K (.ref C) (.ref c9)=some b9/\PySem.W.kitOne K (.ref C) (.ref c10)=some b10/\PySem.W.kitOne K (.ref C) (.type "ValueError")=some b11
structure Srs (K:PySem.W.Frag) (C c0 c1 c2 c3 c4 c5 c6 c7 c8 c9 c10:Addr) (b0 b1 b2 b3 b4 b5 b6 b7 b8 b9 b10 b11:Bool):Prop where
 ke:gj K C
 k0:PySem.W.kitOne K (.ref C) (.ref c0)=some b0
 k1:PySem.W.kitOne K (.ref C) (.ref c1)=some b1
 k2:PySem.W.kitOne K (.ref C) (.ref c2)=some b2
 k3:PySem.W.kitOne K (.ref C) (.ref c3)=some b3
 k4:PySem.W.kitOne K (.ref C) (.ref c4)=some b4
 k5:PySem.W.kitOne K (.ref C) (.ref c5)=some b5
 k6:PySem.W.kitOne K (.ref C) (.ref c6)=some b6
 k7:PySem.W.kitOne K (.ref C) (.ref c7)=some b7
 k8:PySem.W.kitOne K (.ref C) (.ref c8)=some b8
 k9:PySem.W.kitOne K (.ref C) (.ref c9)=some b9
 k10:PySem.W.kitOne K (.ref C) (.ref c10)=some b10
 kv:PySem.W.kitOne K (.ref C) (.type "ValueError")=some b11
noncomputable abbrev ec (bs:List Bool):List V:=((List.range 12).filter fun j=>(bs[j]?).getD false).map fun j:Nat=>V.int (j:Int)
section
variable {P:Program}{w:World}{K:PySem.W.Frag}{mg:Str->Option Value}{base:Heap}{C c0 c1 c2 c3 c4 c5 c6 c7 c8 c9 c10:Addr}
noncomputable def gL (C:Addr) (bs:List Bool):Option Value->Sp:=fun hv vs H Q _=>∃(a:Addr) (dx:Option Addr),hv=some (.ref a)/\vs=[.ref a]/\H a=some (bB a C dx)/\(∀d,dx=some d->∃fs,H d=some (.xd fs))/\∀(q:Addr) (H':Hp),ah H H'->H' q=some (.lst (ec bs))->Q (.ref q) H'
noncomputable abbrev N51:List Str:=["_law_error","_law_some"]
theorem gq:aP N51 ["_law_error"] (ao (top 51)):=⟨rfl,rfl,rfl,by decide +kernel,rfl,by decide +kernel,by decide +kernel⟩
theorem iz {f:Addr}{fd:FuncData}{bs:List Bool} (F:Fun K "_law_kinds" "_law_kinds" (top 51) f fd) (B:Bl mg) (Z:Cls mg c0 c1 c2 c3 c4 c5 c6 c7 c8 c9 c10) (O':Srt K C c0 c1 c2 c3 c4 c5 c6 c7 c8 c9 c10 bs):cN P w K mg base CX0 1 f fd ["_law_error"] (gL C bs):=by
 obtain⟨ke,b0,b1,b2,b3,b4,b5,b6,b7,b8,b9,b10,b11,hbs,k0,k1,k2,k3,k4,k5,k6,k7,k8,k9,k10,kv⟩:=O'
 subst hbs
 have O:Srs K C c0 c1 c2 c3 c4 c5 c6 c7 c8 c9 c10 b0 b1 b2 b3 b4 b5 b6 b7 b8 b9 b10 b11:=⟨ke,k0,k1,k2,k3,k4,k5,k6,k7,k8,k9,k10,kv⟩
 refine F.okG gq (fun hv vs H Q E h=>?_) (fun cdv A outer s H vs Q E hr h=>?_)
 ·obtain⟨a,_,_,rfl,_⟩:=h
  rfl
 ·obtain⟨a,dx,hh,rfl,ha,hdx,k⟩:=h
  refine' ⟨_,ak ?s1 (ak ?s2 (ak ?s3 (ak ?s4 (av (aI ?r))))),?main⟩
  case s1 =>
   refine' aG (i:=1) gq.nd rfl (Or.inr rfl) ?e1
   case e1=>exact (aN (ae (aB (cU (c:=.ref c0) O.ke (fun _ z=>z) O.k0) rfl B.isinstance bz (ae (pv 0) (ae (cJ (v:=.ref c0) rfl Z.m0 rfl) ag))) (ae (aB (cU (c:=.ref c1) O.ke (fun _ z=>z) O.k1) rfl B.isinstance bz (ae (pv 0) (ae (cJ (v:=.ref c1) rfl Z.m1 rfl) ag))) (ae (aB (cU (c:=.ref c2) O.ke (fun _ z=>z) O.k2) rfl B.isinstance bz (ae (pv 0) (ae (cJ (v:=.ref c2) rfl Z.m2 rfl) ag))) ag))))
  case s2 =>
   refine' aG (i:=1) gq.nd rfl (Or.inr rfl) (aE ce (pv 1) ?e2)
   case e2=>exact (aN (ae (aB (cU (c:=.ref c3) O.ke (fun _ z=>z) O.k3) rfl B.isinstance bz (ae (pv 0) (ae (cJ (v:=.ref c3) rfl Z.m3 rfl) ag))) (ae (aB (cU (c:=.ref c4) O.ke (fun _ z=>z) O.k4) rfl B.isinstance bz (ae (pv 0) (ae (cJ (v:=.ref c4) rfl Z.m4 rfl) ag))) (ae (aB (cU (c:=.ref c5) O.ke (fun _ z=>z) O.k5) rfl B.isinstance bz (ae (pv 0) (ae (cJ (v:=.ref c5) rfl Z.m5 rfl) ag))) ag))))
  case s3 =>
   refine' aG (i:=1) gq.nd rfl (Or.inr rfl) (aE ce (pv 1) ?e3)
   case e3=>exact (aN (ae (aB (cU (c:=.ref c6) O.ke (fun _ z=>z) O.k6) rfl B.isinstance bz (ae (pv 0) (ae (cJ (v:=.ref c6) rfl Z.m6 rfl) ag))) (ae (aB (cU (c:=.ref c7) O.ke (fun _ z=>z) O.k7) rfl B.isinstance bz (ae (pv 0) (ae (cJ (v:=.ref c7) rfl Z.m7 rfl) ag))) (ae (aB (cU (c:=.ref c8) O.ke (fun _ z=>z) O.k8) rfl B.isinstance bz (ae (pv 0) (ae (cJ (v:=.ref c8) rfl Z.m8 rfl) ag))) ag))))
  case s4 =>
   refine' aG (i:=1) gq.nd rfl (Or.inr rfl) (aE ce (pv 1) ?e4)
   case e4=>exact (aN (ae (aB (cU (c:=.ref c9) O.ke (fun _ z=>z) O.k9) rfl B.isinstance bz (ae (pv 0) (ae (cJ (v:=.ref c9) rfl Z.m9 rfl) ag))) (ae (aB (cU (c:=.ref c10) O.ke (fun _ z=>z) O.k10) rfl B.isinstance bz (ae (pv 0) (ae (cJ (v:=.ref c10) rfl Z.m10 rfl) ag))) (ae (aB (cU (c:=.ty "ValueError") O.ke (fun _ z=>z) O.kv) rfl B.isinstance bz (ae (pv 0) (ae (cA (v:=.ty "ValueError") rfl Z.ve uo rfl) ag))) ag))))
  case r =>
   refine' tO (N:=["_law_k","_law_some"]) (ix:=[none,some 1]) ⟨rfl,rfl,rfl,by decide⟩ (ea:=a) ?r0 ?r1 ?r2 ?r3 ?r4
   case r0=>exact hh
   case r1=>exact oQ (C:=C) (dx:=dx) rfl B.range (ae ai ag)
   case r2=>exact fun _ _ _ _=>bp 0 (by decide) rfl rfl
   case r3=>exact fun _ _ _ _=>dq (bO (ay (bJ K) (pv 1) (pv 0) (fun _ _=>rfl)))
   case r4=>exact fun _ _ _ _=>pv 0
  case main =>
   refine⟨_,rfl,a,dx,rfl,ha,hdx,_,rfl,a,dx,rfl,ha,hdx,_,rfl,a,dx,rfl,ha,hdx,by show 3<=sizeLine;decide,fun p0 hp0=>?_⟩
   have u0:=am (o:=.lst [.bl b0,.bl b1,.bl b2]) (ah.refl H) hp0
   have v0:upd H p0 (.lst [.bl b0,.bl b1,.bl b2]) p0=some (.lst [.bl b0,.bl b1,.bl b2]):=aj
   generalize upd H p0 (.lst [.bl b0,.bl b1,.bl b2])=H2 at u0 v0 ⊢
   have t1:=u0
   have l1:=v0
   have d1:∀d,dx=some d->∃fs,H2 d=some (.xd fs):=fun d z=>(hdx d z).imp fun fs e=>t1 _ _ e
   refine⟨_,rfl,_,rfl,a,dx,rfl,(t1 _ _ ha),d1,_,rfl,a,dx,rfl,(t1 _ _ ha),d1,_,rfl,a,dx,rfl,(t1 _ _ ha),d1,by show 3<=sizeLine;decide,fun p1 hp1=>?_⟩
   have u1:=am (o:=.lst [.bl b3,.bl b4,.bl b5]) (ah.refl H2) hp1
   have v1:upd H2 p1 (.lst [.bl b3,.bl b4,.bl b5]) p1=some (.lst [.bl b3,.bl b4,.bl b5]):=aj
   generalize upd H2 p1 (.lst [.bl b3,.bl b4,.bl b5])=G1 at u1 v1 ⊢
   refine⟨p0,p1,_,_,rfl,rfl,u1 _ _ l1,v1,by show 6<=sizeLine;decide,fun q2 hq1=>?_⟩
   have w1:=am (o:=.lst [.bl b0,.bl b1,.bl b2,.bl b3,.bl b4,.bl b5]) (ah.refl G1) hq1
   have l2:upd G1 q2 (.lst [.bl b0,.bl b1,.bl b2,.bl b3,.bl b4,.bl b5]) q2=some (.lst [.bl b0,.bl b1,.bl b2,.bl b3,.bl b4,.bl b5]):=aj
   have t2:=t1.trans (u1.trans w1)
   have y1:upd G1 q2 (.lst ([.bl b0,.bl b1,.bl b2]++[.bl b3,.bl b4,.bl b5]))=upd G1 q2 (.lst [.bl b0,.bl b1,.bl b2,.bl b3,.bl b4,.bl b5]):=rfl
   rw [y1]
   generalize upd G1 q2 (.lst [.bl b0,.bl b1,.bl b2,.bl b3,.bl b4,.bl b5])=H4 at w1 l2 t2 ⊢
   have d2:∀d,dx=some d->∃fs,H4 d=some (.xd fs):=fun d z=>(hdx d z).imp fun fs e=>t2 _ _ e
   refine⟨_,rfl,_,rfl,a,dx,rfl,(t2 _ _ ha),d2,_,rfl,a,dx,rfl,(t2 _ _ ha),d2,_,rfl,a,dx,rfl,(t2 _ _ ha),d2,by show 3<=sizeLine;decide,fun p2 hp2=>?_⟩
   have u2:=am (o:=.lst [.bl b6,.bl b7,.bl b8]) (ah.refl H4) hp2
   have v2:upd H4 p2 (.lst [.bl b6,.bl b7,.bl b8]) p2=some (.lst [.bl b6,.bl b7,.bl b8]):=aj
   generalize upd H4 p2 (.lst [.bl b6,.bl b7,.bl b8])=G2 at u2 v2 ⊢
   refine⟨q2,p2,_,_,rfl,rfl,u2 _ _ l2,v2,by show 9<=sizeLine;decide,fun q3 hq2=>?_⟩
   have w2:=am (o:=.lst [.bl b0,.bl b1,.bl b2,.bl b3,.bl b4,.bl b5,.bl b6,.bl b7,.bl b8]) (ah.refl G2) hq2
   have l3:upd G2 q3 (.lst [.bl b0,.bl b1,.bl b2,.bl b3,.bl b4,.bl b5,.bl b6,.bl b7,.bl b8]) q3=some (.lst [.bl b0,.bl b1,.bl b2,.bl b3,.bl b4,.bl b5,.bl b6,.bl b7,.bl b8]):=aj
   have t3:=t2.trans (u2.trans w2)
   have y2:upd G2 q3 (.lst ([.bl b0,.bl b1,.bl b2,.bl b3,.bl b4,.bl b5]++[.bl b6,.bl b7,.bl b8]))=upd G2 q3 (.lst [.bl b0,.bl b1,.bl b2,.bl b3,.bl b4,.bl b5,.bl b6,.bl b7,.bl b8]):=rfl
   rw [y2]
   generalize upd G2 q3 (.lst [.bl b0,.bl b1,.bl b2,.bl b3,.bl b4,.bl b5,.bl b6,.bl b7,.bl b8])=H6 at w2 l3 t3 ⊢
   have d3:∀d,dx=some d->∃fs,H6 d=some (.xd fs):=fun d z=>(hdx d z).imp fun fs e=>t3 _ _ e
   refine⟨_,rfl,_,rfl,a,dx,rfl,(t3 _ _ ha),d3,_,rfl,a,dx,rfl,(t3 _ _ ha),d3,_,rfl,a,dx,rfl,(t3 _ _ ha),d3,by show 3<=sizeLine;decide,fun p3 hp3=>?_⟩
   have u3:=am (o:=.lst [.bl b9,.bl b10,.bl b11]) (ah.refl H6) hp3
   have v3:upd H6 p3 (.lst [.bl b9,.bl b10,.bl b11]) p3=some (.lst [.bl b9,.bl b10,.bl b11]):=aj
   generalize upd H6 p3 (.lst [.bl b9,.bl b10,.bl b11])=G3 at u3 v3 ⊢
   refine⟨q3,p3,_,_,rfl,rfl,u3 _ _ l3,v3,by show 12<=sizeLine;decide,fun q4 hq3=>?_⟩
   have w3:=am (o:=.lst [.bl b0,.bl b1,.bl b2,.bl b3,.bl b4,.bl b5,.bl b6,.bl b7,.bl b8,.bl b9,.bl b10,.bl b11]) (ah.refl G3) hq3
   have l4:upd G3 q4 (.lst [.bl b0,.bl b1,.bl b2,.bl b3,.bl b4,.bl b5,.bl b6,.bl b7,.bl b8,.bl b9,.bl b10,.bl b11]) q4=some (.lst [.bl b0,.bl b1,.bl b2,.bl b3,.bl b4,.bl b5,.bl b6,.bl b7,.bl b8,.bl b9,.bl b10,.bl b11]):=aj
   have t4:=t3.trans (u3.trans w3)
   have y3:upd G3 q4 (.lst ([.bl b0,.bl b1,.bl b2,.bl b3,.bl b4,.bl b5,.bl b6,.bl b7,.bl b8]++[.bl b9,.bl b10,.bl b11]))=upd G3 q4 (.lst [.bl b0,.bl b1,.bl b2,.bl b3,.bl b4,.bl b5,.bl b6,.bl b7,.bl b8,.bl b9,.bl b10,.bl b11]):=rfl
   rw [y3]
   generalize upd G3 q4 (.lst [.bl b0,.bl b1,.bl b2,.bl b3,.bl b4,.bl b5,.bl b6,.bl b7,.bl b8,.bl b9,.bl b10,.bl b11])=H8 at w3 l4 t4 ⊢
   have d4:∀d,dx=some d->∃fs,H8 d=some (.xd fs):=fun d z=>(hdx d z).imp fun fs e=>t4 _ _ e
   have lB:H8 q4=some (.lst ([b0,b1,b2,b3,b4,b5,b6,b7,b8,b9,b10,b11].map V.bl)):=l4
   have len:[b0,b1,b2,b3,b4,b5,b6,b7,b8,b9,b10,b11].length=12:=rfl
   generalize [b0,b1,b2,b3,b4,b5,b6,b7,b8,b9,b10,b11]=bb at lB len k
   refine⟨12,rfl,by decide,by decide,oX (by show 12 < sizeLine;decide) (fun i ys σ H9=>ys=((List.range i).filter fun j=>(bb[j]?).getD false).map (fun j:Nat=>V.int (j:Int))/\H9=H8/\∃g,σ=[g,some (.ref q4)]) ⟨rfl,rfl,_,rfl⟩
    (fun i ys σ H9 _ q=>⟨by rw [q.1,List.length_map];exact Nat.le_trans (List.length_filter_le _ _) (by rw [List.length_range];exact Nat.le_refl _),by rw [q.2.1];exact t4 _ _ ha⟩) ?_ ?_⟩
   ·rintro i ys σ H9 hi ⟨rfl,rfl,g,rfl⟩
    have hi':i < bb.length:=by rw [len];exact hi
    have hg:(bb.map V.bl)[i]?=some (.bl bb[i]):=by rw [List.getElem?_map,List.getElem?_eq_getElem hi'];rfl
    refine⟨_,rfl,_,rfl,aC (j:=i) (.inl (SqL.of lB)) (by omega) hg ⟨_,rfl,?_⟩⟩
    have e0:(bb[i]?).getD false=bb[i]:=by rw [List.getElem?_eq_getElem hi'];rfl
    have tf:((List.range (i + 1)).filter fun j=>(bb[j]?).getD false)=((List.range i).filter fun j=>(bb[j]?).getD false)++(if bb[i]=true then [i] else []):=by
     rw [List.range_succ,List.filter_append]
     simp only [List.filter_cons,List.filter_nil,e0]
    refine aS (fun c=>⟨_,rfl,?_,rfl,_,rfl⟩) (fun c=>⟨?_,rfl,_,rfl⟩)
    ·rw [tf,if_pos c,List.map_append]
     show _++[V.int (0 + (i:Int))]=_++[V.int (i:Int)]
     rw [Int.zero_add]
    ·rw [tf,if_neg c,List.append_nil]
   ·rintro ys σ H9 ⟨rfl,rfl,g,rfl⟩ q hq
    exact k q _ (t4.trans (am (ah.refl _) hq)) aj
end
section
open SeqAt PyProof.Rows PySem.Spec
theorem pW {X:Cx}{k:Nat} (hr:aK k X.A):OpR X (compareOp .NotIn) (fun x y H Q=>∃(c p a b:Addr) (d d1 d2:PyData),x=.ref c/\y=.ref p/\a≠b/\a≠c/\b≠c/\SqT X.K H p [.ref a,.ref b]/\DV H (.ref c) d/\DV H (.ref a) d1/\DV H (.ref b) d2/\shaped d=true/\shaped d1=true/\shaped d2=true/\Q (.bl (!(PyData.eqv d1 d || PyData.eqv d2 d))) H):=by
 intro pins s σ H x y v u Q I rx ry h
 obtain⟨c,p,a,b,d,d1,d2,rfl,rfl,hab,hac,hbc,hq,dc,da,db,sc,sa,sb,q⟩:=h
 cases rx
 cases ry
 obtain⟨its,r',pl,hz⟩:=I.tuple hq
 have hun:=hr.un
 obtain⟨as,r1⟩:=dc.reads I.hok (show RelV (.ref c) (Value.ref c) from rfl)
 obtain⟨aa,ra⟩:=da.reads I.hok (show RelV (.ref a) (Value.ref a) from rfl)
 obtain⟨ab,rb⟩:=db.reads I.hok (show RelV (.ref b) (Value.ref b) from rfl)
 have hits:its=[Value.ref a,Value.ref b]:=by
  cases r' with
  | cons r t =>
   cases t with
   | cons r2 t2 =>
    cases t2
    cases r
    cases r2
    rfl
 subst hits
 let e:Value->Bool:=fun y=>match y with | .ref z=>if z=a then PyData.eqv d1 d else PyData.eqv d2 d | _=>false
 have ea:e (.ref a)=PyData.eqv d1 d:=by show (if a=a then _ else _)=_;rw [if_pos rfl]
 have eb:e (.ref b)=PyData.eqv d2 d:=by show (if b=a then _ else _)=_;rw [if_neg (fun z=>hab z.symm)]
 refine SeqAt.notIn_tupleAt e pl (fun y hy=>?_) ?_
 ·have hy':y=Value.ref a\/y=Value.ref b:=by simpa using hy
  rcases hy' with rfl | rfl
  ·rw [ea]
   refine SeqAt.EqAt.of_refs hac fun prog w E Q hq=>?_
   exact (eq_dataH (A:=X.A.in1) ra r1 sa sc (by show X.A.units + 1 + 64 < cLine;omega) hq:wpAny (model prog w) X.A.in1 (compareOp .Eq (.ref a) (.ref c)) Q E _)
  ·rw [eb]
   refine SeqAt.EqAt.of_refs hbc fun prog w E Q hq=>?_
   exact (eq_dataH (A:=X.A.in1) rb r1 sb sc (by show X.A.units + 1 + 64 < cLine;omega) hq:wpAny (model prog w) X.A.in1 (compareOp .Eq (.ref b) (.ref c)) Q E _)
 ·have e2:([Value.ref a,Value.ref b].toArray).any e=(PyData.eqv d1 d || PyData.eqv d2 d):=by
   rw [List.any_toArray,List.any_cons,List.any_cons,List.any_nil,ea,eb,Bool.or_false]
  rw [e2]
  exact⟨V.bl (!(PyData.eqv d1 d || PyData.eqv d2 d)),H,I,rfl,q⟩
end
section
variable {P:Program}{w:World}{K:PySem.W.Frag}{mg:Str->Option Value}{base:Heap}
noncomputable def gR (CW CP:Addr):Sp:=fun vs H _ E=>(∃x y:V,vs=[x,y]/\aD x H/\∀H',ah H H'->E (.ref CW) none H') \/
 ∃(v pa ra:Addr) (ps:List Str) (rs:List T) (x:V),vs=[.ref v,x]/\br H v pa ra ps rs/\Good ps (rs.map (·.2))/\aY ps x H/\∀H',ah H H'->E (.ref CP) none H'
theorem oC {f CW CP:Addr}{fd:FuncData} (F:Fun K "reached" "reached" (top 33) f fd) (F1:FnX P w K mg base 4 "need_web" ["thing"] (cT (dz .non) (fu CW))) (F2:FnX P w K mg base 2 "need_place" ["web","thing"] (cT eA (fM CP))):ax P w K mg base (CXE P w) 5 f fd ["web","root"] (gR CW CP):=by
 refine F.okX mW (fun vs H Q E h=>?_) (fun cdv A outer s H vs Q E hr h=>?_)
 ·rcases h with ⟨x,y,rfl,_⟩ | ⟨v,pa,ra,ps,rs,x,rfl,_⟩ <;> rfl
 ·have hr2:aK 2 _:=hr.mono (by decide)
  refine⟨_,ak (bj (cL (E:=E) F1 hr cM (ae (pv 0) ag))) (ak (bj (cL (E:=E) F2 hr2 cM (ae (pv 0) (ae (pv 1) ag)))) dk),?_⟩
  rcases h with ⟨x,y,rfl,hw,k⟩ | ⟨v,pa,ra,ps,rs,x,rfl,W,G,hp,k⟩
  ·exact⟨_,rfl,.inr ⟨x,rfl,hw,k⟩⟩
  ·exact⟨_,rfl,.inl ⟨v,pa,ra,ps,rs,rfl,W,G,fun H1 s1=>⟨_,rfl,_,rfl,.inr ⟨v,pa,ra,ps,rs,x,rfl,W.same s1,hp.same s1,k H1 s1⟩⟩⟩⟩
theorem nV {f CW CP:Addr}{fd:FuncData} (F:Fun K "first_tree" "first_tree" (top 34) f fd) (F1:FnX P w K mg base 4 "need_web" ["thing"] (cT (dz .non) (fu CW))) (F2:FnX P w K mg base 2 "need_place" ["web","thing"] (cT eA (fM CP))):ax P w K mg base (CXE P w) 5 f fd ["web","root"] (gR CW CP):=by
 refine F.okX jw (fun vs H Q E h=>?_) (fun cdv A outer s H vs Q E hr h=>?_)
 ·rcases h with ⟨x,y,rfl,_⟩ | ⟨v,pa,ra,ps,rs,x,rfl,_⟩ <;> rfl
 ·have hr2:aK 2 _:=hr.mono (by decide)
  refine⟨_,ak (bj (cL (E:=E) F1 hr cM (ae (pv 0) ag))) (ak (bj (cL (E:=E) F2 hr2 cM (ae (pv 0) (ae (pv 1) ag)))) dk),?_⟩
  rcases h with ⟨x,y,rfl,hw,k⟩ | ⟨v,pa,ra,ps,rs,x,rfl,W,G,hp,k⟩
  ·exact⟨_,rfl,.inr ⟨x,rfl,hw,k⟩⟩
  ·exact⟨_,rfl,.inl ⟨v,pa,ra,ps,rs,rfl,W,G,fun H1 s1=>⟨_,rfl,_,rfl,.inr ⟨v,pa,ra,ps,rs,x,rfl,W.same s1,hp.same s1,k H1 s1⟩⟩⟩⟩
noncomputable def mm (CW CP:Addr):Sp:=fun vs H _ E=>(∃x y z:V,vs=[x,y,z]/\aD x H/\∀H',ah H H'->E (.ref CW) none H') \/
 ∃(v pa ra:Addr) (ps:List Str) (rs:List T) (x y:V),vs=[.ref v,x,y]/\br H v pa ra ps rs/\Good ps (rs.map (·.2))/\(aY ps x H\/∃a,x=.str a/\a∈ps/\aY ps y H)/\∀H',ah H H'->E (.ref CP) none H'
theorem oS {f CW CP:Addr}{fd:FuncData} (F:Fun K "fewest" "fewest" (top 35) f fd) (F1:FnX P w K mg base 4 "need_web" ["thing"] (cT (dz .non) (fu CW))) (F2:FnX P w K mg base 2 "need_place" ["web","thing"] (cT eA (fM CP))):ax P w K mg base (CXE P w) 5 f fd ["web","a","b"] (mm CW CP):=by
 refine F.okX nt (fun vs H Q E h=>?_) (fun cdv A outer s H vs Q E hr h=>?_)
 ·rcases h with ⟨x,y,z,rfl,_⟩ | ⟨v,pa,ra,ps,rs,x,y,rfl,_⟩ <;> rfl
 ·have hr2:aK 2 _:=hr.mono (by decide)
  refine⟨_,ak (bj (cL (E:=E) F1 hr cM (ae (pv 0) ag))) (ak (bj (cL (E:=E) F2 hr2 cM (ae (pv 0) (ae (pv 1) ag)))) (ak (bj (cL (E:=E) F2 hr2 cM (ae (pv 0) (ae (pv 2) ag)))) dk)),?_⟩
  rcases h with ⟨x,y,z,rfl,hw,k⟩ | ⟨v,pa,ra,ps,rs,x,y,rfl,W,G,hp,k⟩
  ·exact⟨_,rfl,.inr ⟨x,rfl,hw,k⟩⟩
  ·refine⟨_,rfl,.inl ⟨v,pa,ra,ps,rs,rfl,W,G,fun H1 s1=>⟨_,rfl,_,rfl,?_⟩⟩⟩
   rcases hp with hx | ⟨a,rfl,ha,hy⟩
   ·exact .inr ⟨v,pa,ra,ps,rs,x,rfl,W.same s1,hx.same s1,k H1 s1⟩
   ·exact .inl ⟨v,pa,ra,ps,rs,a,rfl,W.same s1,ha,⟨_,rfl,_,rfl,.inr ⟨v,pa,ra,ps,rs,y,rfl,W.same s1,hy.same s1,k H1 s1⟩⟩⟩
end
section
variable {P:Program}{w:World}{K:PySem.W.Frag}{mg:Str->Option Value}{base:Heap}{CW CP CT R:Addr}{bW bP bT:List Bool}
theorem cN.or {k:Nat}{f:Addr}{fd:FuncData}{ps:List Str}{a b:Option Value->Sp} (F:cN P w K mg base CX0 k f fd ps a) (G:cN P w K mg base CX0 k f fd ps b):cN P w K mg base CX0 k f fd ps (fun hv vs H Q E=>a hv vs H Q E\/b hv vs H Q E) :=
 ⟨fun hv vs H Q E h=>h.elim (F.len hv vs H Q E) (G.len hv vs H Q E),fun A outer s H args us vs Q E hr e0 hb r h=>h.elim (F.run A outer s H args us vs Q E hr e0 hb r) (G.run A outer s H args us vs Q E hr e0 hb r)⟩
noncomputable abbrev qF (CW CP CT:Addr) (bW bP bT:List Bool):Option Value->Sp:=fun hv vs H Q E=>gL CW bW hv vs H Q E\/gL CP bP hv vs H Q E\/gL CT bT hv vs H Q E
inductive Ask (bW bP bT:List Bool) (n:Int) (x y z:V) (H:Hp):(List V->Prop)->Prop
 | web:aD x H->Ask bW bP bT n x y z H (fun l=>l=ec bW)
 | place {v pa ra:Addr}{ps:List Str}{rs:List T}:x=.ref v->br H v pa ra ps rs->Good ps (rs.map (·.2))->aY ps y H->Ask bW bP bT n x y z H (fun l=>l=ec bP)
 | second {v pa ra:Addr}{ps:List Str}{rs:List T}{a:Str}:n≠0->n≠1->x=.ref v->br H v pa ra ps rs->Good ps (rs.map (·.2))->y=.str a->a∈ps->aY ps z H->Ask bW bP bT n x y z H (fun l=>l=ec bP)
 | same {v pa ra:Addr}{ps:List Str}{rs:List T}{a:Str}:n≠0->n≠1->n≠2->x=.ref v->br H v pa ra ps rs->Good ps (rs.map (·.2))->y=.str a->a∈ps->z=.str a->Ask bW bP bT n x y z H (fun l=>l=ec bP)
 | told {v pa ra:Addr}{ps:List Str}{rs:List T}{a b:Str}:n≠1->(n≠0->n≠2->a≠b)->x=.ref v->br H v pa ra ps rs->Good ps (rs.map (·.2))->ps.length<=60->y=.str a->a∈ps->z=.str b->b∈ps->Ask bW bP bT n x y z H (fun l=>l=[])
 | tree {v pa ra:Addr}{ps:List Str}{rs:List T}{a:Str}:n=1->x=.ref v->br H v pa ra ps rs->Good ps (rs.map (·.2))->ps.length<=60->y=.str a->a∈ps->Ask bW bP bT n x y z H (fun l=>l=[]\/l=ec bT)
noncomputable def iS (bW bP bT:List Bool):Sp:=fun vs H Q _=>∃(n:Int) (x y z:V) (L:List V->Prop),vs=[.int n,x,y,z]/\Ask bW bP bT n x y z H L/\∀(q:Addr) (l:List V) (H':Hp),ah H H'->L l->H' q=some (.lst l)->Q (.ref q) H'
noncomputable abbrev N52:List Str:=["_law_way","_law_web_here","_law_a","_law_b","_law_refused","_law_error"]
theorem hX:aP N52 ["_law_way","_law_web_here","_law_a","_law_b"] (ao (top 52)):=⟨rfl,rfl,rfl,by decide +kernel,rfl,by decide +kernel,by decide +kernel⟩
theorem qG {f:Addr}{fd:FuncData} (F:Fun K "_law_asked" "_law_asked" (top 52) f fd) (hxR:mg "RootError"=some (.ref R)) (hR:eO base R) (hW:Under base CW R) (hP:Under base CP R) (hT:Under base CT R)
  (F1:FnX P w K mg base 5 "reached" ["web","root"] (cT jW (gR CW CP))) (F2:FnX P w K mg base 5 "first_tree" ["web","root"] (cT (nK CT) (gR CW CP))) (F3:FnX P w K mg base 5 "fewest" ["web","a","b"] (cT kL (mm CW CP)))
  (F4:FnX P w K mg base 5 "ways" ["web","a","b"] (cT lI (lx CW CP))) (F5:FnG P w K mg base 1 "_law_kinds" ["_law_error"] (qF CW CP CT bW bP bT)):ax P w K mg base CX0 6 f fd ["_law_way","_law_web_here","_law_a","_law_b"] (iS bW bP bT):=by
 refine F.ok hX (fun vs H Q E h=>?_) (fun cdv A outer s H vs Q E hr h=>?_)
 ·obtain⟨n,x,y,z,L,rfl,_⟩:=h
  rfl
 ·obtain⟨n,x,y,z,L,rfl,hs,k⟩:=h
  have hr1:aK 1 _:=hr.mono (by decide)
  refine' ⟨_,ak (aG (i:=4) hX.nd rfl (Or.inl rfl) (aN ag)) (ak ?tr (av (aI (pv 4)))),?main⟩
  case tr =>
   refine' rD (j:=5) ?t1 hxR hR ?t2 hX.nd rfl rfl rfl rfl rfl
   case' t1=>refine' jk (aM cX (pv 0) ai (aQ _)) (fj (gI (gO F1 hr (ae (pv 1) (ae (pv 2) ag))))) (fj ?t3)
   case' t3=>refine' jk (aM cX (pv 0) ai (aQ _)) (fj (gI (gO F2 hr (ae (pv 1) (ae (pv 2) ag))))) (fj ?t4)
   case t4=>exact jk (aM cX (pv 0) ai (aQ _)) (fj (gI (gO F3 hr (ae (pv 1) (ae (pv 2) (ae (pv 3) ag)))))) (fj (gI (gO F4 hr (ae (pv 1) (ae (pv 2) (ae (pv 3) ag))))))
   case t2=>exact fun ea=>av (aG (i:=4) hX.nd rfl (Or.inl rfl) (tw F5 ⟨hr1.dp,hr1.un,hr1.gd⟩ (ae (pv 5) ag)))
  case main =>
  refine⟨by show 0<=sizeLine;decide,fun q0 hq0=>?_⟩
  have s0:=am (o:=.lst []) (ah.refl H) hq0
  have e0:upd H q0 (.lst []) q0=some (.lst []):=aj
  generalize upd H q0 (.lst [])=H0 at s0 e0 ⊢
  refine⟨_,rfl,rfl,_,rfl,?_⟩
  have eqi:∀{m:Int},decide (V.int n=V.int m)=true->n=m:=fun {m} h=>V.int.inj (of_decide_eq_true h)
  have nei:∀{m:Int},¬ decide (V.int n=V.int m)=true->n≠m:=fun {m} h z=>h (decide_eq_true (by rw [z]))
  cases hs with
  | web hw =>
   have hw0:=hw.same s0
   refine aS (fun c0=>?_) (fun c0=>⟨_,rfl,rfl,_,rfl,aS (fun c1=>?_) (fun c1=>⟨_,rfl,rfl,_,rfl,aS (fun c2=>?_) (fun c2=>?_)⟩)⟩)
   ·exact⟨_,rfl,_,rfl,.inr (.inl ⟨x,y,rfl,hw0,(fun H1 s1=>⟨CW,rfl,hW,fun ea hea=>⟨_,rfl,(.inl ⟨ea,none,rfl,rfl,aj,(fun d z=>nomatch z),fun q H3 s3 hq=>⟨_,rfl,k q _ H3 (s0.trans ((am (o:=bB ea CW none) s1 hea).trans s3)) rfl hq⟩⟩)⟩⟩)⟩)⟩
   ·exact⟨_,rfl,_,rfl,.inr (.inl ⟨x,y,rfl,hw0,(fun H1 s1=>⟨CW,rfl,hW,fun ea hea=>⟨_,rfl,(.inl ⟨ea,none,rfl,rfl,aj,(fun d z=>nomatch z),fun q H3 s3 hq=>⟨_,rfl,k q _ H3 (s0.trans ((am (o:=bB ea CW none) s1 hea).trans s3)) rfl hq⟩⟩)⟩⟩)⟩)⟩
   ·exact⟨_,rfl,_,rfl,_,rfl,.inr (.inl ⟨x,y,z,rfl,hw0,(fun H1 s1=>⟨CW,rfl,hW,fun ea hea=>⟨_,rfl,(.inl ⟨ea,none,rfl,rfl,aj,(fun d z=>nomatch z),fun q H3 s3 hq=>⟨_,rfl,k q _ H3 (s0.trans ((am (o:=bB ea CW none) s1 hea).trans s3)) rfl hq⟩⟩)⟩⟩)⟩)⟩
   ·exact⟨_,rfl,_,rfl,_,rfl,.inr (.inl ⟨x,y,z,rfl,hw0,(fun H1 s1=>⟨CW,rfl,hW,fun ea hea=>⟨_,rfl,(.inl ⟨ea,none,rfl,rfl,aj,(fun d z=>nomatch z),fun q H3 s3 hq=>⟨_,rfl,k q _ H3 (s0.trans ((am (o:=bB ea CW none) s1 hea).trans s3)) rfl hq⟩⟩)⟩⟩)⟩)⟩
  | @place v pa ra ps rs e W G hp =>
   subst e
   have hp0:=hp.same s0
   have W0:=W.same s0
   refine aS (fun c0=>?_) (fun c0=>⟨_,rfl,rfl,_,rfl,aS (fun c1=>?_) (fun c1=>⟨_,rfl,rfl,_,rfl,aS (fun c2=>?_) (fun c2=>?_)⟩)⟩)
   ·exact⟨_,rfl,_,rfl,.inr (.inr ⟨v,pa,ra,ps,rs,y,rfl,W0,G,hp0,(fun H1 s1=>⟨CP,rfl,hP,fun ea hea=>⟨_,rfl,(.inr (.inl ⟨ea,none,rfl,rfl,aj,(fun d z=>nomatch z),fun q H3 s3 hq=>⟨_,rfl,k q _ H3 (s0.trans ((am (o:=bB ea CP none) s1 hea).trans s3)) rfl hq⟩⟩))⟩⟩)⟩)⟩
   ·exact⟨_,rfl,_,rfl,.inr (.inr ⟨v,pa,ra,ps,rs,y,rfl,W0,G,hp0,(fun H1 s1=>⟨CP,rfl,hP,fun ea hea=>⟨_,rfl,(.inr (.inl ⟨ea,none,rfl,rfl,aj,(fun d z=>nomatch z),fun q H3 s3 hq=>⟨_,rfl,k q _ H3 (s0.trans ((am (o:=bB ea CP none) s1 hea).trans s3)) rfl hq⟩⟩))⟩⟩)⟩)⟩
   ·exact⟨_,rfl,_,rfl,_,rfl,.inr (.inr ⟨v,pa,ra,ps,rs,y,z,rfl,W0,G,.inl hp0,(fun H1 s1=>⟨CP,rfl,hP,fun ea hea=>⟨_,rfl,(.inr (.inl ⟨ea,none,rfl,rfl,aj,(fun d z=>nomatch z),fun q H3 s3 hq=>⟨_,rfl,k q _ H3 (s0.trans ((am (o:=bB ea CP none) s1 hea).trans s3)) rfl hq⟩⟩))⟩⟩)⟩)⟩
   ·exact⟨_,rfl,_,rfl,_,rfl,.inr (.inr ⟨v,pa,ra,ps,rs,y,z,rfl,W0,G,.inl hp0,(fun H1 s1=>⟨CP,rfl,hP,fun ea hea=>⟨_,rfl,(.inr (.inl ⟨ea,none,rfl,rfl,aj,(fun d z=>nomatch z),fun q H3 s3 hq=>⟨_,rfl,k q _ H3 (s0.trans ((am (o:=bB ea CP none) s1 hea).trans s3)) rfl hq⟩⟩))⟩⟩)⟩)⟩
  | @second v pa ra ps rs a n0 n1 e W G ey ha hp =>
   subst e ey
   have hp0:=hp.same s0
   have W0:=W.same s0
   refine aS (fun c0=>?_) (fun c0=>⟨_,rfl,rfl,_,rfl,aS (fun c1=>?_) (fun c1=>⟨_,rfl,rfl,_,rfl,aS (fun c2=>?_) (fun c2=>?_)⟩)⟩)
   ·exact absurd (eqi c0) n0
   ·exact absurd (eqi c1) n1
   ·exact⟨_,rfl,_,rfl,_,rfl,.inr (.inr ⟨v,pa,ra,ps,rs,_,z,rfl,W0,G,.inr ⟨a,rfl,ha,hp0⟩,(fun H1 s1=>⟨CP,rfl,hP,fun ea hea=>⟨_,rfl,(.inr (.inl ⟨ea,none,rfl,rfl,aj,(fun d z=>nomatch z),fun q H3 s3 hq=>⟨_,rfl,k q _ H3 (s0.trans ((am (o:=bB ea CP none) s1 hea).trans s3)) rfl hq⟩⟩))⟩⟩)⟩)⟩
   ·exact⟨_,rfl,_,rfl,_,rfl,.inr (.inr ⟨v,pa,ra,ps,rs,_,z,rfl,W0,G,.inr ⟨a,rfl,ha,.inl hp0⟩,(fun H1 s1=>⟨CP,rfl,hP,fun ea hea=>⟨_,rfl,(.inr (.inl ⟨ea,none,rfl,rfl,aj,(fun d z=>nomatch z),fun q H3 s3 hq=>⟨_,rfl,k q _ H3 (s0.trans ((am (o:=bB ea CP none) s1 hea).trans s3)) rfl hq⟩⟩))⟩⟩)⟩)⟩
  | @same v pa ra ps rs a n0 n1 n2 e W G ey ha ez =>
   subst e ey ez
   have W0:=W.same s0
   refine aS (fun c0=>?_) (fun c0=>⟨_,rfl,rfl,_,rfl,aS (fun c1=>?_) (fun c1=>⟨_,rfl,rfl,_,rfl,aS (fun c2=>?_) (fun c2=>?_)⟩)⟩)
   ·exact absurd (eqi c0) n0
   ·exact absurd (eqi c1) n1
   ·exact absurd (eqi c2) n2
   ·exact⟨_,rfl,_,rfl,_,rfl,.inr (.inr ⟨v,pa,ra,ps,rs,_,_,rfl,W0,G,.inr ⟨a,rfl,ha,.inr rfl⟩,(fun H1 s1=>⟨CP,rfl,hP,fun ea hea=>⟨_,rfl,(.inr (.inl ⟨ea,none,rfl,rfl,aj,(fun d z=>nomatch z),fun q H3 s3 hq=>⟨_,rfl,k q _ H3 (s0.trans ((am (o:=bB ea CP none) s1 hea).trans s3)) rfl hq⟩⟩))⟩⟩)⟩)⟩
  | @told v pa ra ps rs a b n1 nab e W G hz ey ha ez hb =>
   subst e ey ez
   have W0:=W.same s0
   have fin:∀H1:Hp,ah H0 H1->Q (.ref q0) H1:=fun H1 s1=>k q0 [] H1 (s0.trans s1) rfl (s1 _ _ e0)
   refine aS (fun c0=>?_) (fun c0=>⟨_,rfl,rfl,_,rfl,aS (fun c1=>?_) (fun c1=>⟨_,rfl,rfl,_,rfl,aS (fun c2=>?_) (fun c2=>?_)⟩)⟩)
   ·exact⟨_,rfl,_,rfl,.inl ⟨v,pa,ra,ps,rs,a,rfl,W0,G,hz,ha,fun _ _ H1 _ _ s1 _ _ _=>⟨_,rfl,fin H1 s1⟩⟩⟩
   ·exact absurd (eqi c1) n1
   ·exact⟨_,rfl,_,rfl,_,rfl,.inl ⟨v,pa,ra,ps,rs,a,b,rfl,W0,G,ha,hb,fun H1 s1 _=>⟨fun _=>⟨_,rfl,fin H1 s1⟩,fun _ _ _ _=>⟨_,rfl,fin H1 s1⟩⟩⟩⟩
   ·exact⟨_,rfl,_,rfl,_,rfl,.inl ⟨v,pa,ra,ps,rs,a,b,rfl,W0,G,ha,hb,nab (nei c0) (nei c2),fun _ H1 s1=>⟨_,rfl,fin H1 s1⟩⟩⟩
  | @tree v pa ra ps rs a n1 e W G hz ey ha =>
   subst e ey
   have W0:=W.same s0
   refine aS (fun c0=>?_) (fun c0=>⟨_,rfl,rfl,_,rfl,aS (fun c1=>?_) (fun c1=>⟨_,rfl,rfl,_,rfl,aS (fun c2=>?_) (fun c2=>?_)⟩)⟩)
   ·exact absurd (eqi c0) (by rw [n1];decide)
   ·refine⟨_,rfl,_,rfl,.inl ⟨v,pa,ra,ps,rs,a,rfl,W0,G,hz,ha,fun H1 s1 _=>⟨fun _ _ _ _ _ _ _=>⟨_,rfl,k q0 [] H1 (s0.trans s1) (.inl rfl) (s1 _ _ e0)⟩,fun _ dx u hdx hu=>⟨CT,rfl,hT,fun ea hea=>⟨_,rfl,.inr (.inr ⟨ea,some dx,rfl,rfl,aj,fun d z=>?_,fun q H3 s3 hq=>⟨_,rfl,k q _ H3 (s0.trans ((am (o:=bB ea CT (some dx)) s1 hea).trans s3)) (.inr rfl) hq⟩⟩)⟩⟩⟩⟩⟩
    cases z
    exact⟨_,by rw [au (fun z=>by rw [z,hea] at hdx;cases hdx)];exact hdx⟩
   ·exact absurd n1 (nei c1)
   ·exact absurd n1 (nei c1)
end
noncomputable abbrev kW:List Bool:=[true,false,false,false,false,false,false,false,false,false,false,true]
noncomputable abbrev kP:List Bool:=[false,true,false,false,false,false,false,false,false,false,false,true]
noncomputable abbrev kT:List Bool:=[false,false,true,false,false,false,false,false,false,false,false,true]
theorem br.kp {H H':Hp}{p v pa ra:Addr}{ps:List Str}{rs:List (Addr×Row)} (W:br H v pa ra ps rs) (k:Kp [p] H H') (hp:Pot H p):br H' v pa ra ps rs:=⟨k.tup hp W.tp,k.tup hp W.pl,k.tup hp W.rl,fun r hr=>k.tup hp (W.rows r hr)⟩
noncomputable abbrev two (i:Int):PyData:=.list [.int i,.int 11]
theorem dv2 {H:Hp}{q:Addr}{i:Int} (h:H q=some (.lst [.int i,.int 11])):DV H (.ref q) (two i):=.lst h (.cons (.int _) (.cons (.int _) .nil))
theorem dv0 {H:Hp}{q:Addr} (h:H q=some (.lst [])):DV H (.ref q) (.list []):=.lst h .nil
theorem uJ:ec kW=[.int 0,.int 11]:=by decide +kernel
theorem g0:ec kP=[.int 1,.int 11]:=by decide +kernel
theorem uk:ec kT=[.int 2,.int 11]:=by decide +kernel
section
variable {P:Program}{w:World}{K:PySem.W.Frag}{mg:Str->Option Value}{base:Heap}
noncomputable def lK:Sp:=fun vs H Q _=>∃p:Addr,vs=[.ref p]/\Pot H p/\∀H',Kp [p] H H'->Q (.bl true) H'
noncomputable abbrev N53:List Str:=["_law_pot_here","_law_web_here","_law_a","_law_b","_law_odd","_law_bad","_law_way","_law_first"]
theorem eM:aP N53 ["_law_pot_here"] (ao (top 53)):=⟨rfl,rfl,rfl,by decide +kernel,rfl,by decide +kernel,by decide +kernel⟩
theorem qP {f:Addr}{fd:FuncData} (F:Fun K "_law_right" "_law_right" (top 53) f fd) (B:Bl mg) (Ft:Fn P w K mg base 1 "_law_draw" ["_law_pot_here","_law_many"] eG) (Fg:Fn P w K mg base 3 "_law_web" ["_law_pot_here","_law_most"] mj)
  (F1:Fn P w K mg base 2 "_law_no_web" ["_law_pot_here","_law_web_here"] kY) (F2:Fn P w K mg base 2 "_law_no_place" ["_law_pot_here","_law_web_here"] km) (Fs:Fn P w K mg base 6 "_law_asked" ["_law_way","_law_web_here","_law_a","_law_b"] (iS kW kP kT)):ax P w K mg base CX0 7 f fd ["_law_pot_here"] lK:=by
 refine F.ok eM (fun vs H Q E h=>?_) (fun cdv A outer s H vs Q E hr h=>?_)
 ·obtain⟨p,rfl,_⟩:=h
  rfl
 ·obtain⟨p,rfl,hp,k⟩:=h
  have hr1:aK 1 _:=hr.mono (by decide)
  have hr2:aK 2 _:=hr.mono (by decide)
  have hr3:aK 3 _:=hr.mono (by decide)
  refine' ⟨_,?d0,?main⟩
  case' d0=>refine' ak (aG (i:=1) eM.nd rfl (Or.inl rfl) (ay aF (aw Fg hr3 (ae (pv 0) (ae ai ag))) ai (fun _ _=>rfl))) ?d1
  case' d1=>refine' ak (aG (i:=2) eM.nd rfl (Or.inl rfl) (ay aF (ay aF (pv 1) ai (fun _ _=>rfl)) (aw Ft hr1 (ae (pv 0) (ae (aB bD rfl B.len PySem.boot_len (ae (ay aF (pv 1) ai (fun _ _=>rfl)) ag)) ag))) (fun _ _=>rfl))) ?d2
  case' d2=>refine' ak (aG (i:=3) eM.nd rfl (Or.inl rfl) (ay aF (ay aF (pv 1) ai (fun _ _=>rfl)) (aw Ft hr1 (ae (pv 0) (ae (aB bD rfl B.len PySem.boot_len (ae (ay aF (pv 1) ai (fun _ _=>rfl)) ag)) ag))) (fun _ _=>rfl))) ?d3
  case' d3=>refine' ak (aG (i:=4) eM.nd rfl (Or.inl rfl) (aw F2 hr2 (ae (pv 0) (ae (pv 1) ag)))) ?d4
  case' d4=>refine' ak (aG (i:=5) eM.nd rfl (Or.inl rfl) (aw F1 hr2 (ae (pv 0) (ae (pv 1) ag)))) ?d5
  case' d5=>refine' ak ?lp ?d6
  case' lp=>refine' eS PassesOwn.never rfl (fe rfl B.range (ae ai ag)) (bv (i:=6) eM.nd rfl (Or.inl rfl)) ?b0
  case' b0=>refine' ak (aG (i:=7) eM.nd rfl (Or.inl rfl) (ay aF (aN (ae (pv 2) (ae (pv 4) ag))) (aw Ft hr1 (ae (pv 0) (ae ai ag))) (fun _ _=>rfl))) ?b1
  case' b1=>refine' ak (bq (PW.pt (df (aM (eW hr) (aw Fs hr (ae (pv 6) (ae (pv 5) (ae (pv 7) (ae (pv 3) ag))))) (aN (ae ai (ae ai ag))) (aQ _)) (dF (aM (eW hr) (aw Fs hr (ae (pv 6) (ae (pv 1) (ae (pv 4) (ae (pv 3) ag))))) (aN (ae ai (ae ai ag))) (aQ _))))) dk bc) ?b2
  case b2=>exact av (bq (PW.pt (fZ (aM f6 (pv 6) ai (aQ _)) (fR (aM (eW hr) (aw Fs hr (ae (pv 6) (ae (pv 1) (ae (pv 2) (ae (pv 4) ag))))) (aN (ae ai (ae ai ag))) (aQ _))))) dk bc)
  case' d6=>refine' ak (bq (PW.pt (df (aM (eW hr) (aw Fs hr (ae ai (ae (pv 1) (ae (pv 2) (ae (pv 3) ag))))) (aN ag) (aQ _)) (dF (aM (eW hr) (aw Fs hr (ae ai (ae (pv 1) (ae (pv 2) (ae (pv 3) ag))))) (aN ag) (aQ _))))) dk bc) ?d7
  case' d7=>refine' ak (bq (aM (pW hr) (aw Fs hr (ae ai (ae (pv 1) (ae (pv 2) (ae (pv 3) ag))))) (aH (ae (aN ag) (ae (aN (ae ai (ae ai ag))) ag))) (by with_unfolding_all rfl)) dk bc) ?d8
  case d8=>exact av (aI (cw (cV (mB hr) (aw Fs hr (ae ai (ae (pv 1) (ae (pv 2) (ae (pv 3) ag))))) (ay aF (aN (ae (aN ag) (ae (aN (ae ai (ae ai ag))) ag))) (eC qg rfl B.int tV (ae (cV cX (pv 2) (pv 3) (aQ _)) ag)) (fun _ _=>rfl)) (aQ _)) (du (cV (mB hr) (aw Fs hr (ae ai (ae (pv 1) (ae (pv 2) (ae (pv 2) ag))))) (aN (ae ai (ae ai ag))) (aQ _)))))
  case main =>
  refine⟨_,rfl,p,16,rfl,hp,by decide,fun v u pa ra root ps rs H1 P1 v1 W1 G h8 h30 hroot hnow K1=>aC (j:=0) (.inr (SqT.of v1)) rfl rfl ?_⟩
  have hps:0 < ps.length:=List.length_pos_iff.mpr G.ne
  refine⟨_,rfl,aC (j:=0) (.inr (SqT.of W1.tp)) rfl rfl ⟨_,rfl,_,rfl,aC (j:=0) (.inr (SqT.of W1.tp)) rfl rfl ⟨pa,_,rfl,.inr (SqT.of W1.pl),p,_,rfl,P1,by rw [List.length_map];omega,by rw [List.length_map];omega,fun r H2 r0 r1 P2 K2=>?_⟩⟩⟩
  rw [List.length_map] at r1
  have hm:r.toNat < ps.length:=by omega
  have W2:=W1.kp K2 P1
  refine aC (j:=r.toNat) (.inr (SqT.of W2.pl)) (by omega) (by rw [List.getElem?_map,List.getElem?_eq_getElem hm];rfl) ?_
  have ha:ps[r.toNat]∈ps:=List.getElem_mem hm
  generalize ps[r.toNat]=a at ha ⊢
  refine⟨_,rfl,aC (j:=0) (.inr (SqT.of W2.tp)) rfl rfl ⟨_,rfl,_,rfl,aC (j:=0) (.inr (SqT.of W2.tp)) rfl rfl ⟨pa,_,rfl,.inr (SqT.of W2.pl),p,_,rfl,P2,by rw [List.length_map];omega,by rw [List.length_map];omega,fun r' H3 r0' r1' P3 K3=>?_⟩⟩⟩
  rw [List.length_map] at r1'
  have hm':r'.toNat < ps.length:=by omega
  have W3:=W2.kp K3 P2
  refine aC (j:=r'.toNat) (.inr (SqT.of W3.pl)) (by omega) (by rw [List.getElem?_map,List.getElem?_eq_getElem hm'];rfl) ?_
  have hb:ps[r'.toNat]∈ps:=List.getElem_mem hm'
  generalize ps[r'.toNat]=b at hb ⊢
  refine⟨_,rfl,_,rfl,p,u,pa,ra,ps,rs,rfl,P3,W3,G,h8,h30,hnow,fun odd H4 P4 K4 o4=>?_⟩
  have W4:=W3.kp K4 P3
  refine⟨_,rfl,_,rfl,p,u,pa,ra,ps,rs,rfl,P4,W4,G,h8,h30,hnow,fun bad H5 P5 K5 w5=>?_⟩
  have W5:=W4.kp K5 P4
  have o5:=o4.kp K5 P4
  have KA:=(((K1.trans K2).trans K3).trans K4).trans K5
  refine⟨4,rfl,by decide,by decide,fK (fun i σ H6=>(∃g6 g7,σ=[some (.ref p),some (.ref u),some (.str a),some (.str b),some odd,some bad,g6,g7])/\Pot H6 p/\Kp [p] H H6/\br H6 u pa ra ps rs/\aY ps odd H6/\aD bad H6) ⟨⟨_,_,rfl⟩,P5,KA,W5,o5,w5⟩ ?_ ?_⟩
  ·rintro i σ H6 hi ⟨⟨g6,g7,rfl⟩,P6,K6,W6,o6,w6⟩
   refine⟨_,rfl,_,rfl,by show 2<=sizeLine;decide,fun lo hlo=>?_⟩
   have s7:=am (o:=.lst [.str a,odd]) (ah.refl H6) hlo
   have l7:upd H6 lo (.lst [.str a,odd]) lo=some (.lst [.str a,odd]):=aj
   have nlo:lo≠p:=P6.ne_new hlo
   generalize upd H6 lo (.lst [.str a,odd])=H7 at s7 l7 ⊢
   have P7:=P6.same s7
   refine⟨_,rfl,p,2,rfl,P7,by decide,by decide,fun r H8 r0 r1 P8 K8=>?_⟩
   have hr2':r.toNat < [V.str a,odd].length:=by show r.toNat < 2;omega
   refine aC (j:=r.toNat) (.inl (SqL.of (K8.at nlo l7))) (by omega) (List.getElem?_eq_getElem hr2') ?_
   generalize [V.str a,odd][r.toNat]=t
   have W8:=(W6.same s7).kp K8 P7
   have o8:=(o6.same s7).kp K8 P7
   have w8:=(w6.same s7).kp K8 P7
   have K68:=(K6.of_same s7).trans K8
   refine⟨_,rfl,_,rfl,_,rfl,_,rfl,_,bad,t,.str b,_,rfl,.web w8,fun q l H9 s9 hl hq=>?_⟩
   subst hl
   rw [uJ] at hq
   refine⟨by show 2<=sizeLine;decide,fun l10 hl10=>?_⟩
   have s10:=am (o:=.lst [.int 0,.int 11]) (ah.refl H9) hl10
   refine⟨two 0,two 0,dv2 (s10 _ _ hq),dv2 aj,rfl,rfl,_,rfl,aL ?_⟩
   have s810:=s9.trans s10
   generalize upd H9 l10 (.lst [.int 0,.int 11])=H10 at s810 ⊢
   refine⟨_,rfl,_,rfl,_,rfl,_,rfl,_,.ref u,odd,.str b,_,rfl,.place rfl (W8.same s810) G (o8.same s810),fun q l H11 s11 hl hq=>?_⟩
   subst hl
   rw [g0] at hq
   refine⟨by show 2<=sizeLine;decide,fun l12 hl12=>?_⟩
   have s12:=am (o:=.lst [.int 1,.int 11]) (ah.refl H11) hl12
   refine⟨two 1,two 1,dv2 (s12 _ _ hq),dv2 aj,rfl,rfl,_,rfl,aL ?_⟩
   have s812:=s810.trans (s11.trans s12)
   generalize upd H11 l12 (.lst [.int 1,.int 11])=H12 at s812 ⊢
   refine⟨_,rfl,_,_,rfl,rfl,_,rfl,aS (fun c=>?_) (fun c=>?_)⟩
   ·have c2:(1:Int) < 0 + (i:Int):=of_decide_eq_true c
    refine⟨_,rfl,_,rfl,_,rfl,_,rfl,_,.ref u,.str a,odd,_,rfl,.second (by omega) (by omega) rfl (W8.same s812) G rfl ha (o8.same s812),fun q l H13 s13 hl hq=>?_⟩
    subst hl
    rw [g0] at hq
    refine⟨by show 2<=sizeLine;decide,fun l14 hl14=>?_⟩
    have s14:=am (o:=.lst [.int 1,.int 11]) (ah.refl H13) hl14
    refine⟨two 1,two 1,dv2 (s14 _ _ hq),dv2 aj,rfl,rfl,_,rfl,aL ?_⟩
    have s814:=s812.trans (s13.trans s14)
    exact⟨⟨_,_,rfl⟩,P8.same s814,K68.of_same s814,W8.same s814,o8.same s814,w8.same s814⟩
   ·exact aL ⟨⟨_,_,rfl⟩,P8.same s812,K68.of_same s812,W8.same s812,o8.same s812,w8.same s812⟩
  ·rintro σ H6 ⟨⟨g6,g7,rfl⟩,P6,K6,W6,o6,w6⟩
   have h60:ps.length<=60:=by omega
   refine⟨_,rfl,_,rfl,_,rfl,0,.ref u,.str a,.str b,_,rfl,.told (by decide) (fun z=>absurd rfl z) rfl W6 G h60 rfl ha rfl hb,fun q l H7 s7 hl hq=>?_⟩
   subst hl
   refine⟨Nat.zero_le _,fun l8 hl8=>?_⟩
   have s8:=am (o:=.lst []) (ah.refl H7) hl8
   refine⟨.list [],.list [],dv0 (s8 _ _ hq),dv0 aj,rfl,rfl,_,rfl,aL ?_⟩
   have s68:=s7.trans s8
   generalize upd H7 l8 (.lst [])=H8 at s68 ⊢
   refine⟨_,rfl,_,rfl,_,rfl,2,.ref u,.str a,.str b,_,rfl,.told (by decide) (fun _ z=>absurd rfl z) rfl (W6.same s68) G h60 rfl ha rfl hb,fun q l H9 s9 hl hq=>?_⟩
   subst hl
   refine⟨Nat.zero_le _,fun l10 hl10=>?_⟩
   have s10:=am (o:=.lst []) (ah.refl H9) hl10
   refine⟨.list [],.list [],dv0 (s10 _ _ hq),dv0 aj,rfl,rfl,_,rfl,aL ?_⟩
   have t10:=s68.trans (s9.trans s10)
   generalize upd H9 l10 (.lst [])=H10 at t10 ⊢
   refine⟨_,rfl,_,rfl,_,rfl,1,.ref u,.str a,.str b,_,rfl,.tree rfl rfl (W6.same t10) G h60 rfl ha,fun q l H11 s11 hl hq=>?_⟩
   refine⟨Nat.zero_le _,fun x1 hx1=>?_⟩
   have s12:=am (o:=.lst []) (ah.refl H11) hx1
   have e12:upd H11 x1 (.lst []) x1=some (.lst []):=aj
   have n1:x1≠q:=fun z=>by rw [z,hq] at hx1;cases hx1
   generalize upd H11 x1 (.lst [])=H12 at s12 e12 ⊢
   refine⟨by show 2<=sizeLine;decide,fun x2 hx2=>?_⟩
   have s13:=am (o:=.lst [.int 2,.int 11]) (ah.refl H12) hx2
   have e13:upd H12 x2 (.lst [.int 2,.int 11]) x2=some (.lst [.int 2,.int 11]):=aj
   have n2:x2≠q:=fun z=>by have:=s12 _ _ hq;rw [<- z,hx2] at this;cases this
   have n3:x1≠x2:=fun z=>by rw [z,hx2] at e12;cases e12
   generalize upd H12 x2 (.lst [.int 2,.int 11])=H13 at s13 e13 ⊢
   refine⟨by show 2<=sizeLine;decide,fun x3 hx3=>?_⟩
   have s14:=am (o:=.tup [.ref x1,.ref x2]) (ah.refl H13) hx3
   have e14:upd H13 x3 (.tup [.ref x1,.ref x2]) x3=some (.tup [.ref x1,.ref x2]):=aj
   generalize upd H13 x3 (.tup [.ref x1,.ref x2])=H14 at s14 e14 ⊢
   have t14:=t10.trans (s11.trans (s12.trans (s13.trans s14)))
   have q14:=s14 _ _ (s13 _ _ (s12 _ _ hq))
   obtain⟨d,hd,hsd,hne⟩:∃d,DV H14 (.ref q) d/\SeqAt.shaped d=true/\(!(PyData.eqv (.list []) d || PyData.eqv (two 2) d))=false:=by
    rcases hl with rfl | rfl
    ·exact⟨.list [],dv0 q14,rfl,rfl⟩
    ·rw [uk] at q14
     exact⟨two 2,dv2 q14,rfl,rfl⟩
   refine⟨q,x3,x1,x2,d,.list [],two 2,rfl,rfl,n3,n1,n2,SqT.of e14,hd,dv0 (s14 _ _ (s13 _ _ e12)),dv2 (s14 _ _ e13),hsd,rfl,rfl,_,rfl,?_⟩
   rw [hne]
   refine aL ?_
   have last:∀H15:Hp,ah H6 H15->tOp (fun x y H Q=>∃d e,DV H x d/\DV H y e/\SeqAt.shaped d=true/\SeqAt.shaped e=true/\Q (.bl (PyData.eqv d e)) H) (dM (iS kW kP kT) [] E0 (bK (tC (.int 3)) (bK (ba 1) (bK (ba 2) (bK (ba 2) bG))))) (gk (bK (tC (.int 1)) (bK (tC (.int 11)) bG))) [some (.ref p),some (.ref u),some (.str a),some (.str b),some odd,some bad,g6,g7] H15 Q:=fun H15 s15=>by
    refine⟨_,rfl,_,rfl,_,rfl,3,.ref u,.str a,.str a,_,rfl,.same (by decide) (by decide) (by decide) rfl (W6.same s15) G rfl ha rfl,fun q l H16 s16 hl hq=>?_⟩
    subst hl
    rw [g0] at hq
    refine⟨by show 2<=sizeLine;decide,fun l17 hl17=>?_⟩
    have s17:=am (o:=.lst [.int 1,.int 11]) (ah.refl H16) hl17
    exact⟨two 1,two 1,dv2 (s17 _ _ hq),dv2 aj,rfl,rfl,k _ (K6.of_same (s15.trans (s16.trans s17)))⟩
   obtain⟨L,l0,hA,hL,hdl⟩:∃(L:List V->Prop) (l0:List V),Ask kW kP kT 3 (.ref u) (.str a) (.str b) H14 L/\(∀l,L l->l=l0)/\l0=(if a=b then [.int 1,.int 11] else []):=by
    by_cases c:a=b
    ·subst c
     exact⟨_,_,.same (by decide) (by decide) (by decide) rfl (W6.same t14) G rfl ha rfl,fun l z=>z,by rw [if_pos rfl,g0]⟩
    ·exact⟨_,_,.told (by decide) (fun _ _=>c) rfl (W6.same t14) G h60 rfl ha rfl hb,fun l z=>z,by rw [if_neg c]⟩
   refine⟨_,rfl,_,rfl,_,rfl,3,.ref u,.str a,.str b,L,rfl,hA,fun q l H15 s15 hl hq=>?_⟩
   rw [hL l hl,hdl] at hq
   refine⟨Nat.zero_le _,fun y1 hy1=>?_⟩
   have s16:=am (o:=.lst []) (ah.refl H15) hy1
   have e16:upd H15 y1 (.lst []) y1=some (.lst []):=aj
   generalize upd H15 y1 (.lst [])=H16 at s16 e16 ⊢
   refine⟨by show 2<=sizeLine;decide,fun y2 hy2=>?_⟩
   have s17:=am (o:=.lst [.int 1,.int 11]) (ah.refl H16) hy2
   have e17:upd H16 y2 (.lst [.int 1,.int 11]) y2=some (.lst [.int 1,.int 11]):=aj
   generalize upd H16 y2 (.lst [.int 1,.int 11])=H17 at s17 e17 ⊢
   refine⟨by show 2<=sizeLine;decide,fun y3 hy3=>?_⟩
   have s18:=am (o:=.lst [.ref y1,.ref y2]) (ah.refl H17) hy3
   have e18:upd H17 y3 (.lst [.ref y1,.ref y2]) y3=some (.lst [.ref y1,.ref y2]):=aj
   generalize upd H17 y3 (.lst [.ref y1,.ref y2])=H18 at s18 e18 ⊢
   have t18:=t14.trans (s15.trans (s16.trans (s17.trans s18)))
   have q18:=s18 _ _ (s17 _ _ (s16 _ _ hq))
   refine⟨_,rfl,_,rfl,rfl,.inr ⟨_,rfl,?_⟩⟩
   by_cases c:a=b
   ·rw [decide_eq_true (show V.str a=V.str b by rw [c])]
    rw [if_pos c] at q18
    refine aC (j:=1) (.inl (SqL.of e18)) rfl rfl ⟨two 1,two 1,dv2 q18,dv2 (s18 _ _ e17),rfl,rfl,_,rfl,aA (last H18 t18)⟩
   ·rw [decide_eq_false (show ¬ V.str a=V.str b from fun z=>c (V.str.inj z))]
    rw [if_neg c] at q18
    refine aC (j:=0) (.inl (SqL.of e18)) rfl rfl ⟨.list [],.list [],dv0 q18,dv0 (s18 _ _ (s17 _ _ e16)),rfl,rfl,_,rfl,aA (last H18 t18)⟩
end
theorem rX {p:Addr}{H H1 H2:Hp} (s:ah H H1) (hp:H p=none) (k:Kp [p] H1 H2):ah H H2:=fun b o e=>k b o (s b o e) (by simp;exact aZ e hp)
section
variable {P:Program}{w:World}{K:PySem.W.Frag}{mg:Str->Option Value}{base:Heap}
noncomputable def gX (K:PySem.W.Frag):Sp:=fun vs H Q _=>∃(a:Addr) (ns:List Int),vs=[.ref a]/\SqL K H a (ns.map V.int)/\ns.length<=63/\∀H',Q (.bl true) H'
noncomputable abbrev N54:List Str:=["_law_script","_law_k"]
theorem ny:aP N54 ["_law_script"] (ao (top 54)):=⟨rfl,rfl,rfl,by decide +kernel,rfl,by decide +kernel,by decide +kernel⟩
theorem sL {f:Addr}{fd:FuncData} (F:Fun K "law" "law" (top 54) f fd) (B:Bl mg) (Fc:Fn P w K mg base 1 "_law_cell" ["_law_script","_law_k"] (mq K)) (Fp:Fn P w K mg base 1 "_law_pot" ["_law_cell_here"] mS) (Fr:Fn P w K mg base 7 "_law_right" ["_law_pot_here"] lK):ax P w K mg base CX0 8 f fd ["_law_script"] (gX K):=by
 refine F.ok ny (fun vs H Q E h=>?_) (fun cdv A outer s H vs Q E hr h=>?_)
 ·obtain⟨a,ns,rfl,_⟩:=h
  rfl
 ·obtain⟨a,sc,rfl,hS,hlen,k⟩:=h
  have hr1:aK 1 _:=hr.mono (by decide)
  refine⟨_,ak (eS PassesOwn.never rfl (fe rfl B.range (ae (aE dG (aB (pF rfl) rfl B.min ue (ae (aB bD rfl B.len PySem.boot_len (ae (pv 0) ag)) (ae ai ag))) ai) ag)) (bv (i:=1) ny.nd rfl (Or.inl rfl))
    (av (bq (bN (bO (aw Fr hr (ae (aw Fp hr1 (ae (aw Fc hr1 (ae (pv 0) (ae (pv 1) ag))) ag)) ag)))) dk bc)))
   (av (aI cZ)),?_⟩
  refine⟨_,rfl,a,_,rfl,.inl hS,_,_,rfl,_,_,rfl,rfl,_,rfl,?_,?_,?_⟩
  ·split <;> omega
  ·split <;> omega
  refine fK (fun i σ H4=>(∃g,σ=[some (.ref a),g])/\ah H H4) ⟨⟨_,rfl⟩,ah.refl _⟩ ?_ (fun σ H4 _=>k H4)
  rintro i σ H4 hi ⟨⟨g,rfl⟩,s4⟩
  refine⟨_,rfl,_,rfl,a,sc,_,rfl,s4.seq hS,by omega,fun c=>?_⟩
  refine⟨_,rfl,fun p H5 s5 p0 P5=>⟨p,rfl,P5,fun H6 K6=>⟨_,rfl,aL ⟨⟨_,rfl⟩,s4.trans (rX s5 p0 K6)⟩⟩⟩⟩
end
noncomputable def aT (K:PySem.W.Frag) (x:Str) (st:Stmt):Prop:=∃(f:Addr) (oc:Value) (od:Option Addr) (kV doc pm:Value) (an:Option Addr) (cd ct:Value) (sl:Array (Option Value)),
 PySem.W.nsIn K mainGlobals x=some (some (.ref f))/\K.lookup f=some ⟨oc,od,.func (PySem.W.fnOf x x (cW st) (cu st) (ao st) .none kV doc pm an cd ct),sl⟩/\PySem.W.codeIn K cd x=true/\PySem.W.keepIn K (.ref f)=true
theorem uR {K:PySem.W.Frag}{x:Str}{st:Stmt}{f:Addr}{oc:Value}{od:Option Addr}{kV doc pm:Value}{an:Option Addr}{cd ct:Value}{sl:Array (Option Value)} (a:PySem.W.nsIn K mainGlobals x=some (some (.ref f)))
  (l:K.lookup f=some ⟨oc,od,.func (PySem.W.fnOf x x (cW st) (cu st) (ao st) .none kV doc pm an cd ct),sl⟩) (c:PySem.W.codeIn K cd x=true) (k:PySem.W.keepIn K (.ref f)=true):aT K x st :=
 ⟨f,oc,od,kV,doc,pm,an,cd,ct,sl,a,l,c,k⟩
theorem aU {P:Program}{w:World}{K:PySem.W.Frag}{mg:Str->Option Value}{base h:Heap}{x:Str}{st:Stmt}{k:Nat}{ps:List Str}{sp:Sp} (D:aT K x st) (X:K.In h) (G:h.Ns mainGlobals mg)
  (hb:∀(kV doc pm:Value) (an:Option Addr) (cdv ct:Value) (us:List Value),us.length=ps.length->bindArgs (PySem.W.fnOf x x (cW st) (cu st) (ao st) .none kV doc pm an cdv ct) ⟨us,[]⟩=pure (ps.zip us))
  (ok:∀(f:Addr) (fd:FuncData),Fun K x x st f fd->ax P w K mg base CX0 k f fd ps sp):Fn P w K mg base k x ps sp:=by
 obtain⟨f,oc,od,kV,doc,pm,an,cd,ct,sl,a,l,c,kk⟩:=D
 have F:=fW (st:=st) l c kk
 exact⟨f,_,PySem.W.mg_of X G a,kk,F.binds hb,ok f _ F⟩
theorem eQ {P:Program}{w:World}{K:PySem.W.Frag}{mg:Str->Option Value}{base h:Heap}{x:Str}{st:Stmt}{k:Nat}{ps:List Str}{sp:Sp} (D:aT K x st) (X:K.In h) (G:h.Ns mainGlobals mg)
  (hb:∀(kV doc pm:Value) (an:Option Addr) (cdv ct:Value) (us:List Value),us.length=ps.length->bindArgs (PySem.W.fnOf x x (cW st) (cu st) (ao st) .none kV doc pm an cdv ct) ⟨us,[]⟩=pure (ps.zip us))
  (ok:∀(f:Addr) (fd:FuncData),Fun K x x st f fd->ax P w K mg base (CXE P w) k f fd ps sp):FnX P w K mg base k x ps sp:=by
 obtain⟨f,oc,od,kV,doc,pm,an,cd,ct,sl,a,l,c,kk⟩:=D
 have F:=fW (st:=st) l c kk
 exact⟨f,_,PySem.W.mg_of X G a,kk,F.binds hb,ok f _ F⟩
theorem rN {P:Program}{w:World}{K:PySem.W.Frag}{mg:Str->Option Value}{base h:Heap}{x:Str}{st:Stmt}{k:Nat}{ps:List Str}{sp:Option Value->Sp} (D:aT K x st) (X:K.In h) (G:h.Ns mainGlobals mg)
  (hb:∀(kV doc pm:Value) (an:Option Addr) (cdv ct:Value) (us:List Value),us.length=ps.length->bindArgs (PySem.W.fnOf x x (cW st) (cu st) (ao st) .none kV doc pm an cdv ct) ⟨us,[]⟩=pure (ps.zip us))
  (ok:∀(f:Addr) (fd:FuncData),Fun K x x st f fd->cN P w K mg base CX0 k f fd ps sp):FnG P w K mg base k x ps sp:=by
 obtain⟨f,oc,od,kV,doc,pm,an,cd,ct,sl,a,l,c,kk⟩:=D
 have F:=fW (st:=st) l c kk
 exact⟨f,_,PySem.W.mg_of X G a,kk,F.binds hb,ok f _ F⟩
noncomputable def mL (K:PySem.W.Frag) (x q:Str) (st:Stmt) (C f:Addr):Prop:=∃(oc:Value) (od:Option Addr) (kV doc pm:Value) (an:Option Addr) (cd ct:Value) (sl:Array (Option Value)),
 PySem.W.nsIn K mainGlobals x=some (some (.ref C))/\fX K eK C f veM "ValueError.__new__"=true/\K.lookup f=some ⟨oc,od,.func (PySem.W.fnOf "__init__" q (cW st) (cu st) (ao st) .none kV doc pm an cd ct),sl⟩/\PySem.W.codeIn K cd q=true/\PySem.W.keepIn K (.ref f)=true
theorem uQ {K:PySem.W.Frag}{x q:Str}{st:Stmt}{C f:Addr}{oc:Value}{od:Option Addr}{kV doc pm:Value}{an:Option Addr}{cd ct:Value}{sl:Array (Option Value)} (a:PySem.W.nsIn K mainGlobals x=some (some (.ref C))) (i:PySem.W.findIn K (.ref C) "__init__"=some (some (.ref f)))
  (l:K.lookup f=some ⟨oc,od,.func (PySem.W.fnOf "__init__" q (cW st) (cu st) (ao st) .none kV doc pm an cd ct),sl⟩) (c:PySem.W.codeIn K cd q=true) (k:PySem.W.keepIn K (.ref f)=true) (e:fX K eK C f veM "ValueError.__new__"=true):mL K x q st C f :=
 ⟨oc,od,kV,doc,pm,an,cd,ct,sl,a,e,l,c,k⟩
theorem uT {l:PySem.W.OpenLaw}{w:World}{K:PySem.W.Frag}{h:Heap}{mg:Str->Option Value}{fa:Addr} (X:K.In h) (G:h.Ns mainGlobals mg) (hfa:mg "law"=some (.ref fa)) (B:Bl mg) {Rc Wc Pc C fI d1a d2a d3a d4a d5a d6a d7a d8a:Addr}
  (cRc:PySem.W.nsIn K mainGlobals "RootError"=some (some (.ref Rc))) (eRc:PySem.W.excIn K Rc veM "ValueError.__new__"=true)
  (cWc:PySem.W.nsIn K mainGlobals "NoWeb"=some (some (.ref Wc))) (eWc:PySem.W.excIn K Wc veM "ValueError.__new__"=true)
  (cPc:PySem.W.nsIn K mainGlobals "NoPlace"=some (some (.ref Pc))) (ePc:PySem.W.excIn K Pc veM "ValueError.__new__"=true)
  (tC:mL K "TooFew" "TooFew.__init__" (mth (top 12) 0) C fI)
  (uWcRc:fT K Wc Rc=true)
  (uPcRc:fT K Pc Rc=true)
  (uCRc:fT K C Rc=true)
  (cd1a:PySem.W.nsIn K mainGlobals "NoTie"=some (some (.ref d1a)))
  (cd2a:PySem.W.nsIn K mainGlobals "NoLot"=some (some (.ref d2a)))
  (cd3a:PySem.W.nsIn K mainGlobals "NoTree"=some (some (.ref d3a)))
  (cd4a:PySem.W.nsIn K mainGlobals "NoText"=some (some (.ref d4a)))
  (cd5a:PySem.W.nsIn K mainGlobals "NoNumber"=some (some (.ref d5a)))
  (cd6a:PySem.W.nsIn K mainGlobals "NoRoots"=some (some (.ref d6a)))
  (cd7a:PySem.W.nsIn K mainGlobals "NoCosts"=some (some (.ref d7a)))
  (cd8a:PySem.W.nsIn K mainGlobals "TooMany"=some (some (.ref d8a)))
  (zve:PySem.W.nsIn K mainGlobals "ValueError"=some none)
  (qw0:PySem.W.kitOne K (.ref Wc) (.ref Wc)=some true)
  (qw1:PySem.W.kitOne K (.ref Wc) (.ref Pc)=some false)
  (qw2:PySem.W.kitOne K (.ref Wc) (.ref C)=some false)
  (qw3:PySem.W.kitOne K (.ref Wc) (.ref d1a)=some false)
  (qw4:PySem.W.kitOne K (.ref Wc) (.ref d2a)=some false)
  (qw5:PySem.W.kitOne K (.ref Wc) (.ref d3a)=some false)
  (qw6:PySem.W.kitOne K (.ref Wc) (.ref d4a)=some false)
  (qw7:PySem.W.kitOne K (.ref Wc) (.ref d5a)=some false)
  (qw8:PySem.W.kitOne K (.ref Wc) (.ref d6a)=some false)
  (qw9:PySem.W.kitOne K (.ref Wc) (.ref d7a)=some false)
  (qw10:PySem.W.kitOne K (.ref Wc) (.ref d8a)=some false)
  (qwv:PySem.W.kitOne K (.ref Wc) (.type "ValueError")=some true)
  (qwx:fV K Wc=true)
  (qp0:PySem.W.kitOne K (.ref Pc) (.ref Wc)=some false)
  (qp1:PySem.W.kitOne K (.ref Pc) (.ref Pc)=some true)
  (qp2:PySem.W.kitOne K (.ref Pc) (.ref C)=some false)
  (qp3:PySem.W.kitOne K (.ref Pc) (.ref d1a)=some false)
  (qp4:PySem.W.kitOne K (.ref Pc) (.ref d2a)=some false)
  (qp5:PySem.W.kitOne K (.ref Pc) (.ref d3a)=some false)
  (qp6:PySem.W.kitOne K (.ref Pc) (.ref d4a)=some false)
  (qp7:PySem.W.kitOne K (.ref Pc) (.ref d5a)=some false)
  (qp8:PySem.W.kitOne K (.ref Pc) (.ref d6a)=some false)
  (qp9:PySem.W.kitOne K (.ref Pc) (.ref d7a)=some false)
  (qp10:PySem.W.kitOne K (.ref Pc) (.ref d8a)=some false)
  (qpv:PySem.W.kitOne K (.ref Pc) (.type "ValueError")=some true)
  (qpx:fV K Pc=true)
  (qt0:PySem.W.kitOne K (.ref C) (.ref Wc)=some false)
  (qt1:PySem.W.kitOne K (.ref C) (.ref Pc)=some false)
  (qt2:PySem.W.kitOne K (.ref C) (.ref C)=some true)
  (qt3:PySem.W.kitOne K (.ref C) (.ref d1a)=some false)
  (qt4:PySem.W.kitOne K (.ref C) (.ref d2a)=some false)
  (qt5:PySem.W.kitOne K (.ref C) (.ref d3a)=some false)
  (qt6:PySem.W.kitOne K (.ref C) (.ref d4a)=some false)
  (qt7:PySem.W.kitOne K (.ref C) (.ref d5a)=some false)
  (qt8:PySem.W.kitOne K (.ref C) (.ref d6a)=some false)
  (qt9:PySem.W.kitOne K (.ref C) (.ref d7a)=some false)
  (qt10:PySem.W.kitOne K (.ref C) (.ref d8a)=some false)
  (qtv:PySem.W.kitOne K (.ref C) (.type "ValueError")=some true)
  (qtx:fV K C=true)
  (d15:aT K "is_name" (top 15))
  (d16:aT K "is_rising" (top 16))
  (d17:aT K "is_sorted_names" (top 17))
  (d18:aT K "is_among" (top 18))
  (d19:aT K "is_tie_row" (top 19))
  (d20:aT K "is_web" (top 20))
  (d21:aT K "rows_of" (top 21))
  (d22:aT K "need_web" (top 22))
  (d23:aT K "need_place" (top 23))
  (d24:aT K "need_two_places" (top 24))
  (d25:aT K "first_rows" (top 25))
  (d26:aT K "come_to" (top 26))
  (d28:aT K "row_to" (top 28))
  (d29:aT K "way_along" (top 29))
  (d31:aT K "short_way" (top 31))
  (d32:aT K "places_beyond" (top 32))
  (d33:aT K "reached" (top 33))
  (d34:aT K "first_tree" (top 34))
  (d35:aT K "fewest" (top 35))
  (d37:aT K "rows_left" (top 37))
  (d38:aT K "in_one_of" (top 38))
  (d39:aT K "taken_most" (top 39))
  (d40:aT K "ways_apart" (top 40))
  (d41:aT K "ways" (top 41))
  (d43:aT K "_law_cell" (top 43))
  (d44:aT K "_law_pot" (top 44))
  (d45:aT K "_law_draw" (top 45))
  (d46:aT K "_law_names" (top 46))
  (d47:aT K "_law_tree_ends" (top 47))
  (d48:aT K "_law_web" (top 48))
  (d49:aT K "_law_no_web" (top 49))
  (d50:aT K "_law_no_place" (top 50))
  (d51:aT K "_law_kinds" (top 51))
  (d52:aT K "_law_asked" (top 52))
  (d53:aT K "_law_right" (top 53))
  (d54:aT K "law" (top 54)) :
  ∃fd:FuncData,(∀(s:Shared) (v:Value),BindsTo s fd ⟨[v],[]⟩ [("_law_script",v)])/\∀base:Heap,K.In base->base.Ns mainGlobals mg->ax l.prog w K mg base CX0 8 fa fd ["_law_script"] (gX K):=by
 obtain⟨f,oc,od,kV,doc,pm,an,cd,ct,sl,a,lk,c,kk⟩:=d54
 have e:=hfa.symm.trans (PySem.W.mg_of X G a)
 cases e
 refine⟨PySem.W.fnOf "law" "law" (cW (top 54)) (cu (top 54)) (ao (top 54)) .none kV doc pm an cd ct,fun s v=>.of_eq rfl,fun base KB _=>?_⟩
 have gRc:=PySem.W.mg_of X G cRc
 have xRc:=iP KB eRc
 have gWc:=PySem.W.mg_of X G cWc
 have xWc:=iP KB eWc
 have gPc:=PySem.W.mg_of X G cPc
 have xPc:=iP KB ePc
 obtain⟨ocI,odI,kVI,docI,pmI,anI,cdI,ctI,slI,a1,a2,a3,a4,a5⟩:=tC
 have gC:=PySem.W.mg_of X G a1
 have xC:=qI KB a2
 have FI:=fW (st:=mth (top 12) 0) a3 a4 a5
 have bI:=FI.binds (ps:=["self","lot"]) (fun _ _ _ _ _ _ us hl=>match us,hl with | [_,_],_=>rfl)
 have nI:=rB (P:=l.prog) (w:=w) (mg:=mg) FI xC
 have vWcRc:=iB KB uWcRc
 have vPcRc:=iB KB uPcRc
 have vCRc:=iB KB uCRc
 have gd1a:=PySem.W.mg_of X G cd1a
 have gd2a:=PySem.W.mg_of X G cd2a
 have gd3a:=PySem.W.mg_of X G cd3a
 have gd4a:=PySem.W.mg_of X G cd4a
 have gd5a:=PySem.W.mg_of X G cd5a
 have gd6a:=PySem.W.mg_of X G cd6a
 have gd7a:=PySem.W.mg_of X G cd7a
 have gd8a:=PySem.W.mg_of X G cd8a
 have Z:Cls mg Wc Pc C d1a d2a d3a d4a d5a d6a d7a d8a:=⟨gWc,gPc,gC,gd1a,gd2a,gd3a,gd4a,gd5a,gd6a,gd7a,gd8a,PySem.W.mg_none_of X G zve⟩
 have Ow:Srt K Wc Wc Pc C d1a d2a d3a d4a d5a d6a d7a d8a kW:=⟨iR qwx,_,_,_,_,_,_,_,_,_,_,_,_,rfl,qw0,qw1,qw2,qw3,qw4,qw5,qw6,qw7,qw8,qw9,qw10,qwv⟩
 have Op:Srt K Pc Wc Pc C d1a d2a d3a d4a d5a d6a d7a d8a kP:=⟨iR qpx,_,_,_,_,_,_,_,_,_,_,_,_,rfl,qp0,qp1,qp2,qp3,qp4,qp5,qp6,qp7,qp8,qp9,qp10,qpv⟩
 have Ot:Srt K C Wc Pc C d1a d2a d3a d4a d5a d6a d7a d8a kT:=⟨iR qtx,_,_,_,_,_,_,_,_,_,_,_,_,rfl,qt0,qt1,qt2,qt3,qt4,qt5,qt6,qt7,qt8,qt9,qt10,qtv⟩
 have n15:=aU (P:=l.prog) (w:=w) (base:=base) d15 X G (ps:=["thing"]) (fun _ _ _ _ _ _ us hl=>match us,hl with | [_],_=>rfl) fun f fd F=>pB F B
 have n15D:=aU (P:=l.prog) (w:=w) (base:=base) d15 X G (ps:=["thing"]) (fun _ _ _ _ _ _ us hl=>match us,hl with | [_],_=>rfl) fun f fd F=>qL F B
 have n16:=aU (P:=l.prog) (w:=w) (base:=base) d16 X G (ps:=["names"]) (fun _ _ _ _ _ _ us hl=>match us,hl with | [_],_=>rfl) fun f fd F=>jE F B
 have n16D:=aU (P:=l.prog) (w:=w) (base:=base) d16 X G (ps:=["names"]) (fun _ _ _ _ _ _ us hl=>match us,hl with | [_],_=>rfl) fun f fd F=>oY F B
 have n17:=aU (P:=l.prog) (w:=w) (base:=base) d17 X G (ps:=["thing"]) (fun _ _ _ _ _ _ us hl=>match us,hl with | [_],_=>rfl) fun f fd F=>n8 F B n15 n16
 have n17D:=aU (P:=l.prog) (w:=w) (base:=base) d17 X G (ps:=["thing"]) (fun _ _ _ _ _ _ us hl=>match us,hl with | [_],_=>rfl) fun f fd F=>oR F B n15D n16D
 have n18:=aU (P:=l.prog) (w:=w) (base:=base) d18 X G (ps:=["thing","names"]) (fun _ _ _ _ _ _ us hl=>match us,hl with | [_,_],_=>rfl) fun f fd F=>oE F B
 have n18D:=aU (P:=l.prog) (w:=w) (base:=base) d18 X G (ps:=["thing","names"]) (fun _ _ _ _ _ _ us hl=>match us,hl with | [_,_],_=>rfl) fun f fd F=>pK F B
 have n18N:=aU (P:=l.prog) (w:=w) (base:=base) d18 X G (ps:=["thing","names"]) (fun _ _ _ _ _ _ us hl=>match us,hl with | [_,_],_=>rfl) fun f fd F=>qe F B
 have n19:=aU (P:=l.prog) (w:=w) (base:=base) d19 X G (ps:=["thing","places"]) (fun _ _ _ _ _ _ us hl=>match us,hl with | [_,_],_=>rfl) fun f fd F=>nY F B n15 n18
 have n19D:=aU (P:=l.prog) (w:=w) (base:=base) d19 X G (ps:=["thing","places"]) (fun _ _ _ _ _ _ us hl=>match us,hl with | [_,_],_=>rfl) fun f fd F=>sq F B n15D n18D
 have n20:=aU (P:=l.prog) (w:=w) (base:=base) d20 X G (ps:=["thing"]) (fun _ _ _ _ _ _ us hl=>match us,hl with | [_],_=>rfl) fun f fd F=>qh F B n17 n19 n16
 have n20D:=aU (P:=l.prog) (w:=w) (base:=base) d20 X G (ps:=["thing"]) (fun _ _ _ _ _ _ us hl=>match us,hl with | [_],_=>rfl) fun f fd F=>rP F B n17D n19D n16D
 have n21:=aU (P:=l.prog) (w:=w) (base:=base) d21 X G (ps:=["web","names"]) (fun _ _ _ _ _ _ us hl=>match us,hl with | [_,_],_=>rfl) fun f fd F=>ph F
 have n22:=aU (P:=l.prog) (w:=w) (base:=base) d22 X G (ps:=["thing"]) (fun _ _ _ _ _ _ us hl=>match us,hl with | [_],_=>rfl) fun f fd F=>jJ F n20
 have n22X:=eQ (P:=l.prog) (w:=w) (base:=base) d22 X G (ps:=["thing"]) (fun _ _ _ _ _ _ us hl=>match us,hl with | [_],_=>rfl) fun f fd F=>ax.or (jJ F n20).lift (og F gWc xWc n20D)
 have n23:=aU (P:=l.prog) (w:=w) (base:=base) d23 X G (ps:=["web","thing"]) (fun _ _ _ _ _ _ us hl=>match us,hl with | [_,_],_=>rfl) fun f fd F=>jD F n18
 have n23X:=eQ (P:=l.prog) (w:=w) (base:=base) d23 X G (ps:=["web","thing"]) (fun _ _ _ _ _ _ us hl=>match us,hl with | [_,_],_=>rfl) fun f fd F=>ax.or (jD F n18).lift (nU F gPc xPc n18N)
 have n24:=eQ (P:=l.prog) (w:=w) (base:=base) d24 X G (ps:=["web","a","b"]) (fun _ _ _ _ _ _ us hl=>match us,hl with | [_,_,_],_=>rfl) fun f fd F=>tF F gPc xPc n23X
 have n25:=aU (P:=l.prog) (w:=w) (base:=base) d25 X G (ps:=["rows","start"]) (fun _ _ _ _ _ _ us hl=>match us,hl with | [_,_],_=>rfl) fun f fd F=>nX F B
 have n25L:=aU (P:=l.prog) (w:=w) (base:=base) d25 X G (ps:=["rows","start"]) (fun _ _ _ _ _ _ us hl=>match us,hl with | [_,_],_=>rfl) fun f fd F=>nS F B
 have n26:=aU (P:=l.prog) (w:=w) (base:=base) d26 X G (ps:=["rows","start"]) (fun _ _ _ _ _ _ us hl=>match us,hl with | [_,_],_=>rfl) fun f fd F=>pE F n25
 have n26L:=aU (P:=l.prog) (w:=w) (base:=base) d26 X G (ps:=["rows","start"]) (fun _ _ _ _ _ _ us hl=>match us,hl with | [_,_],_=>rfl) fun f fd F=>oy F n25L
 have n28:=aU (P:=l.prog) (w:=w) (base:=base) d28 X G (ps:=["rows","place"]) (fun _ _ _ _ _ _ us hl=>match us,hl with | [_,_],_=>rfl) fun f fd F=>pU F
 have n29:=aU (P:=l.prog) (w:=w) (base:=base) d29 X G (ps:=["rows","root","place"]) (fun _ _ _ _ _ _ us hl=>match us,hl with | [_,_,_],_=>rfl) fun f fd F=>oj F B n28
 have n31:=aU (P:=l.prog) (w:=w) (base:=base) d31 X G (ps:=["rows","start","end"]) (fun _ _ _ _ _ _ us hl=>match us,hl with | [_,_,_],_=>rfl) fun f fd F=>om F n25 n29
 have n31L:=aU (P:=l.prog) (w:=w) (base:=base) d31 X G (ps:=["rows","start","end"]) (fun _ _ _ _ _ _ us hl=>match us,hl with | [_,_,_],_=>rfl) fun f fd F=>n6 F n25L n29
 have n32:=aU (P:=l.prog) (w:=w) (base:=base) d32 X G (ps:=["web","found"]) (fun _ _ _ _ _ _ us hl=>match us,hl with | [_,_],_=>rfl) fun f fd F=>p6 F B
 have n33:=eQ (P:=l.prog) (w:=w) (base:=base) d33 X G (ps:=["web","root"]) (fun _ _ _ _ _ _ us hl=>match us,hl with | [_,_],_=>rfl) fun f fd F=>ax.or (pb F B n22 n23 n26).lift (oC F n22X n23X)
 have n34:=eQ (P:=l.prog) (w:=w) (base:=base) d34 X G (ps:=["web","root"]) (fun _ _ _ _ _ _ us hl=>match us,hl with | [_,_],_=>rfl) fun f fd F=>ax.or (n5 F B gC xC nI bI n22 n23 n26 n32 n25) (nV F n22X n23X)
 have n35:=eQ (P:=l.prog) (w:=w) (base:=base) d35 X G (ps:=["web","a","b"]) (fun _ _ _ _ _ _ us hl=>match us,hl with | [_,_,_],_=>rfl) fun f fd F=>ax.or (qm F n22 n23 n31).lift (oS F n22X n23X)
 have n37:=aU (P:=l.prog) (w:=w) (base:=base) d37 X G (ps:=["rows","taken"]) (fun _ _ _ _ _ _ us hl=>match us,hl with | [_,_],_=>rfl) fun f fd F=>sx F
 have n38:=aU (P:=l.prog) (w:=w) (base:=base) d38 X G (ps:=["some","others"]) (fun _ _ _ _ _ _ us hl=>match us,hl with | [_,_],_=>rfl) fun f fd F=>pJ F
 have n39:=aU (P:=l.prog) (w:=w) (base:=base) d39 X G (ps:=["rows","a","b"]) (fun _ _ _ _ _ _ us hl=>match us,hl with | [_,_,_],_=>rfl) fun f fd F=>rg F n31 n31L n38 n37
 have n40:=aU (P:=l.prog) (w:=w) (base:=base) d40 X G (ps:=["rows","a","b"]) (fun _ _ _ _ _ _ us hl=>match us,hl with | [_,_,_],_=>rfl) fun f fd F=>qZ F n31L
 have n41:=eQ (P:=l.prog) (w:=w) (base:=base) d41 X G (ps:=["web","a","b"]) (fun _ _ _ _ _ _ us hl=>match us,hl with | [_,_,_],_=>rfl) fun f fd F=>ax.or (qB F n22X n24 n39 n32 n26L n37 n40 n21) (qV F n22X n24)
 have n43:=aU (P:=l.prog) (w:=w) (base:=base) d43 X G (ps:=["_law_script","_law_k"]) (fun _ _ _ _ _ _ us hl=>match us,hl with | [_,_],_=>rfl) fun f fd F=>sC F B
 have n44:=aU (P:=l.prog) (w:=w) (base:=base) d44 X G (ps:=["_law_cell_here"]) (fun _ _ _ _ _ _ us hl=>match us,hl with | [_],_=>rfl) fun f fd F=>tj F B
 have n45:=aU (P:=l.prog) (w:=w) (base:=base) d45 X G (ps:=["_law_pot_here","_law_many"]) (fun _ _ _ _ _ _ us hl=>match us,hl with | [_,_],_=>rfl) fun f fd F=>sr F B
 have n46:=aU (P:=l.prog) (w:=w) (base:=base) d46 X G (ps:=["_law_pot_here","_law_many"]) (fun _ _ _ _ _ _ us hl=>match us,hl with | [_,_],_=>rfl) fun f fd F=>rh F B n45
 have n47:=aU (P:=l.prog) (w:=w) (base:=base) d47 X G (ps:=["_law_pot_here","_law_places","_law_root"]) (fun _ _ _ _ _ _ us hl=>match us,hl with | [_,_,_],_=>rfl) fun f fd F=>sv F B n45
 have n48:=aU (P:=l.prog) (w:=w) (base:=base) d48 X G (ps:=["_law_pot_here","_law_most"]) (fun _ _ _ _ _ _ us hl=>match us,hl with | [_,_],_=>rfl) fun f fd F=>sT F B n45 n46 n47
 have n49:=aU (P:=l.prog) (w:=w) (base:=base) d49 X G (ps:=["_law_pot_here","_law_web_here"]) (fun _ _ _ _ _ _ us hl=>match us,hl with | [_,_],_=>rfl) fun f fd F=>pT F B n45
 have n50:=aU (P:=l.prog) (w:=w) (base:=base) d50 X G (ps:=["_law_pot_here","_law_web_here"]) (fun _ _ _ _ _ _ us hl=>match us,hl with | [_,_],_=>rfl) fun f fd F=>oB F B n45
 have n51:=rN (P:=l.prog) (w:=w) (base:=base) d51 X G (ps:=["_law_error"]) (fun _ _ _ _ _ _ us hl=>match us,hl with | [_],_=>rfl) fun f fd F=>cN.or (iz F B Z Ow) (cN.or (iz F B Z Op) (iz F B Z Ot))
 have n52:=aU (P:=l.prog) (w:=w) (base:=base) d52 X G (ps:=["_law_way","_law_web_here","_law_a","_law_b"]) (fun _ _ _ _ _ _ us hl=>match us,hl with | [_,_,_,_],_=>rfl) fun f fd F=>qG F gRc xRc vWcRc vPcRc vCRc n33 n34 n35 n41 n51
 have n53:=aU (P:=l.prog) (w:=w) (base:=base) d53 X G (ps:=["_law_pot_here"]) (fun _ _ _ _ _ _ us hl=>match us,hl with | [_],_=>rfl) fun f fd F=>qP F B n45 n48 n49 n50 n52
 exact sL (fW (st:=top 54) lk c kk) B n43 n44 n53
theorem uV {K:PySem.W.Frag}{h:Heap}{mg:Str->Option Value} (X:K.In h) (G:h.Ns mainGlobals mg) {t_lng:Tok}
  (z_len:PySem.W.nsIn K mainGlobals "len"=some none)
  (z_isinstance:PySem.W.nsIn K mainGlobals "isinstance"=some none)
  (z_all:PySem.W.nsIn K mainGlobals "all"=some none)
  (z_range:PySem.W.nsIn K mainGlobals "range"=some none)
  (z_sorted:PySem.W.nsIn K mainGlobals "sorted"=some none)
  (z_repr:PySem.W.nsIn K mainGlobals "repr"=some none)
  (z_max:PySem.W.nsIn K mainGlobals "max"=some none)
  (z_min:PySem.W.nsIn K mainGlobals "min"=some none)
  (z_str:PySem.W.nsIn K mainGlobals "str"=some none)
  (z_tuple:PySem.W.nsIn K mainGlobals "tuple"=some none)
  (z_list:PySem.W.nsIn K mainGlobals "list"=some none)
  (z_int:PySem.W.nsIn K mainGlobals "int"=some none)
  (z_bool:PySem.W.nsIn K mainGlobals "bool"=some none)
  (z_zip:PySem.W.nsIn K mainGlobals "zip"=some none)
  (z_divmod:PySem.W.nsIn K mainGlobals "divmod"=some none)
  (z_abs:PySem.W.nsIn K mainGlobals "abs"=some none)
  (z_dict:PySem.W.nsIn K mainGlobals "dict"=some none)
  (z_lng:PySem.W.nsIn K mainGlobals "LONGEST_NAME"=some (some (.int 8 t_lng)))
  : Bl mg :=
 ⟨PySem.W.mg_none_of X G z_len,PySem.W.mg_none_of X G z_isinstance,PySem.W.mg_none_of X G z_all,PySem.W.mg_none_of X G z_range,PySem.W.mg_none_of X G z_sorted,PySem.W.mg_none_of X G z_repr,PySem.W.mg_none_of X G z_max,PySem.W.mg_none_of X G z_min,PySem.W.mg_none_of X G z_str,PySem.W.mg_none_of X G z_tuple,PySem.W.mg_none_of X G z_list,PySem.W.mg_none_of X G z_int,PySem.W.mg_none_of X G z_bool,PySem.W.mg_none_of X G z_zip,PySem.W.mg_none_of X G z_divmod,PySem.W.mg_none_of X G z_abs,PySem.W.mg_none_of X G z_dict,⟨t_lng,PySem.W.mg_of X G z_lng⟩⟩
theorem walk {l:PySem.W.OpenLaw}{q:Program}{loose:List Str}{XP:(Str->Option Value)->Heap->Prop}{YP:World->Heap->Prop}{d:DefRec}{K:Params->PySem.W.Frag} (hn:l.most=some 63) (hdf:d.params.defaults=[])
  (hY:∀(w:World) (h:Heap),YP w h->(K w.params).In h)
  (F:∀(w:World) (mg:Str->Option Value) (fa:Addr) (h:Heap),(K w.params).In h->h.Ns mainGlobals mg->mg d.name=some (.ref fa) ->
   ∃fd:FuncData,(∀(s:Shared) (u:Value),BindsTo s fd ⟨[u],[]⟩ [("_law_script",u)])/\∀base:Heap,(K w.params).In base->base.Ns mainGlobals mg->ax l.prog w (K w.params) mg base CX0 8 fa fd ["_law_script"] (gX (K w.params))) :
  PySem.W.WalkO q loose XP YP l.row.toRowW d [] (fun f vs=>PySem.call f vs) :=
 L2.uP (n:=63) (k:=8) (x:="_law_script") (CX:=fun _=>CX0) (sp:=fun w=>gX (K w.params)) hn (by decide) hdf ⟨rfl,by decide,by decide,rfl⟩ hY F (fun _ _ a ns hl _ hS=>⟨a,ns,rfl,hS,hl,fun _=>rfl⟩) fun _ _ _ _ _ z=>z
end K24
theorem PySem.W.Fast.tw5056776597974811940 : True := trivial
theorem PySem.W.Fast.tw2217484886997059878 : True := trivial
theorem PySem.W.Fast.tw9507806677699496523 : True := trivial
theorem PySem.W.Fast.tw4937256731555054165 : True := trivial
theorem PySem.W.Fast.tw8649904872267336619 : True := trivial
theorem PySem.W.Fast.tw2257181013879741849 : True := trivial
theorem PySem.W.Fast.tw14570299512328295967 : True := trivial
theorem PySem.W.Fast.tw17588349578185191768 : True := trivial
theorem PySem.W.Fast.tw2100268635788920229 : True := trivial
theorem PySem.W.Fast.tw13372182838125925485 : True := trivial
theorem PySem.W.Fast.tw8669962913644004150 : True := trivial
theorem PySem.W.Fast.tw8275164941419297868 : True := trivial
theorem PySem.W.Fast.tw6310135600769032136 : True := trivial
theorem PySem.W.Fast.tw14086218467632833717 : True := trivial
theorem PySem.W.Fast.tw18190342726085908860 : True := trivial
theorem PySem.W.Fast.tw18019429956002613510 : True := trivial
theorem PySem.W.Fast.tw4820032237801599368 : True := trivial
theorem PySem.W.Fast.tw16908037302210723750 : True := trivial
theorem PySem.W.Fast.tw17737747349310192816 : True := trivial
theorem PySem.W.Fast.tw4491774638543728088 : True := trivial
theorem PySem.W.Fast.tw419099162068334539 : True := trivial
theorem PySem.W.Fast.tw792003619217302243 : True := trivial
theorem PySem.W.Fast.tw7556088848649582533 : True := trivial
theorem PySem.W.Fast.tw8749722710158471355 : True := trivial
theorem PySem.W.Fast.tw15102806935358872779 : True := trivial
theorem PySem.W.Fast.tw10409203752620828058 : True := trivial
theorem PySem.W.Fast.tw229698459584612305 : True := trivial
theorem PySem.W.Fast.tw3168501827801021492 : True := trivial
theorem PySem.W.Fast.tw9906875635242237190 : True := trivial
theorem PySem.W.Fast.tw15326763471269000379 : True := trivial
theorem PySem.W.Fast.tw11108618309130235261 : True := trivial
theorem PySem.W.Fast.tw11725170662378128532 : True := trivial
theorem PySem.W.Fast.tw16067700906527532622 : True := trivial
theorem PySem.W.Fast.tw14872357232486351645 : True := trivial
theorem PySem.W.Fast.tw5972004567580227969 : True := trivial
theorem PySem.W.Fast.tw7717006058166171434 : True := trivial
theorem PySem.W.Fast.tw15190036977793879622 : True := trivial
theorem PySem.W.Fast.tw17270747403468822768 : True := trivial
theorem PySem.W.Fast.tw14674717975405160652 : True := trivial
theorem PySem.W.Fast.tw13105075653714414138 : True := trivial
theorem PySem.W.Fast.tw14900656992068155192 : True := trivial
theorem PySem.W.Fast.tw12275109800253184209 : True := trivial
theorem PySem.W.Fast.tw4514542087228746713 : True := trivial
theorem PySem.W.Fast.tw5453916138625631149 : True := trivial
open PySem PySem.W PyProof.Rows
set_option maxRecDepth 100000 in
set_option maxHeartbeats 0 in
theorem PySem.Challenge.cw_rootshares_k24_ways_refused_holds : PySem.Challenge.rw_rootshares_k24_ways_refused.Holds := by
 w_on;o_law;k_head;(case hw=>w_witness2)
 k_fill
 refine K24.walk (l:=PySem.Challenge.rw_rootshares_k24_ways_refused) rfl rfl (fun w h Y=>PySem.W.kIn_of Y) ?F
 case F =>
  intro w mg fa h KX G hmg
  have B:K24.Bl mg:=by
   refine' K24.uV KX G ?len ?isinstance ?all ?range ?sorted ?repr ?max ?min ?str ?tuple ?list ?int ?bool ?zip ?divmod ?abs ?dict ?lng
   (case len=>k_is)
   (case isinstance=>k_is)
   (case all=>k_is)
   (case range=>k_is)
   (case sorted=>k_is)
   (case repr=>k_is)
   (case max=>k_is)
   (case min=>k_is)
   (case str=>k_is)
   (case tuple=>k_is)
   (case list=>k_is)
   (case int=>k_is)
   (case bool=>k_is)
   (case zip=>k_is)
   (case divmod=>k_is)
   (case abs=>k_is)
   (case dict=>k_is)
   (case lng=>k_is)
  refine' K24.uT KX G hmg B ?cRc ?eRc ?cWc ?eWc ?cPc ?ePc ?tC ?uWcRc ?uPcRc ?uCRc ?cd1a ?cd2a ?cd3a ?cd4a ?cd5a ?cd6a ?cd7a ?cd8a ?zve ?qw0 ?qw1 ?qw2 ?qw3 ?qw4 ?qw5 ?qw6 ?qw7 ?qw8 ?qw9 ?qw10 ?qwv ?qwx ?qp0 ?qp1 ?qp2 ?qp3 ?qp4 ?qp5 ?qp6 ?qp7 ?qp8 ?qp9 ?qp10 ?qpv ?qpx ?qt0 ?qt1 ?qt2 ?qt3 ?qt4 ?qt5 ?qt6 ?qt7 ?qt8 ?qt9 ?qt10 ?qtv ?qtx ?d15 ?d16 ?d17 ?d18 ?d19 ?d20 ?d21 ?d22 ?d23 ?d24 ?d25 ?d26 ?d28 ?d29 ?d31 ?d32 ?d33 ?d34 ?d35 ?d37 ?d38 ?d39 ?d40 ?d41 ?d43 ?d44 ?d45 ?d46 ?d47 ?d48 ?d49 ?d50 ?d51 ?d52 ?d53 ?d54
  (case cRc=>k_is)
  (case cWc=>k_is)
  (case cPc=>k_is)
  (case tC=>(refine' K24.uQ ?a ?i ?l ?c ?k ?e;(case a=>k_is);(case i=>k_is);(case l=>k_is);(case c=>k_is);(case k=>k_is);(case e=>kernel_rfl)))
  (case eRc=>kernel_rfl)
  (case eWc=>kernel_rfl)
  (case ePc=>kernel_rfl)
  (case uWcRc=>kernel_rfl)
  (case uPcRc=>kernel_rfl)
  (case uCRc=>kernel_rfl)
  (case cd1a=>k_is)
  (case cd2a=>k_is)
  (case cd3a=>k_is)
  (case cd4a=>k_is)
  (case cd5a=>k_is)
  (case cd6a=>k_is)
  (case cd7a=>k_is)
  (case cd8a=>k_is)
  (case zve=>k_is)
  (case qw0=>kernel_rfl)
  (case qw1=>kernel_rfl)
  (case qw2=>kernel_rfl)
  (case qw3=>kernel_rfl)
  (case qw4=>kernel_rfl)
  (case qw5=>kernel_rfl)
  (case qw6=>kernel_rfl)
  (case qw7=>kernel_rfl)
  (case qw8=>kernel_rfl)
  (case qw9=>kernel_rfl)
  (case qw10=>kernel_rfl)
  (case qwv=>kernel_rfl)
  (case qwx=>kernel_rfl)
  (case qp0=>kernel_rfl)
  (case qp1=>kernel_rfl)
  (case qp2=>kernel_rfl)
  (case qp3=>kernel_rfl)
  (case qp4=>kernel_rfl)
  (case qp5=>kernel_rfl)
  (case qp6=>kernel_rfl)
  (case qp7=>kernel_rfl)
  (case qp8=>kernel_rfl)
  (case qp9=>kernel_rfl)
  (case qp10=>kernel_rfl)
  (case qpv=>kernel_rfl)
  (case qpx=>kernel_rfl)
  (case qt0=>kernel_rfl)
  (case qt1=>kernel_rfl)
  (case qt2=>kernel_rfl)
  (case qt3=>kernel_rfl)
  (case qt4=>kernel_rfl)
  (case qt5=>kernel_rfl)
  (case qt6=>kernel_rfl)
  (case qt7=>kernel_rfl)
  (case qt8=>kernel_rfl)
  (case qt9=>kernel_rfl)
  (case qt10=>kernel_rfl)
  (case qtv=>kernel_rfl)
  (case qtx=>kernel_rfl)
  (case d15=>(refine' K24.uR ?a ?l ?c ?k;(case a=>k_is);(case l=>k_is);(case c=>k_is);(case k=>k_is)))
  (case d16=>(refine' K24.uR ?a ?l ?c ?k;(case a=>k_is);(case l=>k_is);(case c=>k_is);(case k=>k_is)))
  (case d17=>(refine' K24.uR ?a ?l ?c ?k;(case a=>k_is);(case l=>k_is);(case c=>k_is);(case k=>k_is)))
  (case d18=>(refine' K24.uR ?a ?l ?c ?k;(case a=>k_is);(case l=>k_is);(case c=>k_is);(case k=>k_is)))
  (case d19=>(refine' K24.uR ?a ?l ?c ?k;(case a=>k_is);(case l=>k_is);(case c=>k_is);(case k=>k_is)))
  (case d20=>(refine' K24.uR ?a ?l ?c ?k;(case a=>k_is);(case l=>k_is);(case c=>k_is);(case k=>k_is)))
  (case d21=>(refine' K24.uR ?a ?l ?c ?k;(case a=>k_is);(case l=>k_is);(case c=>k_is);(case k=>k_is)))
  (case d22=>(refine' K24.uR ?a ?l ?c ?k;(case a=>k_is);(case l=>k_is);(case c=>k_is);(case k=>k_is)))
  (case d23=>(refine' K24.uR ?a ?l ?c ?k;(case a=>k_is);(case l=>k_is);(case c=>k_is);(case k=>k_is)))
  (case d24=>(refine' K24.uR ?a ?l ?c ?k;(case a=>k_is);(case l=>k_is);(case c=>k_is);(case k=>k_is)))
  (case d25=>(refine' K24.uR ?a ?l ?c ?k;(case a=>k_is);(case l=>k_is);(case c=>k_is);(case k=>k_is)))
  (case d26=>(refine' K24.uR ?a ?l ?c ?k;(case a=>k_is);(case l=>k_is);(case c=>k_is);(case k=>k_is)))
  (case d28=>(refine' K24.uR ?a ?l ?c ?k;(case a=>k_is);(case l=>k_is);(case c=>k_is);(case k=>k_is)))
  (case d29=>(refine' K24.uR ?a ?l ?c ?k;(case a=>k_is);(case l=>k_is);(case c=>k_is);(case k=>k_is)))
  (case d31=>(refine' K24.uR ?a ?l ?c ?k;(case a=>k_is);(case l=>k_is);(case c=>k_is);(case k=>k_is)))
  (case d32=>(refine' K24.uR ?a ?l ?c ?k;(case a=>k_is);(case l=>k_is);(case c=>k_is);(case k=>k_is)))
  (case d33=>(refine' K24.uR ?a ?l ?c ?k;(case a=>k_is);(case l=>k_is);(case c=>k_is);(case k=>k_is)))
  (case d34=>(refine' K24.uR ?a ?l ?c ?k;(case a=>k_is);(case l=>k_is);(case c=>k_is);(case k=>k_is)))
  (case d35=>(refine' K24.uR ?a ?l ?c ?k;(case a=>k_is);(case l=>k_is);(case c=>k_is);(case k=>k_is)))
  (case d37=>(refine' K24.uR ?a ?l ?c ?k;(case a=>k_is);(case l=>k_is);(case c=>k_is);(case k=>k_is)))
  (case d38=>(refine' K24.uR ?a ?l ?c ?k;(case a=>k_is);(case l=>k_is);(case c=>k_is);(case k=>k_is)))
  (case d39=>(refine' K24.uR ?a ?l ?c ?k;(case a=>k_is);(case l=>k_is);(case c=>k_is);(case k=>k_is)))
  (case d40=>(refine' K24.uR ?a ?l ?c ?k;(case a=>k_is);(case l=>k_is);(case c=>k_is);(case k=>k_is)))
  (case d41=>(refine' K24.uR ?a ?l ?c ?k;(case a=>k_is);(case l=>k_is);(case c=>k_is);(case k=>k_is)))
  (case d43=>(refine' K24.uR ?a ?l ?c ?k;(case a=>k_is);(case l=>k_is);(case c=>k_is);(case k=>k_is)))
  (case d44=>(refine' K24.uR ?a ?l ?c ?k;(case a=>k_is);(case l=>k_is);(case c=>k_is);(case k=>k_is)))
  (case d45=>(refine' K24.uR ?a ?l ?c ?k;(case a=>k_is);(case l=>k_is);(case c=>k_is);(case k=>k_is)))
  (case d46=>(refine' K24.uR ?a ?l ?c ?k;(case a=>k_is);(case l=>k_is);(case c=>k_is);(case k=>k_is)))
  (case d47=>(refine' K24.uR ?a ?l ?c ?k;(case a=>k_is);(case l=>k_is);(case c=>k_is);(case k=>k_is)))
  (case d48=>(refine' K24.uR ?a ?l ?c ?k;(case a=>k_is);(case l=>k_is);(case c=>k_is);(case k=>k_is)))
  (case d49=>(refine' K24.uR ?a ?l ?c ?k;(case a=>k_is);(case l=>k_is);(case c=>k_is);(case k=>k_is)))
  (case d50=>(refine' K24.uR ?a ?l ?c ?k;(case a=>k_is);(case l=>k_is);(case c=>k_is);(case k=>k_is)))
  (case d51=>(refine' K24.uR ?a ?l ?c ?k;(case a=>k_is);(case l=>k_is);(case c=>k_is);(case k=>k_is)))
  (case d52=>(refine' K24.uR ?a ?l ?c ?k;(case a=>k_is);(case l=>k_is);(case c=>k_is);(case k=>k_is)))
  (case d53=>(refine' K24.uR ?a ?l ?c ?k;(case a=>k_is);(case l=>k_is);(case c=>k_is);(case k=>k_is)))
  (case d54=>(refine' K24.uR ?a ?l ?c ?k;(case a=>k_is);(case l=>k_is);(case c=>k_is);(case k=>k_is)))
