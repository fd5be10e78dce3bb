import PyProof.Rows.All
import Wide.All
import OpenK.AllK
import Wide.FinOn
import Lean
import PyProof.EqAt
import PyProof.EqKinds
import PyProof.TupleCall
import KE.KSortTup
import KE.KDictSum
import KE.KDictOf
import PyProof.AttrMissHeap
import PyProof.WalksEnum
import PyProof.EnumMake
import PyProof.Draws
import PyProof.Rows.SetFrom
import KE.KTryOn
import KE.KTryDeep
import PySem.Challenge.RW_rootshares_k16_texts_refused
set_option Elab.async false
set_option linter.all false
set_option maxRecDepth 100000
namespace L2
open PySem PySem.Spec PyProof.Rows
noncomputable abbrev Key:=Sum Int Str
noncomputable def nH:Key->Value->Bool
 | .inl k,v=>Value.isInt k v
 | .inr x,v=>Value.isStrOf x v
noncomputable def vi (w:World):Key->Int
 | .inl k=>hashInt k
 | .inr x=>hashStr w x
theorem dk:∀{k:Key}{v:Value},nH k v=true->(∃i t,k=Sum.inl i/\v=Value.int i t)\/(∃x t,k=Sum.inr x/\v=Value.str x t)
 | .inl i,v,h=>by
  obtain⟨t,e⟩:=Value.isInt_shape (k:=i) (v:=v) h
  exact .inl ⟨i,t,rfl,e⟩
 | .inr x,v,h=>by
  obtain⟨t,e⟩:=Value.isStrOf_shape (x:=x) (v:=v) h
  exact .inr ⟨x,t,rfl,e⟩
theorem um (a b:Int):decide ((Sum.inl a:Key)=Sum.inl b)=(a == b):=by
 by_cases e:a=b
 ·subst e;simp
 ·have h:¬ (Sum.inl a:Key)=Sum.inl b:=fun q=>e (Sum.inl.inj q)
  rw [decide_eq_false h]
  exact (beq_eq_false_iff_ne.mpr e).symm
theorem uE (a b:Str):decide ((Sum.inr a:Key)=Sum.inr b)=decide (a=b):=by
 by_cases e:a=b
 ·subst e;simp
 ·have h:¬ (Sum.inr a:Key)=Sum.inr b:=fun q=>e (Sum.inr.inj q)
  rw [decide_eq_false h,decide_eq_false e]
theorem tK (a:Int) (b:Str):decide ((Sum.inl a:Key)=Sum.inr b)=false:=decide_eq_false (fun q=>nomatch q)
theorem uc (a:Str) (b:Int):decide ((Sum.inr a:Key)=Sum.inl b)=false:=decide_eq_false (fun q=>nomatch q)
noncomputable def md (prog:Program) (w:World):PySem.KeyKind prog w Key where
 is:=nH
 hash:=vi w
 inj:=fun v a b ha hb=>by
  rcases dk ha with ⟨i,t,rfl,rfl⟩ | ⟨x,t,rfl,rfl⟩
  ·rcases dk hb with ⟨j,u,rfl,e⟩ | ⟨y,u,rfl,e⟩
   ·injection e with e1 _;rw [e1]
   ·exact nomatch e
  ·rcases dk hb with ⟨j,u,rfl,e⟩ | ⟨y,u,rfl,e⟩
   ·exact nomatch e
   ·injection e with e1 _;rw [e1]
 byValue:=fun k v h=>by
  rcases dk h with ⟨i,t,rfl,rfl⟩ | ⟨x,t,rfl,rfl⟩ <;> rfl
 pyHash:=fun hv h=>by
  rcases dk hv with ⟨i,t,rfl,rfl⟩ | ⟨x,t,rfl,rfl⟩
  ·exact wpAny_pyHash_int h
  ·exact wpAny_pyHash_str h
 eqBool:=fun hu hv h=>by
  rcases dk hu with ⟨i,t,rfl,rfl⟩ | ⟨x,t,rfl,rfl⟩
  ·rcases dk hv with ⟨j,u,rfl,rfl⟩ | ⟨y,u,rfl,rfl⟩
   ·rw [um] at h;exact wpAny_eqBool_int h
   ·rw [tK] at h;exact SeqAt.EqAt.int_str i t y u _ _ _ _ h
  ·rcases dk hv with ⟨j,u,rfl,rfl⟩ | ⟨y,u,rfl,rfl⟩
   ·rw [uc] at h;exact SeqAt.EqAt.str_int x t j u _ _ _ _ h
   ·rw [uE] at h;exact wpAny_eqBool_str h
 «strs»:=fun k x t v h=>by
  rcases dk h with ⟨i,u,rfl,e⟩ | ⟨y,u,rfl,e⟩
  ·exact nomatch e
  ·injection e with e1 _
   subst e1
   cases v <;> rfl
inductive V where
 | non | bl (b:Bool) | int (i:Int) | str (x:Str) | byt (b:Array UInt8) | flt (b:UInt64) | ref (a:Addr) | ty (n:String)
 deriving DecidableEq
noncomputable def RelV:V->Value->Prop
 | .non,u=>u=Value.none
 | .bl b,u=>u=Value.bool b
 | .int i,u=>∃t,u=Value.int i t
 | .str x,u=>∃t,u=Value.str x t
 | .byt b,u=>∃t,u=Value.bytes b t
 | .flt b,u=>∃t,u=Value.float b t
 | .ref a,u=>u=Value.ref a
 | .ty n,u=>u=Value.type n
noncomputable abbrev ar:List V->List Value->Prop:=Paired RelV
theorem ar.length {xs:List V}{us:List Value} (r:ar xs us):xs.length=us.length:=Paired.length r
theorem ar.get:∀{xs:List V}{us:List Value}{i:Nat}{x:V},ar xs us->xs[i]?=some x->∃u,us[i]?=some u/\RelV x u
 | _,_,_,_,.nil,e=>by simp at e
 | _,_,0,_,.cons r _,e=>by simp at e;subst e;exact⟨_,rfl,r⟩
 | _,_,i + 1,x,.cons _ t,e=>by
  obtain⟨u,h1,h2⟩:=ar.get (i:=i) (x:=x) t (by simpa using e)
  exact⟨u,by simpa using h1,h2⟩
theorem ar.set {x:V}{u:Value} (r:RelV x u):∀{xs:List V}{us:List Value} (i:Nat),ar xs us->ar (xs.set i x) (us.set i u)
 | _,_,_,.nil=>.nil
 | _,_,0,.cons _ t=>.cons r t
 | _,_,i + 1,.cons q t=>.cons q (ar.set r i t)
theorem ar.append:∀{xs ys:List V}{us ws:List Value},ar xs us->ar ys ws->ar (xs++ys) (us++ws)
 | _,_,_,_,.nil,s=>s
 | _,_,_,_,.cons r t,s=>.cons r (ar.append t s)
theorem ar.take:∀{xs:List V}{us:List Value} (n:Nat),ar xs us->ar (xs.take n) (us.take n)
 | _,_,0,_=>.nil
 | _,_,_ + 1,.nil=>.nil
 | _,_,n + 1,.cons r t=>.cons r (ar.take n t)
theorem ar.drop:∀{xs:List V}{us:List Value} (n:Nat),ar xs us->ar (xs.drop n) (us.drop n)
 | _,_,0,r=>r
 | _,_,_ + 1,.nil=>.nil
 | _,_,n + 1,.cons _ t=>ar.drop n t
noncomputable def jP:Option V->Option Value->Prop
 | some v,some u=>RelV v u
 | none,none=>True
 | _,_=>False
noncomputable def KV {κ:Type}:List (κ×V)->List (κ×Value)->Prop:=Paired fun (p:κ×V) (q:κ×Value)=>p.1=q.1/\RelV p.2 q.2
noncomputable def kV:Key->V
 | .inl i=>.int i
 | .inr x=>.str x
inductive HO where
  | lst (xs:List V)
  | tup (xs:List V)
  | dK (kvs:List (Key×V)) | dT (kvs:List (List Key×V))
  | set (S:Int->Bool) (n:Nat)
  | ins (C dx:Addr) (fs:List (Str×V))
  | own (x:Addr)
  | xd (fs:List (Str×V))
  | met (f x:Addr)
  | rng (lo hi:Int)
  | frz (o:Obj) (u:HO)
  | tbl (ps:Array Value)
  | ext (φ:Heap->Prop)
noncomputable abbrev Hp:=Addr->Option HO
noncomputable def upd (H:Hp) (a:Addr) (o:HO):Hp:=fun b=>if b=a then some o else H b
theorem ah {H:Hp}{a:Addr}{o:HO}:upd H a o a=some o:=by unfold upd;rw [if_pos rfl]
theorem ai {H:Hp}{a b:Addr}{o:HO} (h:b≠a):upd H a o b=H b:=by unfold upd;rw [if_neg h]
theorem u5 {H:Hp}{a b:Addr}{o u:HO} (h:H a=some o) (h':H b=some u) (d:o≠u):a≠b:=by
 intro e;subst e;rw [h] at h';exact d (Option.some.inj h')
theorem au {H:Hp}{a b:Addr}{o:HO} (h:H a=some o) (h':H b=none):a≠b:=by
 intro e;subst e;rw [h] at h';cases h'
section
variable (P:Program) (w:World)
noncomputable def aQ (H:Hp) (h:Heap) (a:Addr):HO->Prop
 | .lst xs=>xs.length<=sizeLine/\∃(its:List Value) (n:Nat),ar xs its/\h.get? a=some { cls:=.type "list",data:=.seq its.toArray n }
 | .tup xs=>xs.length<=sizeLine/\∃its:List Value,ar xs its/\IsTup h a its.toArray
 | .dK kvs=>kvs.length<=sizeLine/\(a == sysModules)=false/\∃vs,KV kvs vs/\h.DictOf (md P w) a vs
 | .dT kvs=>kvs.length<=sizeLine/\(a == sysModules)=false/\∃xs:List (List Key×Addr×Value),
   Paired (fun (p:List Key×V) (q:List Key×Addr×Value)=>p.1=q.1/\H q.2.1=some (.tup (p.1.map kV))/\RelV p.2 q.2.2) kvs xs /\
   ∃o es ep,h.get? a=some o/\o.ExactDict/\o.data=.dict es ep/\es.toList=xs.map (entryOfKey (tupleKind (md P w)))/\(xs.map (·.1)).Nodup
 | .set S n=>h.SetOf (intKind P w) a S n
 | .ins C dx fs=>H dx=some (.own a)/\fs.length<=1000/\dx≠a/\h.get? a=some (PySem.W.instObj C dx) /\
   ∃mA,h.Ns1 dx mA/\(∀f,jP (fs.lookup f) (mA f))/\PySem.Within mA (fs.map (·.1))
 | .own _=>∃o,h.get? a=some o
 | .xd fs=>∃mA,h.Ns1 a mA/\∀f,jP (fs.lookup f) (mA f)
 | .rng lo hi=>∃t u v,h.get? a=some { cls:=.type "range",data:=.fields #[.int lo t,.int hi u,.int 1 v] }
 | .frz o u=>h.get? a=some o/\aQ H h a u
 | .tbl ps=>h.get? a=some { cls:=.none,data:=.fields ps }
 | .met f x=>h.get? a=some (PySem.W.methodObj (.ref f) (.ref x))
 | .ext φ=>φ h/\(∃o,h.get? a=some o)/\∀h1 h2:Heap,φ h1->(∀o,h1.get? a=some o->h2.get? a=some o)->φ h2
noncomputable def HOk (H:Hp) (h:Heap):Prop:=∀a o,H a=some o->aQ P w H h a o
end
section
variable {P:Program}{w:World}{H H':Hp}{h h':Heap}{a:Addr}{o:HO}
theorem aQ.lt (x:aQ P w H h a o):a < h.objs.size:=by
 cases o with
 | lst xs=>obtain⟨_,_,_,_,e⟩:=x;exact Heap.lt_size e
 | tup xs=>obtain⟨_,_,_,p⟩:=x;exact p.lt
 | dK kvs=>obtain⟨_,_,_,_,o,_,_,e,_⟩:=x;exact Heap.lt_size e
 | dT kvs=>obtain⟨_,_,_,_,o,_,_,e,_⟩:=x;exact Heap.lt_size e
 | set S n=>obtain⟨o,_,_,_,e,_⟩:=x;exact Heap.lt_size e
 | ins C dx fs=>obtain⟨_,_,_,e,_⟩:=x;exact Heap.lt_size e
 | own y=>obtain⟨_,e⟩:=x;exact Heap.lt_size e
 | xd fs=>obtain⟨_,⟨_,_,_,e,_⟩,_⟩:=x;exact Heap.lt_size e
 | rng lo hi=>obtain⟨_,_,_,e⟩:=x;exact Heap.lt_size e
 | frz ob u=>obtain⟨e,_⟩:=x;exact Heap.lt_size e
 | tbl ps=>exact Heap.lt_size (show h.get? a=some _ from x)
 | met f y=>exact Heap.lt_size (show h.get? a=some _ from x)
 | ext φ=>obtain⟨_,⟨_,e⟩,_⟩:=x;exact Heap.lt_size e
theorem Paired.mapP {α β:Type}{F G:α->β->Prop}:∀{l₁:List α}{l₂:List β},Paired F l₁ l₂->(∀a b,F a b->G a b)->Paired G l₁ l₂
 | _,_,.nil,_=>.nil
 | _,_,.cons r t,f=>.cons (f _ _ r) (Paired.mapP t f)
theorem aQ.stay (x:aQ P w H h a o) (k:∀b u,(b=a\/H b=some (.own a))->h.get? b=some u->h'.get? b=some u)
  (ho:∀b,H b=some (.own a)->H' b=some (.own a)) (ht:∀b xs,H b=some (.tup xs)->H' b=some (.tup xs)):aQ P w H' h' a o:=by
 induction o with
 | lst xs=>obtain⟨z,its,n,r,e⟩:=x;exact⟨z,its,n,r,k _ _ (.inl rfl) e⟩
 | tup xs=>obtain⟨z,its,r,ob,e,c⟩:=x;exact⟨z,its,r,ob,k _ _ (.inl rfl) e,c⟩
 | dK kvs=>obtain⟨z,y,vs,r,ob,es,ep,e,c⟩:=x;exact⟨z,y,vs,r,ob,es,ep,k _ _ (.inl rfl) e,c⟩
 | dT kvs =>
  obtain⟨z,y,xs,r,ob,es,ep,e,c⟩:=x
  exact⟨z,y,xs,Paired.mapP r fun p q z=>⟨z.1,ht _ _ z.2.1,z.2.2⟩,ob,es,ep,k _ _ (.inl rfl) e,c⟩
 | set S n=>obtain⟨ob,es,ep,t,e,c⟩:=x;exact⟨ob,es,ep,t,k _ _ (.inl rfl) e,c⟩
 | ins C dx fs =>
  obtain⟨d,z,ne,e,mA,⟨od,es,ep,e2,c⟩,r⟩:=x
  exact⟨ho _ d,z,ne,k _ _ (.inl rfl) e,mA,⟨od,es,ep,k _ _ (.inr d) e2,c⟩,r⟩
 | own y=>obtain⟨ob,e⟩:=x;exact⟨ob,k _ _ (.inl rfl) e⟩
 | xd fs=>obtain⟨mA,⟨od,es,ep,e,c⟩,r⟩:=x;exact⟨mA,⟨od,es,ep,k _ _ (.inl rfl) e,c⟩,r⟩
 | rng lo hi=>obtain⟨t,u,v,e⟩:=x;exact⟨t,u,v,k _ _ (.inl rfl) e⟩
 | frz ob u ih=>obtain⟨e,q⟩:=x;exact⟨k _ _ (.inl rfl) e,ih q⟩
 | tbl ps =>
  have e:h.get? a=some { cls:=.none,data:=.fields ps }:=x
  show h'.get? a=some { cls:=.none,data:=.fields ps }
  exact k a _ (.inl rfl) e
 | met f y =>
  have e:h.get? a=some (PySem.W.methodObj (.ref f) (.ref y)):=x
  show h'.get? a=some (PySem.W.methodObj (.ref f) (.ref y))
  exact k a _ (.inl rfl) e
 | ext φ=>obtain⟨p,⟨o,e⟩,st⟩:=x;exact⟨st _ _ p fun o q=>k _ _ (.inl rfl) q,⟨o,k _ _ (.inl rfl) e⟩,st⟩
theorem HOk.lt (x:HOk P w H h) (e:H a=some o):a < h.objs.size:=(x a o e).lt
theorem HOk.fresh (x:HOk P w H h) (e:h.objs.size<=a):H a=none:=by
 cases q:H a with
 | none=>rfl
 | some u=>exact absurd (Nat.lt_of_lt_of_le (x.lt q) e) (Nat.lt_irrefl _)
theorem HOk.kept (x:HOk P w H h) (k:∀b u,h.get? b=some u->h'.get? b=some u):HOk P w H h':=fun a o e =>
 (x a o e).stay (fun b u _ q=>k b u q) (fun _ q=>q) fun _ _ q=>q
theorem HOk.laid (x:HOk P w H h) (k:∀b u,h.get? b=some u->h'.get? b=some u) (hp:h.objs.size<=a) (new:aQ P w (upd H a o) h' a o):HOk P w (upd H a o) h':=fun b u e=>by
 have hn:=x.fresh hp
 by_cases hb:b=a
 ·subst hb;rw [ah] at e;cases e;exact new
 ·rw [ai hb] at e
  exact (x b u e).stay (fun c v _ q=>k c v q) (fun c q=>by rw [ai (au q hn)];exact q) fun c xs q=>by rw [ai (au q hn)];exact q
end
noncomputable def Rd (H:Hp) (a:Addr) (u:HO):Prop:=H a=some u\/∃o,H a=some (.frz o u)
theorem Rd.ok {P:Program}{w:World}{H:Hp}{h:Heap}{a:Addr}{u:HO} (r:Rd H a u) (x:HOk P w H h):aQ P w H h a u:=by
 rcases r with r | ⟨o,r⟩
 ·exact x a u r
 ·obtain⟨_,q⟩:=x a _ r
  exact q
noncomputable def Mut:Option HO->Prop
 | some (.lst _)=>True
 | some (.dK _)=>True
 | some (.dT _)=>True
 | some (.set _ _)=>True
 | some (.ins _ _ _)=>True
 | some (.ext _)=>True
 | _=>False
section
variable {P:Program}{w:World}{H:Hp}{h h':Heap}{x e:Addr}{o':HO}
theorem HOk.write (ok:HOk P w H h) (mu:Mut (H x)) (he:e=x\/H e=some (.own x)) (k:∀b u,b≠e->h.get? b=some u->h'.get? b=some u) (heo:∃u,h'.get? e=some u)
  (new:aQ P w (upd H x o') h' x o'):HOk P w (upd H x o') h':=fun b u q=>by
 have nown:∀c y,H c=some (.own y)->c≠x:=fun c y r z=>by subst z;rw [r] at mu;exact mu
 have ntup:∀c xs,H c=some (.tup xs)->c≠x:=fun c xs r z=>by subst z;rw [r] at mu;exact mu
 by_cases hb:b=x
 ·subst hb;rw [ah] at q;cases q;exact new
 ·rw [ai hb] at q
  by_cases hbe:b=e
  ·have q':H b=some (.own x):=by
    rcases he with z | z
    ·exact absurd (hbe.trans z) hb
    ·rw [hbe];exact z
   rw [q] at q';cases q'
   obtain⟨v,hv⟩:=heo
   exact⟨v,by rw [hbe];exact hv⟩
  ·refine (ok b u q).stay (fun c v hc r=>k c v ?_ r) (fun c r=>by rw [ai (nown c b r)];exact r) fun c xs r=>by rw [ai (ntup c xs r)];exact r
   rcases hc with rfl | hc
   ·exact hbe
   ·rintro rfl
    rcases he with z | z
    ·exact nown c b hc z
    ·rw [hc] at z;cases z;exact hb rfl
end
structure Un (fs ex:List Addr) (H H':Hp) (h h':Heap):Prop where
 keep:∀b o,h.get? b=some o->H b=none->b∉fs->b∉ex->h'.get? b=some o
 slot:∀b o,h.get? b=some o->H b=none->b∈fs->b∉ex->∃sl,h'.get? b=some { o with slots:=sl }
 free:∀b o,h.get? b=some o->H b=none->b∉ex->H' b=none
 there:∀b o,h.get? b=some o->b∉ex->∃o',h'.get? b=some o'
 tups:∀b xs,H b=some (.tup xs)->H' b=some (.tup xs)
 frzs:∀b o u,H b=some (.frz o u)->H' b=some (.frz o u)
 tbls:∀b ps,H b=some (.tbl ps)->∃more,H' b=some (.tbl (ps++more))
section
variable {fs fs' ex ex':List Addr}{H H1 H2:Hp}{h h1 h2 h':Heap}{a x e:Addr}{o:HO}
theorem Un.any (u:Un fs ex H H1 h h1) {b:Addr}{ob:Obj} (q:h.get? b=some ob) (n:H b=none) (hx:b∉ex):∃sl,h1.get? b=some { ob with slots:=sl }:=by
 by_cases hb:b∈fs
 ·exact u.slot b ob q n hb hx
 ·exact⟨ob.slots,u.keep b ob q n hb hx⟩
theorem Un.kept (k:∀b u,h.get? b=some u->h'.get? b=some u):Un fs ex H H h h' :=
 ⟨fun b ob q _ _ _=>k b ob q,fun b ob q _ _ _=>⟨ob.slots,k b ob q⟩,fun _ _ _ n _=>n,fun b ob q _=>⟨ob,k b ob q⟩,fun _ _ q=>q,fun _ _ _ q=>q,fun _ ps q=>⟨#[],by rw [q];simp⟩⟩
theorem Un.refl:Un fs ex H H h h:=Un.kept fun _ _ q=>q
theorem Un.laid (k:∀b u,h.get? b=some u->h'.get? b=some u) (hp:h.objs.size<=a) (hn:H a=none):Un fs ex H (upd H a o) h h' where
 keep:=fun b u q _ _ _=>k b u q
 slot:=fun b u q _ _ _=>⟨u.slots,k b u q⟩
 free:=fun b u q n _=>by rw [ai (Nat.ne_of_lt (Nat.lt_of_lt_of_le (Heap.lt_size q) hp))];exact n
 there:=fun b u q _=>⟨u,k b u q⟩
 tups:=fun b xs q=>by rw [ai (au q hn)];exact q
 frzs:=fun b u xs q=>by rw [ai (au q hn)];exact q
 tbls:=fun b ps q=>⟨#[],by rw [ai (au q hn),q];simp⟩
theorem Un.write (mu:Mut (H x)) (he:e=x\/H e=some (.own x)) (k:∀b u,b≠e->h.get? b=some u->h'.get? b=some u) (heo:∃u,h'.get? e=some u):Un fs ex H (upd H x o) h h':=by
 have hx:∀b,H b=none->b≠x:=fun b n z=>by subst z;rw [n] at mu;exact mu
 have hb:∀b,H b=none->b≠e:=fun b n z=>by
  subst z
  rcases he with r | r
  ·exact hx b n r
  ·rw [n] at r;cases r
 have hm:∀b u,H b=some u->¬ Mut (some u)->b≠x:=fun b u q nm z=>by subst z;rw [q] at mu;exact nm mu
 refine⟨fun b u q n _ _=>k b u (hb b n) q,fun b u q n _ _=>⟨u.slots,k b u (hb b n) q⟩,fun b u q n _=>by rw [ai (hx b n)];exact n,fun b u q _=>?_,
  fun b xs q=>by rw [ai (hm b _ q fun z=>z)];exact q,fun b u xs q=>by rw [ai (hm b _ q fun z=>z)];exact q,fun b ps q=>⟨#[],by rw [ai (hm b _ q fun z=>z),q];simp⟩⟩
 by_cases hbe:b=e
 ·subst hbe;exact heo
 ·exact⟨u,k b u hbe q⟩
end
noncomputable def trk (h:Heap) (H:Hp):List Addr:=(List.range h.objs.size).filter fun a=>(H a).isSome
noncomputable def dB (h:Heap) (H:Hp):Heap:=PySem.W.hideAll h (trk h H)
theorem qM (h:Heap) (H:Hp):(dB h H).objs.size=h.objs.size:=PySem.W.hideAll_size _ _
theorem rq {h:Heap}{H:Hp}{b:Addr}{o:Obj} (e:h.get? b=some o) (n:H b=none):(dB h H).get? b=some o :=
 PySem.W.hideAll_get _ e fun hm=>by
  have q:(H b).isSome=true:=(List.mem_filter.mp hm).2
  rw [n] at q;simp at q
theorem tF {h:Heap}{H:Hp}{b:Addr}{o:Obj} (e:(dB h H).get? b=some o):h.get? b=some o/\H b=none:=by
 have e':h.get? b=some o:=PySem.W.of_hideAll (trk h H) e
 refine⟨e',?_⟩
 cases q:H b with
 | none=>rfl
 | some x =>
  have hm:b∈trk h H:=List.mem_filter.mpr ⟨List.mem_range.mpr (Heap.lt_size e'),by simp [q]⟩
  have z:(dB h H).get? b=none:=PySem.W.hideAll_none (trk h H) hm
  rw [z] at e;cases e
noncomputable def sj (g h:Heap) (L:Addr):List (Addr×Obj):=(List.range h.objs.size).filterMap fun a=>if a=L\/(g.get? a).isSome=true then none else (h.get? a).map fun o=>(a,o)
noncomputable def rest (g h:Heap) (L d:Addr):List (Addr×Obj):=(sj g h L).filter fun p=>decide (p.1≠d)
structure Mod (K:PySem.W.Frag) (mg:Str->Option Value) (base:Heap):Prop where
 kin:K.In base
 glob:base.Ns mainGlobals mg
 blt:∃mb,base.Ns builtinsNs mb/\∀x:Str,x≠"__name__"->mb x=bootBuiltins x
 nolimit:base.NoLimit
structure Cx where
 prog:Program
 w:World
 K:PySem.W.Frag
 mg:Str->Option Value
 base:Heap
 A:Around
 N:List Str
 s₀:Shared
 H₀:Hp
 env:Env
 outer:List Env
 stack:List Env
 ex:List Addr
 fn:Str->Bool
 calm:Bool
 pn:List (Addr×Obj)
 xe:Value->Shared->Prop
noncomputable def frs (l:List Env):List Addr:=l.filterMap (·.frame)
noncomputable abbrev Cx.fs (X:Cx):List Addr:=frs X.outer
noncomputable def Vis (sc:Scope) (x:Str):Prop:=sc.names.lookup x=some .local\/sc.names.lookup x=some .cell\/sc.names.lookup x=some .free
noncomputable def Loc (sc:Scope) (x:Str):Prop:=sc.names.lookup x=some .local\/sc.names.lookup x=some .cell
noncomputable def Look (env:Env) (h:Heap) (m:Str->Option Value) (x:Str) (u:Value):Prop :=
 (env.kindOf x=some .local/\m x=some u)\/((env.kindOf x=some .cell\/env.kindOf x=some .free)/\∃c,env.cells.lookup x=some c/\h.IsCell c (some u))
structure Cx.Ok (X:Cx):Prop where
 mod:Mod X.K X.mg X.base
 kind:X.env.scope.kind=.function
 glob:X.env.globals=mainGlobals
 blt:X.env.builtins=builtinsNs
 above:X.s₀.heap.objs.size<=X.env.locals
 inj:∀x y c,X.env.cells.lookup x=some c->X.env.cells.lookup y=some c->x=y
 has:∀x,(X.env.kindOf x=some .cell\/X.env.kindOf x=some .free)->∃c,X.env.cells.lookup x=some c
 cab:∀x c,X.fn x=true->X.env.cells.lookup x=some c->X.s₀.heap.objs.size<=c
 hd:X.calm=true->X.A.handled=none
 frames:X.A.frames=some X.stack
 stk:X.stack=X.outer\/(X.stack=X.env::X.outer/\X.env.frame=some X.env.locals)
 exf:∀b∈X.ex,b≠X.env.locals/\∀x c,X.env.cells.lookup x=some c->c≠b
 bs:∀b o,X.base.get? b=some o->X.s₀.heap.get? b=some o/\X.H₀ b=none
 bsz:X.base.objs.size<=X.s₀.heap.objs.size
 noex:∀b o,X.base.get? b=some o->b∉X.ex
 exfs:∀b∈X.ex,b∉X.fs
 funs:X.s₀.heap.FunFrames X.base X.outer
 frf:∀b∈X.fs,X.H₀ b=none
structure Inv (X:Cx) (pins:List (Addr×Obj)) (σ:List (Option V)) (H:Hp) (s:Shared):Prop where
 ok:X.Ok
 os:s.os=X.s₀.os
 bare:AllBare s.gens
 base:Un X.fs X.ex X.H₀ H X.s₀.heap s.heap
 loc:∃m,s.heap.Ns X.env.locals m/\∀(i:Nat) (x:Str) (v:V),X.N[i]?=some x->σ[i]?=some (some v)->Vis X.env.scope x->∃u,RelV v u/\Look X.env s.heap m x u
 cell:∀x c,X.env.cells.lookup x=some c->∃v,s.heap.IsCell c v
 free:H X.env.locals=none
 freeC:∀x c,X.env.cells.lookup x=some c->H c=none
 pin:∀p∈X.pn++pins,s.heap.get? p.1=some p.2/\H p.1=none/\p.1≠X.env.locals/\p.1∉X.fs/\∀v,p.2.data≠.cell v
 hok:HOk X.prog X.w H s.heap
 len:σ.length=X.N.length
section
variable {X:Cx}{pins:List (Addr×Obj)}{σ:List (Option V)}{H H':Hp}{s:Shared}{h':Heap}
theorem Cx.Ok.nofr (ok:X.Ok) {b:Addr}{o:Obj} (e:X.base.get? b=some o):b∉X.fs:=fun hb=>by
 have:=(ok.funs.mem hb).1
 rw [e] at this;cases this
theorem Inv.bs (I:Inv X pins σ H s):∀b o,X.base.get? b=some o->s.heap.get? b=some o/\H b=none:=fun b o e =>
 ⟨I.base.keep b o (I.ok.bs b o e).1 (I.ok.bs b o e).2 (I.ok.nofr e) (I.ok.noex b o e),I.base.free b o (I.ok.bs b o e).1 (I.ok.bs b o e).2 (I.ok.noex b o e)⟩
theorem Inv.bk (I:Inv X pins σ H s):∀b o,X.base.get? b=some o->s.heap.get? b=some o:=fun b o e=>(I.bs b o e).1
theorem Inv.mod (I:Inv X pins σ H s):Mod X.K X.mg X.base:=I.ok.mod
theorem Inv.kIn (I:Inv X pins σ H s):X.K.In s.heap:=I.ok.mod.kin.keeps I.bk
theorem Inv.lt (I:Inv X pins σ H s):X.env.locals < s.heap.objs.size:=let ⟨_,hn,_⟩:=I.loc;hn.lt
theorem Inv.sz (I:Inv X pins σ H s):X.s₀.heap.objs.size<=s.heap.objs.size:=Nat.le_trans I.ok.above (Nat.le_of_lt I.lt)
theorem Inv.nofs (I:Inv X pins σ H s) {a:Addr} (h:s.heap.objs.size<=a):a∉X.fs:=fun hb=>by
 obtain⟨_,o,ho,_⟩:=I.ok.funs.mem hb
 exact absurd (Nat.lt_of_lt_of_le (Heap.lt_size ho) (Nat.le_trans I.sz h)) (Nat.lt_irrefl _)
theorem Inv.cne (I:Inv X pins σ H s):∀x c,X.env.cells.lookup x=some c->c≠X.env.locals:=fun x c e z=>by
 obtain⟨v,o,ho,hd⟩:=I.cell x c e
 obtain⟨m,⟨o',es,ep,ho',hd',_⟩,_⟩:=I.loc
 rw [z,ho'] at ho;cases ho;rw [hd'] at hd;cases hd
theorem Inv.funs (I:Inv X pins σ H s):s.heap.FunFrames X.base X.outer:=by
 have all:∀(l:List Env),(∀b∈frs l,b∈X.fs)->X.s₀.heap.FunFrames X.base l->s.heap.FunFrames X.base l:=by
  intro l
  induction l with
  | nil=>intro _ _;trivial
  | cons env r ih =>
   intro hs hl
   obtain⟨hk,⟨L,o,hf,hn,ho,hd⟩,hr⟩:=hl
   have hL:L∈X.fs:=hs L (by unfold frs;rw [List.filterMap_cons,hf];exact List.mem_cons_self)
   obtain⟨sl,e⟩:=I.base.slot L o ho (I.ok.frf L hL) hL fun z=>I.ok.exfs L z hL
   exact⟨hk,⟨L,_,hf,hn,e,hd⟩,ih (fun b hb=>hs b (by unfold frs;rw [List.filterMap_cons,hf];exact List.mem_cons_of_mem _ hb)) hr⟩
 exact all X.outer (fun _ hb=>hb) I.ok.funs
theorem Inv.stack (I:Inv X pins σ H s):s.heap.FunFrames X.base X.stack:=by
 rcases I.ok.stk with e | ⟨e,hf⟩
 ·rw [e];exact I.funs
 ·rw [e]
  obtain⟨m,hn,_⟩:=I.loc
  refine .cons (by rw [I.ok.kind];decide) hf hn ?_ I.funs
  exact Heap.get?_none_of_le (Nat.le_trans I.ok.bsz I.ok.above)
theorem Inv.stkSub (I:Inv X pins σ H s):∀b∈frs X.stack,b∈X.env.locals::X.fs:=fun b hb=>by
 rcases I.ok.stk with e | ⟨e,hf⟩
 ·rw [e] at hb;exact List.mem_cons_of_mem _ hb
 ·rw [e] at hb
  unfold frs at hb
  rw [List.filterMap_cons,hf] at hb
  exact hb
theorem Inv.stkFree (I:Inv X pins σ H s):∀b∈frs X.stack,H b=none:=fun b hb=>by
 rcases List.mem_cons.mp (I.stkSub b hb) with e | hb
 ·rw [e];exact I.free
 ·obtain⟨_,o,ho,_⟩:=I.ok.funs.mem hb
  exact I.base.free b o ho (I.ok.frf b hb) fun z=>I.ok.exfs b z hb
theorem Inv.step {g':Array GenState}{t':Nat}{d':Drawn}{ch:List Addr} (I:Inv X pins σ H s)
  (hch:∀b∈ch,(b∈X.ex\/X.s₀.heap.objs.size<=b)/\b≠X.env.locals/\(∀x c,X.env.cells.lookup x=some c->c≠b)/\∀p∈X.pn++pins,p.1≠b)
  (keep:∀b o,b≠X.env.locals->b∉X.fs->b∉ch->s.heap.get? b=some o->H b=none->h'.get? b=some o)
  (slot:∀b o,b≠X.env.locals->b∈X.fs->b∉ch->s.heap.get? b=some o->H b=none->∃sl,h'.get? b=some { o with slots:=sl }) (free:∀b o,b∉ch->s.heap.get? b=some o->H b=none->H' b=none)
  (there:∀b o,b∉ch->s.heap.get? b=some o->∃o',h'.get? b=some o')
  (tups:∀b xs,H b=some (.tup xs)->H' b=some (.tup xs)) (frzs:∀b o u,H b=some (.frz o u)->H' b=some (.frz o u)) (tbls:∀b ps,H b=some (.tbl ps)->∃more,H' b=some (.tbl (ps++more)))
  (ns:∀m,s.heap.Ns X.env.locals m->h'.Ns X.env.locals m) (hok:HOk X.prog X.w H' h') (hg:AllBare g') :
  Inv X pins σ H' { s with heap:=h',gens:=g',drawn:=d',toks:=t' }:=by
 have neL:∀b o,X.s₀.heap.get? b=some o->b≠X.env.locals:=fun b o e=>Nat.ne_of_lt (Nat.lt_of_lt_of_le (Heap.lt_size e) I.ok.above)
 have neC:∀b o,X.s₀.heap.get? b=some o->b∉X.ex->b∉ch:=fun b o e hx hb=>by
  rcases (hch b hb).1 with z | z
  ·exact hx z
  ·exact absurd (Nat.lt_of_lt_of_le (Heap.lt_size e) z) (Nat.lt_irrefl _)
 have cellK:∀x c,X.env.cells.lookup x=some c->∀v,s.heap.IsCell c v->h'.IsCell c v:=fun x c e v ⟨o,ho,hd⟩=>by
  have nch:c∉ch:=fun z=>(hch c z).2.2.1 x c e rfl
  by_cases hc:c∈X.fs
  ·obtain⟨sl,q⟩:=slot c o (I.cne x c e) hc nch ho (I.freeC x c e)
   exact⟨_,q,hd⟩
  ·exact⟨o,keep c o (I.cne x c e) hc nch ho (I.freeC x c e),hd⟩
 refine⟨I.ok,I.os,hg,⟨fun b o e n hb hx=>?_,fun b o e n hb hx=>?_,fun b o e n hx=>?_,fun b o e hx=>?_,fun b xs e=>tups b xs (I.base.tups b xs e),fun b o xs e=>frzs b o xs (I.base.frzs b o xs e),fun b ps e=>?_⟩,?_,fun x c e=>?_,?_,fun x c e=>?_,fun p hp=>?_,hok,I.len⟩
 ·exact keep b o (neL b o e) hb (neC b o e hx) (I.base.keep b o e n hb hx) (I.base.free b o e n hx)
 ·obtain⟨sl,e1⟩:=I.base.slot b o e n hb hx
  obtain⟨sl',e2⟩:=slot b _ (neL b o e) hb (neC b o e hx) e1 (I.base.free b o e n hx)
  exact⟨sl',e2⟩
 ·obtain⟨o',e1⟩:=I.base.there b o e hx
  exact free b o' (neC b o e hx) e1 (I.base.free b o e n hx)
 ·obtain⟨o',e1⟩:=I.base.there b o e hx
  exact there b o' (neC b o e hx) e1
 ·obtain⟨m1,e1⟩:=I.base.tbls b ps e
  obtain⟨m2,e2⟩:=tbls b _ e1
  exact⟨m1++m2,by rw [e2,Array.append_assoc]⟩
 ·obtain⟨m,hn,hl⟩:=I.loc
  refine⟨m,ns m hn,fun i x v e1 e2 e3=>?_⟩
  obtain⟨u,r,l⟩:=hl i x v e1 e2 e3
  refine⟨u,r,?_⟩
  rcases l with l | ⟨k,c,e,z⟩
  ·exact .inl l
  ·exact .inr ⟨k,c,e,cellK x c e _ z⟩
 ·obtain⟨v,z⟩:=I.cell x c e
  exact⟨v,cellK x c e v z⟩
 ·obtain⟨m,⟨o,_,_,ho,_⟩,_⟩:=I.loc
  exact free _ o (fun z=>(hch _ z).2.1 rfl) ho I.free
 ·obtain⟨v,o,ho,hd⟩:=I.cell x c e
  exact free c o (fun z=>(hch c z).2.2.1 x c e rfl) ho (I.freeC x c e)
 ·obtain⟨e,n,ne,nf,d⟩:=I.pin p hp
  have nch:p.1∉ch:=fun z=>(hch p.1 z).2.2.2 p hp rfl
  exact⟨keep p.1 p.2 ne nf nch e n,free p.1 p.2 nch e n,ne,nf,d⟩
theorem Inv.un {t':Nat} (I:Inv X pins σ H s) (u:Un X.fs [] H H' s.heap h') (hok:HOk X.prog X.w H' h'):Inv X pins σ H' { s with heap:=h',toks:=t' }:=by
 obtain⟨m,⟨o,es,ep,ho,r⟩,_⟩:=id I.loc
 obtain⟨sl,hL⟩:=u.any ho I.free (by simp)
 exact I.step (g':=s.gens) (d':=s.drawn) (ch:=[]) (fun _ z=>nomatch z) (fun b o _ hb _ e n=>u.keep b o e n hb (by simp)) (fun b o _ hb _ e n=>u.slot b o e n hb (by simp)) (fun b o _ e n=>u.free b o e n (by simp)) (fun b o _ e=>u.there b o e (by simp)) u.tups u.frzs u.tbls (fun m' hm=>by
  obtain⟨o',es',ep',ho',r'⟩:=hm
  rw [ho] at ho';cases ho'
  exact⟨_,es',ep',hL,r'⟩) hok I.bare
theorem Inv.call {g':Array GenState}{t':Nat}{d':Drawn}{ch:List Addr} (I:Inv X pins σ H s) (u:Un (frs X.stack) ch H H' s.heap h') (hok:HOk X.prog X.w H' h') (hg:AllBare g')
  (hch:∀b∈ch,(b∈X.ex\/X.s₀.heap.objs.size<=b)/\b≠X.env.locals/\(∀x c,X.env.cells.lookup x=some c->c≠b)/\∀p∈X.pn++pins,p.1≠b) :
  Inv X pins σ H' { s with heap:=h',gens:=g',drawn:=d',toks:=t' }:=by
 obtain⟨m,⟨o,es,ep,ho,r⟩,_⟩:=id I.loc
 obtain⟨sl,hL⟩:=u.any ho I.free fun z=>(hch _ z).2.1 rfl
 exact I.step (ch:=ch) hch (fun b o hL hb hc e n=>u.keep b o e n (fun z=>(List.mem_cons.mp (I.stkSub b z)).elim hL hb) hc) (fun b o _ _ hc e n=>u.any e n hc) (fun b o hc e n=>u.free b o e n hc) (fun b o hc e=>u.there b o e hc) u.tups u.frzs u.tbls (fun m' hm=>by
  obtain⟨o',es',ep',ho',r'⟩:=hm
  rw [ho] at ho';cases ho'
  exact⟨_,es',ep',hL,r'⟩) hok hg
theorem Inv.turned {t':Nat}{it:Addr} (I:Inv X pins σ H s) (k:∀b o,b≠it->s.heap.get? b=some o->h'.get? b=some o) (hn:H it=none) (hL:it≠X.env.locals)
  (h1:it∈X.ex\/X.s₀.heap.objs.size<=it) (h2:∀x c,X.env.cells.lookup x=some c->c≠it) (h3:∀p∈X.pn++pins,p.1≠it):Inv X pins σ H { s with heap:=h',toks:=t' }:=by
 have nit:∀b u,H b=some u->b≠it:=fun b u e z=>by rw [z,hn] at e;cases e
 refine I.step (g':=s.gens) (d':=s.drawn) (ch:=[it]) (fun b hb=>?_) (fun b o _ _ hc e _=>k b o (fun z=>hc (by simp [z])) e) (fun b o _ _ hc e _=>⟨o.slots,k b o (fun z=>hc (by simp [z])) e⟩) (fun _ _ _ _ n=>n)
  (fun b o hc e=>⟨o,k b o (fun z=>hc (by simp [z])) e⟩) (fun _ _ e=>e) (fun _ _ _ e=>e) (fun b ps e=>⟨#[],by rw [e];simp⟩) (fun m hm=>?_) (fun b u e=>?_) I.bare
 ·have e:b=it:=by simpa using hb
  subst e
  exact⟨h1,hL,h2,h3⟩
 ·obtain⟨o,es,ep,ho,r⟩:=hm
  exact⟨o,es,ep,k _ o (Ne.symm hL) ho,r⟩
 ·refine (I.hok b u e).stay (fun c v hc q=>k c v ?_ q) (fun _ q=>q) fun _ _ q=>q
  rcases hc with z | z
  ·rw [z];exact nit b u e
  ·exact nit c _ z
theorem Inv.tok (I:Inv X pins σ H s) (t:Nat):Inv X pins σ H { s with toks:=t }:=I.un (h':=s.heap) (t':=t) Un.refl I.hok
theorem Inv.kept {t':Nat} (I:Inv X pins σ H s) (k:∀b u,s.heap.get? b=some u->h'.get? b=some u):Inv X pins σ H { s with heap:=h',toks:=t' }:=I.un (Un.kept k) (I.hok.kept k)
theorem Inv.laid {a:Addr}{o:HO}{t':Nat} (I:Inv X pins σ H s) (k:∀b u,s.heap.get? b=some u->h'.get? b=some u) (hp:s.heap.objs.size<=a) (new:aQ X.prog X.w (upd H a o) h' a o) :
  Inv X pins σ (upd H a o) { s with heap:=h',toks:=t' }:=I.un (Un.laid k hp (I.hok.fresh hp)) (I.hok.laid k hp new)
theorem Inv.write {x e:Addr}{o:HO}{t':Nat} (I:Inv X pins σ H s) (mu:Mut (H x)) (he:e=x\/H e=some (.own x)) (k:∀b u,b≠e->s.heap.get? b=some u->h'.get? b=some u) (heo:∃u,h'.get? e=some u)
  (new:aQ X.prog X.w (upd H x o) h' x o):Inv X pins σ (upd H x o) { s with heap:=h',toks:=t' }:=I.un (Un.write mu he k heo) (I.hok.write mu he k heo new)
theorem Inv.pins_of {pins':List (Addr×Obj)} (I:Inv X pins σ H s) (h:∀p∈pins',s.heap.get? p.1=some p.2/\H p.1=none/\p.1≠X.env.locals/\p.1∉X.fs/\∀v,p.2.data≠.cell v):Inv X pins' σ H s :=
 ⟨I.ok,I.os,I.bare,I.base,I.loc,I.cell,I.free,I.freeC,fun p hp=>(List.mem_append.mp hp).elim (fun z=>I.pin p (List.mem_append_left _ z)) (h p),I.hok,I.len⟩
theorem iX {N:List Str} (hN:N.Nodup) {i j:Nat}{x:Str} (a:N[i]?=some x) (b:N[j]?=some x):i=j:=by
 obtain⟨h1,e1⟩:=List.getElem?_eq_some_iff.mp a
 obtain⟨h2,e2⟩:=List.getElem?_eq_some_iff.mp b
 exact (List.getElem_inj hN).mp (e1.trans e2.symm)
theorem iM {M:Model}{A:Around}{E:Value->Shared->Prop}{i:Nat}{x:Str}{v:V}{u:Value}{Q:Unit->Shared->Prop} (I:Inv X pins σ H s) (hN:X.N.Nodup) (hi:X.N[i]?=some x) (hx:Loc X.env.scope x) (r:RelV v u)
  (h:∀s',Inv X pins (σ.set i (some v)) H s'->(∃a,Heap.SameBut a s.heap s'.heap/\(a=X.env.locals\/X.env.cells.lookup x=some a))->Q () s') (hf:X.fn x=true\/X.env.scope.names.lookup x=some .local:=by first | exact .inl rfl | exact .inr rfl | assumption):wpAny M A (storeName X.env x u) Q E s:=by
 obtain⟨m,hn,hl⟩:=id I.loc
 have hcls:(X.env.scope.kind == .class || (X.env.scope.kind == .module && X.env.locals != X.env.globals))=false:=by rw [I.ok.kind];rfl
 have hiσ:i < σ.length:=by rw [I.len];exact (List.getElem?_eq_some_iff.mp hi).1
 have cne:=I.cne
 have tracked:∀{a:Addr}{h':Heap},(∃o,s.heap.get? a=some o/\H a=none)->Heap.SameBut a s.heap h'->HOk X.prog X.w H h':=fun {a h'} ha hs b ob e=>by
  obtain⟨_,_,hfree⟩:=ha
  refine (I.hok b ob e).stay (fun c w' hc q=>(hs.2 c ?_).trans q) (fun _ q=>q) fun _ _ q=>q
  rintro rfl
  rcases hc with rfl | hc
  ·rw [hfree] at e;cases e
  ·rw [hfree] at hc;cases hc
 rcases hx with hk | hk
 ·refine wpAny_storeName_local hk hn (fun h' hn' hs=>?_) hcls
  obtain⟨oL,_,_,hoL,_⟩:=id hn
  refine h _ ⟨I.ok,I.os,I.bare,⟨fun b o e n hb hx=>?_,fun b o e n hb hx=>?_,I.base.free,fun b o e hx=>?_,I.base.tups,I.base.frzs,I.base.tbls⟩,⟨_,hn',fun j y v' e1 e2 e3=>?_⟩,fun y c e=>?_,I.free,I.freeC,fun p hp=>?_,tracked ⟨oL,hoL,I.free⟩ hs,by simpa using I.len⟩ ⟨_,hs,.inl rfl⟩
  ·exact (hs.2 b (Nat.ne_of_lt (Nat.lt_of_lt_of_le (Heap.lt_size e) I.ok.above))).trans (I.base.keep b o e n hb hx)
  ·obtain⟨sl,e1⟩:=I.base.slot b o e n hb hx
   exact⟨sl,(hs.2 b (Nat.ne_of_lt (Nat.lt_of_lt_of_le (Heap.lt_size e) I.ok.above))).trans e1⟩
  ·obtain⟨o',e1⟩:=I.base.there b o e hx
   exact⟨o',(hs.2 b (Nat.ne_of_lt (Nat.lt_of_lt_of_le (Heap.lt_size e) I.ok.above))).trans e1⟩
  ·by_cases hj:j=i
   ·subst hj
    rw [hi] at e1;cases e1
    rw [List.getElem?_set_self hiσ] at e2
    cases e2
    exact⟨u,r,.inl ⟨hk,by simp⟩⟩
   ·rw [List.getElem?_set_ne (Ne.symm hj)] at e2
    obtain⟨u',r',q⟩:=hl j y v' e1 e2 e3
    refine⟨u',r',?_⟩
    rcases q with ⟨k,e⟩ | ⟨k,c,e,z⟩
    ·refine .inl ⟨k,?_⟩
     have:y≠x:=fun e=>hj (iX hN e1 (e ▸ hi))
     simp [this,e]
    ·exact .inr ⟨k,c,e,z.sameBut hs (cne y c e)⟩
  ·obtain⟨w',z⟩:=I.cell y c e
   exact⟨w',z.sameBut hs (cne y c e)⟩
  ·obtain⟨e,n,ne,nf,d⟩:=I.pin p hp
   exact⟨(hs.2 p.1 ne).trans e,n,ne,nf,d⟩
 ·have hfn:X.fn x=true:=by
   rcases hf with z | z
   ·exact z
   ·rw [z] at hk;cases hk
  obtain⟨c,hc⟩:=I.ok.has x (.inl hk)
  obtain⟨w',z⟩:=I.cell x c hc
  refine wpAny_storeName_cell I.ok.kind hk hc z (fun h' hc' hs=>?_)
  obtain⟨oc,hoc,hocd⟩:=id z
  refine h { s with heap:=h' } ⟨I.ok,I.os,I.bare,⟨fun b o e n hb hx=>?_,fun b o e n hb hx=>?_,I.base.free,fun b o e hx=>?_,I.base.tups,I.base.frzs,I.base.tbls⟩,⟨m,hn.sameBut hs (Ne.symm (cne x c hc)),fun j y v' e1 e2 e3=>?_⟩,fun y c' e=>?_,I.free,I.freeC,fun p hp=>?_,tracked ⟨oc,hoc,I.freeC x c hc⟩ hs,by simpa using I.len⟩ ⟨c,hs,.inr hc⟩
  ·exact (hs.2 b (Nat.ne_of_lt (Nat.lt_of_lt_of_le (Heap.lt_size e) (I.ok.cab x c hfn hc)))).trans (I.base.keep b o e n hb hx)
  ·obtain⟨sl,e1⟩:=I.base.slot b o e n hb hx
   exact⟨sl,(hs.2 b (Nat.ne_of_lt (Nat.lt_of_lt_of_le (Heap.lt_size e) (I.ok.cab x c hfn hc)))).trans e1⟩
  ·obtain⟨o',e1⟩:=I.base.there b o e hx
   exact⟨o',(hs.2 b (Nat.ne_of_lt (Nat.lt_of_lt_of_le (Heap.lt_size e) (I.ok.cab x c hfn hc)))).trans e1⟩
  ·by_cases hj:j=i
   ·subst hj
    rw [hi] at e1;cases e1
    rw [List.getElem?_set_self hiσ] at e2
    cases e2
    exact⟨u,r,.inr ⟨.inl hk,c,hc,hc'⟩⟩
   ·rw [List.getElem?_set_ne (Ne.symm hj)] at e2
    obtain⟨u',r',q⟩:=hl j y v' e1 e2 e3
    refine⟨u',r',?_⟩
    rcases q with q | ⟨k,c',e,z'⟩
    ·exact .inl q
    ·refine .inr ⟨k,c',e,z'.sameBut hs ?_⟩
     rintro rfl
     exact hj (iX hN e1 (I.ok.inj _ _ _ e hc ▸ hi))
  ·by_cases hcc:c'=c
   ·subst hcc;exact⟨_,hc'⟩
   ·obtain⟨w2,z2⟩:=I.cell y c' e
    exact⟨w2,z2.sameBut hs hcc⟩
  ·obtain⟨e,n,ne,nf,d⟩:=I.pin p hp
   refine⟨(hs.2 p.1 ?_).trans e,n,ne,nf,d⟩
   intro q
   rw [q,hoc] at e
   have q':oc=p.2:=Option.some.inj e
   exact d w' (by rw [<- q'];exact hocd)
theorem fC {M:Model}{A:Around}{E:Value->Shared->Prop}{i:Nat}{x:Str}{v:V}{u:Value}{Q:Unit->Shared->Prop} (I:Inv X pins σ H s) (hN:X.N.Nodup) (hi:X.N[i]?=some x) (hx:Loc X.env.scope x) (r:RelV v u)
  (h:∀s',Inv X pins (σ.set i (some v)) H s'->Q () s') (hf:X.fn x=true\/X.env.scope.names.lookup x=some .local:=by first | exact .inl rfl | exact .inr rfl | assumption):wpAny M A (storeName X.env x u) Q E s :=
 iM I hN hi hx r (fun s' I' _=>h s' I') hf
theorem Inv.call' {s':Shared}{ch:List Addr} (I:Inv X pins σ H s) (ho:s'.os=s.os) (u:Un (frs X.stack) ch H H' s.heap s'.heap) (hok:HOk X.prog X.w H' s'.heap) (hg:AllBare s'.gens)
  (hch:∀b∈ch,(b∈X.ex\/X.s₀.heap.objs.size<=b)/\b≠X.env.locals/\(∀x c,X.env.cells.lookup x=some c->c≠b)/\∀p∈X.pn++pins,p.1≠b):Inv X pins σ H' s':=by
 obtain⟨h',g',d',t',o'⟩:=s'
 have e:o'=s.os:=ho
 subst e
 exact I.call (g':=g') (t':=t') (d':=d') u hok hg hch
end
noncomputable abbrev XK:=Value->Option Addr->Hp->Prop
noncomputable abbrev St:=List (Option V)
noncomputable abbrev VK:=V->Hp->Prop
noncomputable abbrev TE:=St->Hp->VK->Prop
noncomputable abbrev TT:=St->Hp->(Bool->Hp->Prop)->Prop
noncomputable abbrev TA:=St->Hp->(List V->Hp->Prop)->Prop
structure Ends where
 nx:St->Hp->Prop
 rt:VK
 bk:St->Hp->Prop:=fun _ _=>False
 ct:St->Hp->Prop:=fun _ _=>False
noncomputable abbrev TS:=Ends->St->Hp->Prop
noncomputable def EP (X:Cx) (pins:List (Addr×Obj)) (σ:St) (Q:VK) (u:Value) (s':Shared):Prop:=∃v H',Inv X pins σ H' s'/\RelV v u/\Q v H'
noncomputable def TP (X:Cx) (pins:List (Addr×Obj)) (σ:St) (Q:Bool->Hp->Prop) (b:Bool) (s':Shared):Prop:=∃H',Inv X pins σ H' s'/\Q b H'
noncomputable def AP (X:Cx) (pins:List (Addr×Obj)) (σ:St) (Q:List V->Hp->Prop) (us:List Value) (s':Shared):Prop:=∃vs H',Inv X pins σ H' s'/\ar vs us/\Q vs H'
noncomputable def SP (X:Cx) (pins:List (Addr×Obj)) (D:Ends) (f:Flow) (s':Shared):Prop :=
 match f with
 | .next=>∃σ' H',Inv X pins σ' H' s'/\D.nx σ' H'
 | .brk=>∃σ' H',Inv X pins σ' H' s'/\D.bk σ' H'
 | .cont=>∃σ' H',Inv X pins σ' H' s'/\D.ct σ' H'
 | .ret u=>∃v σ' H',Inv X pins σ' H' s'/\RelV v u/\D.rt v H'
noncomputable def PE (X:Cx) (e:Expr) (t:TE):Prop :=
 ∀(pins:List (Addr×Obj)) (s:Shared) (σ:St) (H:Hp) (Q:VK),Inv X pins σ H s->t σ H Q->wpAny (model X.prog X.w) X.A (eval e X.env) (EP X pins σ Q) X.xe s
noncomputable def PT (X:Cx) (e:Expr) (t:TT):Prop :=
 ∀(pins:List (Addr×Obj)) (s:Shared) (σ:St) (H:Hp) (Q:Bool->Hp->Prop),Inv X pins σ H s->t σ H Q->wpAny (model X.prog X.w) X.A (isTrue e X.env (eval e X.env)) (TP X pins σ Q) X.xe s
noncomputable def PW (X:Cx) (e:Expr) (t:TT):Prop :=
 ∀(whole:Sem Value) (pins:List (Addr×Obj)) (s:Shared) (σ:St) (H:Hp) (Q:Bool->Hp->Prop),Inv X pins σ H s->t σ H Q->wpAny (model X.prog X.w) X.A (isTrue e X.env whole) (TP X pins σ Q) X.xe s
theorem PW.pt {X:Cx}{e:Expr}{t:TT} (h:PW X e t):PT X e t:=h _
noncomputable def PA (X:Cx) (es:List Expr) (t:TA):Prop :=
 ∀(pos:Pos) (pins:List (Addr×Obj)) (s:Shared) (σ:St) (H:Hp) (Q:List V->Hp->Prop),Inv X pins σ H s->t σ H Q->wpAny (model X.prog X.w) X.A (spliced (backTo pos (starEach es X.env))) (AP X pins σ Q) X.xe s
noncomputable def PS (X:Cx) (st:Stmt) (t:TS):Prop :=
 ∀(pins:List (Addr×Obj)) (s:Shared) (σ:St) (H:Hp) (D:Ends),Inv X pins σ H s->t D σ H->wpAny (model X.prog X.w) X.A (exec st X.env) (SP X pins D) X.xe s
noncomputable def PSs (X:Cx) (st:List Stmt) (t:TS):Prop :=
 ∀(pins:List (Addr×Obj)) (s:Shared) (σ:St) (H:Hp) (D:Ends),Inv X pins σ H s->t D σ H->wpAny (model X.prog X.w) X.A (execs st X.env) (SP X pins D) X.xe s
theorem thn {α:Type}{t:Sem α}{Q Q':α->Shared->Prop}{M:Model}{A:Around}{E:Value->Shared->Prop}{s:Shared} (h:wpAny M A t Q E s) (hQ:∀a s,Q a s->Q' a s):wpAny M A t Q' E s:=wpAny_mono h hQ fun _ _ x=>x
section
variable {X:Cx}
noncomputable def bZ (i:Nat):TE:=fun σ H Q=>∃v,σ[i]?=some (some v)/\Q v H
noncomputable def tC (v:V):TE:=fun _ H Q=>Q v H
theorem tS {i:Nat}{x:Str}{pos:Pos} (hN:X.N[i]?=some x) (hv:Vis X.env.scope x) (hd:(x == ("__debug__":Str))=false:=by decide) (hcd:(x == ("__classdict__":Str))=false:=by decide):PE X (.Name x pos) (bZ i):=by
 intro pins s σ H Q I h
 obtain⟨v,e,h⟩:=h
 obtain⟨m,hn,hl⟩:=I.loc
 obtain⟨u,r,l⟩:=hl i x v hN e hv
 have fin:EP X pins σ Q u s:=⟨v,H,I,r,h⟩
 rcases l with ⟨hk,hm⟩ | ⟨hk,c,hc,hcell⟩
 ·exact wpAny_Name (wpAny_loadName_local I.ok.kind hk hn hm fin) hd
 ·rcases hk with hk | hk
  ·exact wpAny_Name (wpAny_loadName_cell I.ok.kind hk hc hcell fin) hd
  ·exact wpAny_Name (wpAny_loadName_free I.ok.kind hk hc hcell fin hcd) hd
theorem ak {i j pos}:PE X (.Constant (.int i) j pos) (tC (.int i)):=fun _ _ _ H _ I h=>wpAny_Constant_int ⟨.int i,H,I.tok _,⟨_,rfl⟩,h⟩
theorem cy {b j pos}:PE X (.Constant (.bool b) j pos) (tC (.bl b)):=fun _ _ _ H _ I h=>Constant_bool ⟨.bl b,H,I,rfl,h⟩
theorem cu {j pos}:PE X (.Constant .none j pos) (tC .non):=fun _ _ _ H _ I h=>Constant_none ⟨.non,H,I,rfl,h⟩
theorem av {x j pos}:PE X (.Constant (.str x) j pos) (tC (.str x)):=fun _ _ _ H _ I h=>Calls.Constant_str ⟨.str x,H,I.tok _,⟨_,rfl⟩,h⟩
noncomputable def Gl (X:Cx) (x:Str):Prop:=X.env.kindOf x=some .globalImplicit
theorem eX {E:Value->Shared->Prop}{pins:List (Addr×Obj)}{s:Shared}{σ:St}{H:Hp}{x:Str}{u:Value}{pos:Pos}{Q:Value->Shared->Prop} (I:Inv X pins σ H s) (hg:Gl X x) (hm:X.mg x=some u) (h:Q u s)
  (hd:(x == ("__debug__":Str))=false:=by decide):wpAny (model X.prog X.w) X.A (eval (.Name x pos) X.env) Q E s :=
 Calls.Name_function_global I.ok.kind hg (Calls.loadGlobal_global (by rw [I.ok.glob];exact I.mod.glob.keeps I.bk) hm h) hd
theorem fN {E:Value->Shared->Prop}{pins:List (Addr×Obj)}{s:Shared}{σ:St}{H:Hp}{x:Str}{u:Value}{pos:Pos}{Q:Value->Shared->Prop} (I:Inv X pins σ H s) (hg:Gl X x) (hm:X.mg x=none) (hv:bootBuiltins x=some u) (h:Q u s)
  (hn:x≠"__name__":=by decide) (hd:(x == ("__debug__":Str))=false:=by decide):wpAny (model X.prog X.w) X.A (eval (.Name x pos) X.env) Q E s:=by
 obtain⟨mb,h1,h2⟩:=I.mod.blt
 exact Calls.Name_function_global I.ok.kind hg (Calls.loadGlobal_builtin (by rw [I.ok.glob];exact I.mod.glob.keeps I.bk) hm (by rw [I.ok.blt];exact h1.keeps I.bk) ((h2 x hn).trans hv) h) hd
theorem cq {x:Str}{v:V}{u:Value}{pos:Pos} (hg:Gl X x) (hm:X.mg x=some u) (r:RelV v u) (hd:(x == ("__debug__":Str))=false:=by decide):PE X (.Name x pos) (tC v) :=
 fun _ _ _ H _ I h=>eX I hg hm ⟨v,H,I,r,h⟩ hd
theorem dn {x:Str}{v:V}{u:Value}{pos:Pos} (hg:Gl X x) (hm:X.mg x=none) (hv:bootBuiltins x=some u) (r:RelV v u) (hn:x≠"__name__":=by decide) (hd:(x == ("__debug__":Str))=false:=by decide):PE X (.Name x pos) (tC v) :=
 fun _ _ _ H _ I h=>fN I hg hm hv ⟨v,H,I,r,h⟩ hn hd
variable {a b:Expr}{ta tb:TE}{pos:Pos}
noncomputable def tB (t:TE):TT:=fun σ H Q=>t σ H fun x H1=>∃c,x=.bl c/\Q c H1
theorem bN {e:Expr}{t:TE} (h:PE X e t) (he:∀whole,isTrue e X.env whole=(do let v <- whole;standAt e.pos;holding [v] (truthy v)):=by intro _;rfl):PT X e (tB t):=by
 intro pins s σ H Q I hw
 refine isTrue_plain (thn (h pins s σ H _ I hw) fun v s1 ⟨x,H1,I1,r1,q1⟩=>?_) (he _)
 obtain⟨d,rfl,q⟩:=q1
 cases r1
 exact wpAny_truthy_bool ⟨H1,I1,q⟩
variable {tA tB':TT}{rest:List Expr}
noncomputable def jL (t u:TT):TT:=fun σ H Q=>t σ H fun c H1=>if c=true then u σ H1 Q else Q false H1
noncomputable def tOr (t u:TT):TT:=fun σ H Q=>t σ H fun c H1=>if c=true then Q true H1 else u σ H1 Q
noncomputable def vo (t:TT):TT:=fun σ H Q=>t σ H fun c H1=>Q (!c) H1
theorem eY (ha:PT X a tA):PW X (.BoolOp .And [a] pos) tA:=by
 intro wh pins s σ H Q I h
 refine isTrue_and (thn (ha pins s σ H Q I h) fun c s1 e=>?_)
 cases c with
 | true=>exact isTrue_and_nil e
 | false=>exact e
theorem cP (ha:PT X a tA):PW X (.BoolOp .Or [a] pos) tA:=by
 intro wh pins s σ H Q I h
 refine isTrue_or (thn (ha pins s σ H Q I h) fun c s1 e=>?_)
 cases c with
 | false=>exact isTrue_or_nil e
 | true=>exact e
theorem dO (ha:PT X a tA) (hb:PW X (.BoolOp .And (b::rest) pos) tB'):PW X (.BoolOp .And (a::b::rest) pos) (jL tA tB'):=by
 intro wh pins s σ H Q I h
 refine isTrue_and (thn (ha pins s σ H _ I h) fun c s1 ⟨H1,I1,q1⟩=>?_)
 cases c with
 | true=>exact hb wh pins s1 σ H1 Q I1 q1
 | false=>exact⟨H1,I1,q1⟩
theorem bW (ha:PT X a tA) (hb:PW X (.BoolOp .Or (b::rest) pos) tB'):PW X (.BoolOp .Or (a::b::rest) pos) (tOr tA tB'):=by
 intro wh pins s σ H Q I h
 refine isTrue_or (thn (ha pins s σ H _ I h) fun c s1 ⟨H1,I1,q1⟩=>?_)
 cases c with
 | true=>exact⟨H1,I1,q1⟩
 | false=>exact hb wh pins s1 σ H1 Q I1 q1
theorem bQ (ha:PT X a tA):PT X (.UnaryOp .Not a pos) (vo tA):=by
 intro pins s σ H Q I h
 exact isTrue_not (ha pins s σ H (fun c H1=>Q (!c) H1) I h)
noncomputable def uM (ta tb:TE):TE:=fun σ H Q=>ta σ H fun x H1=>∃c,x=.bl c/\if c=true then tb σ H1 Q else Q (.bl false) H1
noncomputable def uL (ta:TE):TE:=fun σ H Q=>ta σ H fun x H1=>∃c,x=.bl c/\Q (.bl (!c)) H1
theorem fe {op}{t:TE} (h:PE X a t):PE X (.BoolOp op [a] pos) t:=fun pins s σ H Q I hw=>BoolOp_one (h pins s σ H Q I hw)
theorem dq (ha:PE X a ta) (hb:PE X (.BoolOp .And (b::rest) pos) tb):PE X (.BoolOp .And (a::b::rest) pos) (uM ta tb):=by
 intro pins s σ H Q I h
 refine BoolOp_and (thn (ha pins s σ H _ I h) fun v s1 ⟨x,H1,I1,r1,q1⟩=>?_)
 obtain⟨c,rfl,q1⟩:=q1
 cases r1
 refine wpAny_truthy_bool ?_
 cases c with
 | true=>exact hb pins s1 σ H1 Q I1 q1
 | false=>exact⟨.bl false,H1,I1,rfl,q1⟩
theorem uA (ha:PE X a ta):PE X (.UnaryOp .Not a pos) (uL ta):=by
 intro pins s σ H Q I h
 refine UnaryOp_ (thn (ha pins s σ H _ I h) fun v s1 ⟨x,H1,I1,r1,q1⟩=>?_)
 obtain⟨c,rfl,q1⟩:=q1
 cases r1
 exact not_of (wpAny_truthy_bool ⟨.bl (!c),H1,I1,rfl,q1⟩)
noncomputable def tIf (t:TT) (ta tb:TE):TE:=fun σ H Q=>t σ H fun c H1=>if c=true then ta σ H1 Q else tb σ H1 Q
theorem lE {c:Expr} (hc:PT X c tA) (ha:PE X a ta) (hb:PE X b tb):PE X (.IfExp c a b pos) (tIf tA ta tb):=by
 intro pins s σ H Q I h
 refine wpAny_IfExp (thn (hc pins s σ H _ I h) fun d s1 ⟨H1,I1,q1⟩=>?_)
 cases d with
 | true=>exact ha pins s1 σ H1 Q I1 q1
 | false=>exact hb pins s1 σ H1 Q I1 q1
end
noncomputable def SqL (K:PySem.W.Frag) (H:Hp) (a:Addr) (xs:List V):Prop :=
 Rd H a (.lst xs) \/
  ∃(o:Obj) (its:Array Value) (n:Nat),K.lookup a=some o/\o.cls=.type "list"/\o.dict=none/\o.data=.seq its n/\its.size<=sizeLine/\ar xs its.toList
noncomputable def SqT (K:PySem.W.Frag) (H:Hp) (a:Addr) (xs:List V):Prop :=
 Rd H a (.tup xs) \/
  ∃(o:Obj) (its:Array Value) (n:Nat),K.lookup a=some o/\o.cls=.type "tuple"/\o.data=.seq its n/\its.size<=sizeLine/\ar xs its.toList
noncomputable def vp:Value->Option V
 | .none=>some .non
 | .bool b=>some (.bl b)
 | .int i _=>some (.int i)
 | .str x _=>some (.str x)
 | .bytes b _=>some (.byt b)
 | .float b _=>some (.flt b)
 | .ref a=>some (.ref a)
 | .type n=>some (.ty n)
 | _=>none
theorem RelV.abs {x:V}{u:Value} (r:RelV x u):vp u=some x:=by
 cases x with
 | non=>cases r;rfl
 | bl _=>cases r;rfl
 | int _=>obtain⟨t,rfl⟩:=r;rfl
 | str _=>obtain⟨t,rfl⟩:=r;rfl
 | byt _=>obtain⟨t,rfl⟩:=r;rfl
 | flt _=>obtain⟨t,rfl⟩:=r;rfl
 | ref _=>cases r;rfl
 | ty _=>cases r;rfl
theorem RelV.inj {x y:V}{u:Value} (r:RelV x u) (q:RelV y u):x=y:=Option.some.inj (r.abs.symm.trans q.abs)
theorem ar.inj:∀{xs ys:List V}{us:List Value},ar xs us->ar ys us->xs=ys
 | _,_,_,.nil,.nil=>rfl
 | _,_,_,.cons r t,.cons r' t'=>by rw [r.inj r',ar.inj t t']
section
variable {X:Cx}{pins:List (Addr×Obj)}{σ:St}{H:Hp}{s:Shared}{a:Addr}{xs ys:List V}
theorem SqL.of {K:PySem.W.Frag} (h:H a=some (.lst xs)):SqL K H a xs:=.inl (.inl h)
theorem SqT.of {K:PySem.W.Frag} (h:H a=some (.tup xs)):SqT K H a xs:=.inl (.inl h)
theorem Inv.list (I:Inv X pins σ H s) (h:SqL X.K H a xs):∃its:List Value,ar xs its/\PlainL s.heap a its.toArray/\xs.length<=sizeLine:=by
 rcases h with h | ⟨o,its,n,hk,hc,hd,hs,hz,r⟩
 ·obtain⟨z,its,n,r,e⟩:=h.ok I.hok
  exact⟨its,r,⟨_,n,e,rfl,rfl,rfl⟩,z⟩
 ·refine⟨its.toList,r,⟨o,n,I.kIn a o hk,hc,hd,by simpa using hs⟩,?_⟩
  have e:=r.length
  simp only [Array.length_toList] at e
  omega
theorem Inv.tuple (I:Inv X pins σ H s) (h:SqT X.K H a xs):∃its:List Value,ar xs its/\IsTup s.heap a its.toArray/\xs.length<=sizeLine:=by
 rcases h with h | ⟨o,its,n,hk,hc,hs,hz,r⟩
 ·obtain⟨z,its,r,p⟩:=h.ok I.hok
  exact⟨its,r,p,z⟩
 ·refine⟨its.toList,r,⟨o,I.kIn a o hk,hc,n,by simpa using hs⟩,?_⟩
  have e:=r.length
  simp only [Array.length_toList] at e
  omega
theorem Inv.list_inj (I:Inv X pins σ H s) (h:SqL X.K H a xs) (h':SqL X.K H a ys):xs=ys:=by
 obtain⟨its,r,⟨o,n,e,_,_,d⟩,_⟩:=I.list h
 obtain⟨its',r',⟨o',n',e',_,_,d'⟩,_⟩:=I.list h'
 rw [e] at e';cases e'
 rw [d] at d'
 injection d' with d1 _
 have:its=its':=by simpa using congrArg Array.toList d1
 subst this
 exact r.inj r'
theorem Inv.tuple_inj (I:Inv X pins σ H s) (h:SqT X.K H a xs) (h':SqT X.K H a ys):xs=ys:=by
 obtain⟨its,r,⟨o,e,_,n,d⟩,_⟩:=I.tuple h
 obtain⟨its',r',⟨o',e',_,n',d'⟩,_⟩:=I.tuple h'
 rw [e] at e';cases e'
 rw [d] at d'
 injection d' with d1 _
 have:its=its':=by simpa using congrArg Array.toList d1
 subst this
 exact r.inj r'
end
noncomputable abbrev Cx.wish (X:Cx) (E:Value->Shared->Prop):Cx:={ X with xe:=E }
noncomputable abbrev Cx.nox (X:Cx):Cx:=X.wish fun _ _=>False
theorem Cx.Ok.wish {X:Cx} (ok:X.Ok) (E:Value->Shared->Prop):(X.wish E).Ok :=
 ⟨ok.mod,ok.kind,ok.glob,ok.blt,ok.above,ok.inj,ok.has,ok.cab,ok.hd,ok.frames,ok.stk,ok.exf,ok.bs,ok.bsz,ok.noex,ok.exfs,ok.funs,ok.frf⟩
theorem Cx.Ok.unwish {X:Cx}{E:Value->Shared->Prop} (ok:(X.wish E).Ok):X.Ok :=
 ⟨ok.mod,ok.kind,ok.glob,ok.blt,ok.above,ok.inj,ok.has,ok.cab,ok.hd,ok.frames,ok.stk,ok.exf,ok.bs,ok.bsz,ok.noex,ok.exfs,ok.funs,ok.frf⟩
section
variable {X:Cx}{pins:List (Addr×Obj)}{σ:St}{H:Hp}{s:Shared}{E:Value->Shared->Prop}
theorem Inv.wish (I:Inv X pins σ H s) (E:Value->Shared->Prop):Inv (X.wish E) pins σ H s:=⟨I.ok.wish E,I.os,I.bare,I.base,I.loc,I.cell,I.free,I.freeC,I.pin,I.hok,I.len⟩
theorem Inv.unwish (I:Inv (X.wish E) pins σ H s):Inv X pins σ H s:=⟨I.ok.unwish,I.os,I.bare,I.base,I.loc,I.cell,I.free,I.freeC,I.pin,I.hok,I.len⟩
theorem SP.unwish {D:Ends}{f:Flow}{s':Shared} (h:SP (X.wish E) pins D f s'):SP X pins D f s':=by
 cases f with
 | next=>obtain⟨σ',H',I,q⟩:=h;exact⟨σ',H',I.unwish,q⟩
 | brk=>obtain⟨σ',H',I,q⟩:=h;exact⟨σ',H',I.unwish,q⟩
 | cont=>obtain⟨σ',H',I,q⟩:=h;exact⟨σ',H',I.unwish,q⟩
 | ret u=>obtain⟨v,σ',H',I,r,q⟩:=h;exact⟨v,σ',H',I.unwish,r,q⟩
theorem PSs.nox {st:List Stmt}{t:TS} (h:PSs X.nox st t):PSs X st t:=fun pins s σ H D I hw =>
 wpAny_mono (h pins s σ H D (I.wish _) hw) (fun _ _ q=>q.unwish) fun _ _ z=>False.elim z
end
section
variable {X:Cx}{st:Stmt}{rest:List Stmt}{t u:TS}{e:Expr}{te:TE}{pos:Pos}
noncomputable def gZ:TS:=fun D σ H=>D.nx σ H
noncomputable def f6 (t u:TS):TS:=fun D σ H=>t { D with nx:=u D } σ H
theorem bp:PSs X [] gZ:=fun _ _ σ H _ I h=>wpAny_execs_nil ⟨σ,H,I,h⟩
theorem aq (h1:PS X st t) (h2:PSs X rest u):PSs X (st::rest) (f6 t u):=by
 intro pins s σ H D I h
 refine wpAny_execs_cons (thn (h1 pins s σ H { D with nx:=u D } I h) fun f s1 q=>?_)
 cases f with
 | next =>
  obtain⟨σ',H',I',q⟩:=q
  exact h2 pins s1 σ' H' D I' q
 | ret v=>exact q
 | brk=>exact q
 | cont=>exact q
theorem aw (h1:PS X st t):PSs X [st] t:=by
 intro pins s σ H D I h
 refine wpAny_execs_cons (thn (h1 pins s σ H D I h) fun f s1 q=>?_)
 cases f with
 | next=>exact wpAny_execs_nil q
 | ret v=>exact q
 | brk=>exact q
 | cont=>exact q
theorem Inv.quiet {pins:List (Addr×Obj)}{σ:St}{H:Hp}{s:Shared} (I:Inv X pins σ H s):interactive X.env=false:=by simp [interactive,I.ok.kind]
noncomputable def uS (te:TE):TS:=fun D σ H=>te σ H fun _ H1=>D.nx σ H1
theorem da (he:PE X e te) (hs:swapsWith e none pos.line X.env=pure false:=by rfl):PS X (.Expr e pos) (uS te):=by
 intro pins s σ H D I h
 exact wpAny_Expr_any (thn (he pins s σ H _ I h) fun v s1 ⟨x,H1,I1,r1,q1⟩=>⟨σ,H1,I1,q1⟩) I.quiet hs
noncomputable def ij (te:TE):TS:=fun D σ H=>te σ H D.rt
theorem aM (he:PE X e te):PS X (.Return (some e) pos) (ij te):=by
 intro pins s σ H D I h
 exact wpAny_Return_some (thn (he pins s σ H _ I h) fun v s1 ⟨x,H1,I1,r1,q1⟩=>⟨x,σ,H1,I1,r1,q1⟩)
noncomputable def iu (c:TT) (t u:TS):TS:=fun D σ H=>c σ H fun b H1=>if b=true then t D σ H1 else u D σ H1
theorem bh {c:Expr}{a b:List Stmt}{tc:TT} (hc:PT X c tc) (ha:PSs X a t) (hb:PSs X b u):PS X (.If c a b pos) (iu tc t u):=by
 intro pins s σ H D I h
 refine wpAny_If (thn (hc pins s σ H _ I h) fun d s1 ⟨H1,I1,q1⟩=>?_)
 cases d with
 | true=>exact ha pins s1 σ H1 D I1 q1
 | false=>exact hb pins s1 σ H1 D I1 q1
noncomputable def uC:TS:=fun _ _ _=>False
theorem kK {sts:List Stmt}:PSs X sts uC:=fun _ _ _ _ _ _ h=>h.elim
end
noncomputable abbrev TG:=V->St->Hp->(St->Hp->Prop)->Prop
noncomputable abbrev TGs:=List V->St->Hp->(St->Hp->Prop)->Prop
noncomputable def PG (X:Cx) (target:Expr) (t:TG):Prop :=
 ∀(pins:List (Addr×Obj)) (s:Shared) (σ:St) (H:Hp) (v:V) (u:Value) (Q:St->Hp->Prop),Inv X pins σ H s->RelV v u->t v σ H Q ->
  wpAny (model X.prog X.w) X.A (assign target X.env u) (fun _ s'=>∃σ' H',Inv X pins σ' H' s'/\Q σ' H') X.xe s
noncomputable def PGs (X:Cx) (ts:List Expr) (t:TGs):Prop :=
 ∀(pins:List (Addr×Obj)) (s:Shared) (σ:St) (H:Hp) (vs:List V) (us:List Value) (Q:St->Hp->Prop),Inv X pins σ H s->ar vs us->t vs σ H Q ->
  wpAny (model X.prog X.w) X.A (assignInOrder ((assignEach ts X.env).map (·.2)) us) (fun _ s'=>∃σ' H',Inv X pins σ' H' s'/\Q σ' H') X.xe s
noncomputable abbrev jS:=V->V->V->Hp->(Hp->Prop)->Prop
noncomputable def nK (X:Cx) (t:jS):Prop :=
 ∀(pins:List (Addr×Obj)) (s:Shared) (σ:St) (H:Hp) (o i v:V) (ov iv u:Value) (Q:Hp->Prop),Inv X pins σ H s->RelV o ov->RelV i iv->RelV v u->t o i v H Q ->
  wpAny (model X.prog X.w) X.A (setItem ov iv u) (fun _ s'=>∃H',Inv X pins σ H' s'/\Q H') X.xe s
section
variable {X:Cx}{pos:Pos}
noncomputable def b8 (i:Nat):TG:=fun v σ H Q=>Q (σ.set i (some v)) H
theorem bw {i:Nat}{x:Str} (hN:X.N.Nodup) (hi:X.N[i]?=some x) (hx:Loc X.env.scope x) (hf:X.fn x=true\/X.env.scope.names.lookup x=some .local:=by first | exact .inl rfl | exact .inr rfl | assumption):PG X (.Name x pos) (b8 i):=by
 intro pins s σ H v u Q I r h
 exact wpAny_assign_Name (fC I hN hi hx r (fun s' I'=>⟨_,H,I',h⟩) hf)
noncomputable def vz:TGs:=fun vs σ H Q=>vs=[]/\Q σ H
noncomputable def uT (t:TG) (u:TGs):TGs:=fun vs σ H Q=>∃v r,vs=v::r/\t v σ H fun σ' H'=>u r σ' H' Q
theorem fG:PGs X [] vz:=by
 intro pins s σ H vs us Q I r h
 obtain⟨e,h⟩:=h
 subst e
 cases r
 exact assignInOrder_nil ⟨σ,H,I,h⟩
theorem cm {e:Expr}{es:List Expr}{t:TG}{u:TGs} (h1:PG X e t) (h2:PGs X es u)
  (hs:(assignEach (e::es) X.env).map (·.2)=assign e X.env::(assignEach es X.env).map (·.2):=by rfl):PGs X (e::es) (uT t u):=by
 intro pins s σ H vs us Q I r h
 obtain⟨v,vr,e1,h⟩:=h
 subst e1
 cases r with
 | cons r rr =>
  rw [hs]
  refine assignInOrder_cons (thn (h1 pins s σ H _ _ _ I r h) fun _ s1 ⟨σ1,H1,I1,q1⟩=>?_)
  exact h2 pins s1 σ1 H1 _ _ Q I1 rr q1
noncomputable def va (K:PySem.W.Frag) (n:Nat) (t:TGs):TG:=fun v σ H Q=>∃a xs,v=.ref a/\SqT K H a xs/\xs.length=n/\t xs σ H Q
theorem fQ {es:List Expr}{k:Nat}{t:TGs}{n:Nat} (hc:X.calm=true) (h:PGs X es t)
  (hn:(assignEach es X.env).length=n:=by rfl) (hst:(assignEach es X.env).findIdx? (·.1)=none:=by rfl):PG X (.Tuple es k pos) (va X.K n t):=by
 intro pins s σ H v u Q I r hw
 obtain⟨a,xs,e1,hq,hl,hw⟩:=hw
 subst e1
 cases r
 obtain⟨its,rv,ht,hz⟩:=I.tuple hq
 refine assign_Tuple_tuple (I.ok.hd hc) ht (by simp [hn,<- hl,rv.length]) hst fun h' hx=>?_
 have I1:Inv X pins σ H { s with heap:=h' }:=I.kept (t':=s.toks) fun b o e=>hx b o (Nat.ne_of_lt (Heap.lt_size e)) e
 exact h pins _ σ H xs _ Q I1 (by simpa using rv) hw
noncomputable def vh (to ti:TE) (t:jS):TG:=fun v σ H Q=>to σ H fun o H1=>ti σ H1 fun i H2=>t o i v H2 fun H3=>Q σ H3
theorem gM {o i:Expr}{to ti:TE}{t:jS} (ho:PE X o to) (hi:PE X i ti) (hs:nK X t)
  (ha:∀v,assign (.Subscript o i pos) X.env v=(do
   let ov <- holding [v] (eval o X.env)
   let iv <- holding [v,ov] (eval i X.env)
   standAt pos
   holding [v,ov,iv] (setItem ov iv v)
   release [v,ov,iv] []):=by intro _;rfl):PG X (.Subscript o i pos) (vh to ti t):=by
 intro pins s σ H v u Q I r h
 rw [ha]
 refine wpAny_bind (wpAny_holding (thn (ho pins s σ H _ I h) fun ov s1 ⟨x,H1,I1,r1,q1⟩=>?_))
 refine wpAny_bind (wpAny_holding (thn (hi pins s1 σ H1 _ I1 q1) fun iv s2 ⟨y,H2,I2,r2,q2⟩=>?_))
 refine wpAny_bind (wpAny_standAt (wpAny_bind (wpAny_holding (thn (hs pins s2 σ H2 x y v ov iv u _ I2 r1 r2 r q2) fun _ s3 ⟨H3,I3,q3⟩=>?_))))
 exact wpAny_release ⟨σ,H3,I3,q3⟩
noncomputable def gc (te:TE) (g:TG):TS:=fun D σ H=>te σ H fun x H1=>g x σ H1 D.nx
theorem eA {tg e:Expr}{te:TE}{g:TG} (he:PE X e te) (hg:PG X tg g) (hs:swapsWithSole [tg] e pos.line X.env=pure false:=by rfl) (hw:swappedStores [tg] e X.env=pure none:=by rfl)
  (h1:(assignEach [tg] X.env).map (·.2)=[assign tg X.env]:=by rfl):PS X (.Assign [tg] e pos) (gc te g):=by
 intro pins s σ H D I h
 refine wpAny_Assign_stores (thn (he pins s σ H _ I h) fun v s1 ⟨x,H1,I1,r1,q1⟩=>?_) hs hw
 rw [h1]
 exact thn (hg pins s1 σ H1 x v _ I1 r1 q1) fun _ s2 q=>q
theorem aD {i:Nat}{x:Str}{e:Expr}{te:TE}{pos':Pos} (hN:X.N.Nodup) (hi:X.N[i]?=some x) (hx:Loc X.env.scope x) (he:PE X e te) (hs:swapsWith e (some (.Name x pos')) pos.line X.env=pure false:=by rfl) (hf:X.fn x=true\/X.env.scope.names.lookup x=some .local:=by first | exact .inl rfl | exact .inr rfl | assumption) :
  PS X (.Assign [.Name x pos'] e pos) (gc te (b8 i)):=by
 intro pins s σ H D I h
 refine wpAny_Assign_Name (thn (he pins s σ H _ I h) fun v s1 ⟨y,H1,I1,r1,q1⟩=>?_) hs
 exact fC I1 hN hi hx r1 (fun s2 I2=>⟨_,H1,I2,q1⟩) hf
end
section
variable {X:Cx}{pos:Pos}
noncomputable def tT (c:TT) (tb:TS):TS:=fun D σ H=>∃W:Nat->St->Hp->Prop,(∃m,W m σ H)/\∀m σ H,W m σ H ->
 c σ H fun b H1=>if b=true then ∃N:St->Hp->Prop,(∀σ' H',N σ' H'->∃m',m' < m/\W m' σ' H')/\tb { D with nx:=N,ct:=N,bk:=D.nx } σ H1 else D.nx σ H1
theorem rL {c:Expr}{body:List Stmt}{tc:TT}{tb:TS} (hp:PassesOwn (model X.prog X.w) X.A X.env X.xe) (hc:PT X c tc) (hb:PSs X body tb):PS X (.While c body [] pos) (tT tc tb):=by
 intro pins s σ H D I h
 obtain⟨W,⟨m0,w0⟩,turn⟩:=h
 refine wpAny_While (codeAny_whileLoop (fun n s'=>∃σ' H',Inv X pins σ' H' s'/\W n σ' H') ?_ m0 ⟨σ,H,I,w0⟩)
 rintro n s1 ⟨σ1,H1,I1,w1⟩
 refine wpAny_passesOwn hp (thn (hc pins s1 σ1 H1 _ I1 (turn n σ1 H1 w1)) fun b s2 ⟨H2,I2,q2⟩=>?_)
 cases b with
 | true =>
  obtain⟨N,hN,q2⟩:=q2
  rw [if_pos rfl]
  refine wpAny_passesOwn hp (thn (hb pins s2 σ1 H2 _ I2 q2) fun f s3 q3=>?_)
  cases f with
  | next =>
   obtain⟨σ3,H3,I3,n3⟩:=q3
   obtain⟨m',hm,w3⟩:=hN σ3 H3 n3
   exact⟨m',hm,σ3,H3,I3,w3⟩
  | cont =>
   obtain⟨σ3,H3,I3,n3⟩:=q3
   obtain⟨m',hm,w3⟩:=hN σ3 H3 n3
   exact⟨m',hm,σ3,H3,I3,w3⟩
  | brk=>exact q3
  | ret v=>exact q3
 | false =>
  rw [if_neg Bool.false_ne_true]
  exact wpAny_execs_nil ⟨σ1,H2,I2,q2⟩
end
structure It where
 go:Nat->Hp->Prop
 yld:Nat->Hp->V->Hp->Prop
 stop:Nat->Hp->Prop
noncomputable def bS (X:Cx) (pins:List (Addr×Obj)) (H:Hp) (b:Addr):Prop :=
 H b=none/\b≠X.env.locals/\b∉X.fs/\(b∈X.ex\/X.s₀.heap.objs.size<=b)/\(∀x c,X.env.cells.lookup x=some c->c≠b)/\∀p∈X.pn++pins,p.1≠b
theorem Inv.fpOk {X:Cx}{pins:List (Addr×Obj)}{σ:St}{H H':Hp}{s:Shared}{b:Addr} (I:Inv X pins σ H s) (hb:s.heap.objs.size<=b) (hn:H' b=none):bS X pins H' b:=by
 refine⟨hn,Nat.ne_of_gt (Nat.lt_of_lt_of_le I.lt hb),I.nofs hb,.inr (Nat.le_trans I.sz hb),fun x c e z=>?_,fun p hp z=>?_⟩
 ·obtain⟨v,q⟩:=I.cell x c e
  exact absurd (Nat.lt_of_lt_of_le q.lt (by rw [z];exact hb)) (Nat.lt_irrefl _)
 ·exact absurd (Nat.lt_of_lt_of_le (Heap.lt_size (I.pin p hp).1) (by rw [z];exact hb)) (Nat.lt_irrefl _)
structure Turn (P:Program) (w:World) (K:PySem.W.Frag) (tg:Expr) (J:It) (fp:List Addr) (it:Addr) (tn:Nat->Heap->Prop):Prop where
 mem:it∈fp
 obj:∀i h,tn i h->∀b∈fp,∃o,h.get? b=some o/\∀v,o.data≠.cell v
 keep:∀i h h',tn i h->(∀b∈fp,∀o,h.get? b=some o->h'.get? b=some o)->tn i h'
 item:∀(X:Cx),X.prog=P->X.w=w->X.K=K->X.calm=true->∀(i:Nat) (pins:List (Addr×Obj)) (s:Shared) (σ:St) (H:Hp) (E:Value->Shared->Prop),Inv X pins σ H s->(∀b∈fp,bS X pins H b)->tn i s.heap->J.go i H ->
  wpAny (model P w) X.A (pyNext (.ref it)) (fun r s1=>∃u,r=some u /\
   wpAny (model P w) X.A (letOwnedTupleGo tg (.ref it) u) (fun _ s2=>∃x H',Inv X pins σ H' s2/\RelV x u/\J.yld i H x H'/\tn (i + 1) s2.heap/\∀b∈fp,H' b=none) E s1) E s
 done:∀(X:Cx),X.prog=P->X.w=w->X.K=K->X.calm=true->∀(i:Nat) (pins:List (Addr×Obj)) (s:Shared) (σ:St) (H:Hp) (E:Value->Shared->Prop),Inv X pins σ H s->(∀b∈fp,bS X pins H b)->tn i s.heap->J.stop i H ->
  wpAny (model P w) X.A (pyNext (.ref it)) (fun r s1=>r=none/\Inv X pins σ H s1) E s
 self:∀(A:Around) (i:Nat) (s:Shared) (Q:Value->Shared->Prop) (E:Value->Shared->Prop),tn i s.heap->Q (.ref it) s->wpAny (model P w) A (pyIter (.ref it)) Q E s
noncomputable abbrev TI:=St->Hp->(It->Hp->Prop)->Prop
noncomputable def PIE (X:Cx) (pins:List (Addr×Obj)) (σ:St) (tg:Expr) (R:It->Hp->Prop) (itv:Value) (s2:Shared):Prop :=
 ∃(it:Addr) (fp:List Addr) (tn:Nat->Heap->Prop) (J:It) (H':Hp),itv=.ref it/\Inv X pins σ H' s2/\Turn X.prog X.w X.K tg J fp it tn/\tn 0 s2.heap/\(∀b∈fp,bS X pins H' b)/\R J H'
noncomputable def PI (X:Cx) (tg iter:Expr) (wi:TI):Prop :=
 ∀(pins:List (Addr×Obj)) (s:Shared) (σ:St) (H:Hp) (R:It->Hp->Prop),Inv X pins σ H s->wi σ H R ->
  wpAny (model X.prog X.w) X.A (eval iter X.env) (fun v s1=>wpAny (model X.prog X.w) X.A (pyIter v) (PIE X pins σ tg R) X.xe s1) X.xe s
theorem gW {M:Model}{A:Around}{E:Value->Shared->Prop}{s:Shared}{tg:Expr}{it:Addr}{u:Value}{o:Obj}{n:String}{vs:Array Value}{Q:Unit->Shared->Prop} (ho:s.heap.get? it=some o) (hc:o.cls=.type n) (hd:o.data=.fields vs)
  (hn:["enumerate","zip","dict_itemiterator","dict_reverseitemiterator","odict_iterator","itertools.zip_longest","itertools.pairwise"].contains n=false) (hQ:Q () s):wpAny M A (letOwnedTupleGo tg (.ref it) u) Q E s:=by
 unfold letOwnedTupleGo
 cases tg <;> first
  | exact wpAny_pure hQ
  | (cases u <;> first
    | exact wpAny_pure hQ
    | (refine wpAny_bind (wpAny_load ho ?_)
       rw [hc,hd]
       show wpAny M A (if (["enumerate","zip","dict_itemiterator","dict_reverseitemiterator","odict_iterator","itertools.zip_longest","itertools.pairwise"].contains n && vs[0]? == some (rawInt _))=true then _ else _) Q E s
       rw [if_neg (by intro h;rw [hn,Bool.false_and] at h;cases h)]
       exact wpAny_pure hQ))
noncomputable def Itl (K:PySem.W.Frag) (a:Addr):It :=
 ⟨fun i H=>∃xs x,SqL K H a xs/\xs[i]?=some x,fun i H x H'=>H'=H/\∀xs,SqL K H a xs->xs[i]?=some x,fun i H=>∃xs,SqL K H a xs/\xs.length<=i⟩
noncomputable def Itt (K:PySem.W.Frag) (a:Addr):It :=
 ⟨fun i H=>∃xs x,SqT K H a xs/\xs[i]?=some x,fun i H x H'=>H'=H/\∀xs,SqT K H a xs->xs[i]?=some x,fun i H=>∃xs,SqT K H a xs/\xs.length<=i⟩
noncomputable def Itr (lo:Int) (n:Nat):It:=⟨fun i _=>i < n,fun i H x H'=>H'=H/\x=.int (lo + i),fun i _=>n<=i⟩
theorem qm {P:Program}{w:World}{K:PySem.W.Frag}{tg:Expr} (a it:Addr):Turn P w K tg (Itl K a) [it] it (fun i h=>h.IsListIter it a i) where
 mem:=by simp
 obj:=fun i h st b hb=>by
  have e:b=it:=by simpa using hb
  subst e
  obtain⟨o,e,c,d⟩:=st
  exact⟨o,e,fun v z=>by rw [d] at z;cases z⟩
 keep:=fun i h h' st k=>st.at fun o e=>k it (by simp) o e
 item:=by
  intro X hP hw hK hc i pins s σ H E I hf st hg
  subst hP hw hK
  obtain⟨xs,x,hq,hx⟩:=hg
  obtain⟨its,rv,p,hz⟩:=I.list hq
  obtain⟨u,hu,ru⟩:=rv.get hx
  obtain⟨f0,f1,f2,f3,f4,f5⟩:=hf it (by simp)
  refine wpAny_pyNext_list_item st p.isList (x:=u) (by simpa using hu) fun h' st' sb=>?_
  have I1:Inv X pins σ H { s with heap:=h' }:=I.turned (t':=s.toks) (fun b o hb e=>(sb.2 b hb).trans e) f0 f1 f3 f4 f5
  obtain⟨o,e,c,d⟩:=id st'
  exact⟨u,rfl,gW (s:={ s with heap:=h' }) e c d (by decide) ⟨x,H,I1,ru,⟨rfl,fun ys hy=>by rw [I.list_inj hy hq];exact hx⟩,st',fun b hb=>(hf b hb).1⟩⟩
 done:=by
  intro X hP hw hK hc i pins s σ H E I hf st hg
  subst hP hw hK
  obtain⟨xs,hq,hx⟩:=hg
  obtain⟨its,rv,p,hz⟩:=I.list hq
  obtain⟨f0,f1,f2,f3,f4,f5⟩:=hf it (by simp)
  have hl:=rv.length
  exact wpAny_pyNext_list_end (I.ok.hd hc) st p.isList (by simp;omega) fun h' eb=>⟨rfl,I.turned (t':=s.toks) (fun b o hb e=>eb b o hb e) f0 f1 f3 f4 f5⟩
 self:=fun _ _ _ _ _ st h=>wpAny_pyIter_listiter st h
theorem pq {P:Program}{w:World}{K:PySem.W.Frag}{tg:Expr} (a it:Addr):Turn P w K tg (Itt K a) [it] it (fun i h=>h.IsTupleIter it a i) where
 mem:=by simp
 obj:=fun i h st b hb=>by
  have e:b=it:=by simpa using hb
  subst e
  obtain⟨o,e,c,d⟩:=st
  exact⟨o,e,fun v z=>by rw [d] at z;cases z⟩
 keep:=fun i h h' st k=>st.at fun o e=>k it (by simp) o e
 item:=by
  intro X hP hw hK hc i pins s σ H E I hf st hg
  subst hP hw hK
  obtain⟨xs,x,hq,hx⟩:=hg
  obtain⟨its,rv,p,hz⟩:=I.tuple hq
  obtain⟨u,hu,ru⟩:=rv.get hx
  obtain⟨f0,f1,f2,f3,f4,f5⟩:=hf it (by simp)
  refine wpAny_pyNext_tuple_item st (show s.heap.IsTuple a its.toArray from p) (x:=u) (by simpa using hu) fun h' st' sb=>?_
  have I1:Inv X pins σ H { s with heap:=h' }:=I.turned (t':=s.toks) (fun b o hb e=>(sb.2 b hb).trans e) f0 f1 f3 f4 f5
  obtain⟨o,e,c,d⟩:=id st'
  exact⟨u,rfl,gW (s:={ s with heap:=h' }) e c d (by decide) ⟨x,H,I1,ru,⟨rfl,fun ys hy=>by rw [I.tuple_inj hy hq];exact hx⟩,st',fun b hb=>(hf b hb).1⟩⟩
 done:=by
  intro X hP hw hK hc i pins s σ H E I hf st hg
  subst hP hw hK
  obtain⟨xs,hq,hx⟩:=hg
  obtain⟨its,rv,p,hz⟩:=I.tuple hq
  obtain⟨f0,f1,f2,f3,f4,f5⟩:=hf it (by simp)
  have hl:=rv.length
  exact wpAny_pyNext_tuple_end (I.ok.hd hc) st (show s.heap.IsTuple a its.toArray from p) (by simp;omega) fun h' eb=>⟨rfl,I.turned (t':=s.toks) (fun b o hb e=>eb b o hb e) f0 f1 f3 f4 f5⟩
 self:=fun _ _ _ _ _ st h=>wpAny_pyIter_tupleiter st h
theorem pC {P:Program}{w:World}{K:PySem.W.Frag}{tg:Expr} (it:Addr) (lo:Int) (n:Nat):Turn P w K tg (Itr lo n) [it] it (fun i h=>IsRangeIter h it (lo + (i:Nat) * 1) ((n:Int) - (i:Nat)) 1) where
 mem:=by simp
 obj:=fun i h st b hb=>by
  have e:b=it:=by simpa using hb
  subst e
  exact⟨_,st,fun v z=>by
   have z':Data.fields _=Data.cell v:=z
   cases z'⟩
 keep:=fun i h h' st k=>k it (by simp) _ st
 item:=by
  intro X hP hw hK hc i pins s σ H E I hf st hg
  subst hP hw hK
  obtain⟨f0,f1,f2,f3,f4,f5⟩:=hf it (by simp)
  have W:=Walks.range (prog:=X.prog) (w:=X.w) (I.ok.hd hc) it lo 1 n
  refine W.item i s _ _ hg st fun v h' tk hv st' kk=>?_
  obtain⟨t,rfl⟩:=hv
  have I1:Inv X pins σ H { s with heap:=h',toks:=tk }:=I.turned (fun b o hb e=>kk b o (by simpa using hb) e) f0 f1 f3 f4 f5
  refine⟨_,rfl,gW (s:={ s with heap:=h',toks:=tk }) (n:="range_iterator") st' rfl rfl (by decide) ⟨.int (lo + i),H,I1,⟨t,?_⟩,⟨rfl,rfl⟩,st',fun b hb=>(hf b hb).1⟩⟩
  rw [Int.mul_one]
 done:=by
  intro X hP hw hK hc i pins s σ H E I hf st hg
  subst hP hw hK
  obtain⟨f0,f1,f2,f3,f4,f5⟩:=hf it (by simp)
  exact wpAny_pyNext_range_end (I.ok.hd hc) st (by have:n<=i:=hg;omega) fun h' eb=>⟨rfl,I.turned (t':=s.toks) (fun b o hb e=>eb b o hb e) f0 f1 f3 f4 f5⟩
 self:=fun _ _ _ _ _ st h=>wpAny_pyIter_rangeiter st h
section
variable {X:Cx}{tg:Expr}
noncomputable def uY (K:PySem.W.Frag) (tl:TE):TI:=fun σ H R=>tl σ H fun x H1=>∃a,x=.ref a/\(∃xs,SqL K H1 a xs)/\R (Itl K a) H1
noncomputable def vn (K:PySem.W.Frag) (tl:TE):TI:=fun σ H R=>tl σ H fun x H1=>∃a,x=.ref a/\(∃xs,SqT K H1 a xs)/\R (Itt K a) H1
theorem cn {l:Expr}{tl:TE} (hl:PE X l tl):PI X tg l (uY X.K tl):=by
 intro pins s σ H R I h
 refine thn (hl pins s σ H _ I h) fun v s1 ⟨x,H1,I1,r1,q1⟩=>?_
 obtain⟨a,e,⟨xs,hq⟩,q⟩:=q1
 subst e
 cases r1
 obtain⟨its,rv,p,hz⟩:=I1.list hq
 refine wpAny_pyIter_list p.isList ?_
 refine⟨s1.heap.objs.size,[s1.heap.objs.size],_,_,H1,rfl,I1.kept (t':=s1.toks) fun b o e=>Heap.get?_push_of_some _ e,qm a _,⟨_,Heap.get?_push_size _ rfl,rfl,rfl⟩,fun b hb=>?_,q⟩
 have e:b=s1.heap.objs.size:=by simpa using hb
 subst e
 exact I1.fpOk (Nat.le_refl _) (I1.hok.fresh (Nat.le_refl _))
theorem ez {l:Expr}{tl:TE} (hl:PE X l tl):PI X tg l (vn X.K tl):=by
 intro pins s σ H R I h
 refine thn (hl pins s σ H _ I h) fun v s1 ⟨x,H1,I1,r1,q1⟩=>?_
 obtain⟨a,e,⟨xs,hq⟩,q⟩:=q1
 subst e
 cases r1
 obtain⟨its,rv,p,hz⟩:=I1.tuple hq
 refine wpAny_pyIter_tuple (show s1.heap.IsTuple a its.toArray from p) ?_
 refine⟨s1.heap.objs.size,[s1.heap.objs.size],_,_,H1,rfl,I1.kept (t':=s1.toks) fun b o e=>Heap.get?_push_of_some _ e,pq a _,⟨_,Heap.get?_push_size _ rfl,rfl,rfl⟩,fun b hb=>?_,q⟩
 have e:b=s1.heap.objs.size:=by simpa using hb
 subst e
 exact I1.fpOk (Nat.le_refl _) (I1.hok.fresh (Nat.le_refl _))
theorem kZ {pins:List (Addr×Obj)}{σ:St}{H:Hp}{s:Shared}{R:It->Hp->Prop}{E:Value->Shared->Prop}{lo hi:Int}{t u v:Tok}{tk:Nat} (I:Inv X pins σ H s) (h1:-(2 ^ 62)<=lo) (h2:lo < 2 ^ 62) (h3:-(2 ^ 62)<=hi) (h4:hi < 2 ^ 62)
  (q:R (Itr lo (hi - lo).toNat) H):wpAny (model X.prog X.w) X.A (pyIter (.ref s.heap.objs.size)) (PIE X pins σ tg R) E { s with heap:=s.heap.push { cls:=.type "range",data:=.fields #[.int lo t,.int hi u,.int 1 v] },toks:=tk }:=by
 refine wpAny_pyIter_range (IsRange.new ..) (small_one h1 h2 h3 h4) ?_
 have I1:Inv X pins σ H { s with heap:=s.heap.push { cls:=.type "range",data:=.fields #[.int lo t,.int hi u,.int 1 v] },toks:=tk }:=I.kept fun b o e=>Heap.get?_push_of_some _ e
 refine⟨(s.heap.push { cls:=.type "range",data:=.fields #[.int lo t,.int hi u,.int 1 v] }).objs.size,[(s.heap.push { cls:=.type "range",data:=.fields #[.int lo t,.int hi u,.int 1 v] }).objs.size],_,_,H,rfl,
  I1.kept (t':=tk) fun b o e=>Heap.get?_push_of_some _ e,pC _ lo (hi - lo).toNat,?_,fun b hb=>?_,q⟩
 ·have e1:lo + ((0:Nat):Int) * 1=lo:=by simp
  have e2:(((hi - lo).toNat:Nat):Int) - ((0:Nat):Int)=Builtin.Range.rangeSize lo hi 1:=by rw [rangeSize_one];split <;> omega
  show IsRangeIter _ _ (lo + ((0:Nat):Int) * 1) ((((hi - lo).toNat:Nat):Int) - ((0:Nat):Int)) 1
  rw [e1,e2]
  exact Heap.get?_push_size _ rfl
 ·have e:b=(s.heap.push { cls:=.type "range",data:=.fields #[.int lo t,.int hi u,.int 1 v] }).objs.size:=by simpa using hb
  subst e
  exact I1.fpOk (Nat.le_refl _) (I1.hok.fresh (Nat.le_refl _))
noncomputable def uJ (ta:TA):TI:=fun σ H R=>ta σ H fun vs H1=>∃j:Int,vs=[.int j]/\-(2 ^ 62)<=j/\j < 2 ^ 62/\R (Itr 0 j.toNat) H1
noncomputable def uP (ta:TA):TI:=fun σ H R=>ta σ H fun vs H1=>∃i j:Int,vs=[.int i,.int j]/\(-(2 ^ 62)<=i/\i < 2 ^ 62/\-(2 ^ 62)<=j/\j < 2 ^ 62)/\R (Itr i (j - i).toNat) H1
theorem dF {a:Expr}{ta:TA}{p pos:Pos} (hg:Gl X "range") (hm:X.mg "range"=none) (ha:PA X [a] ta) (hs:starEach [a] X.env=[(false,eval a X.env)]:=by rfl):PI X tg (.Call (.Name "range" p) [a] [] pos) (uJ ta):=by
 intro pins s σ H R I h
 refine Call_ (fN I hg hm boot_range (PyProof.Rows.callWith_type1 (thn (ha pos pins s σ H _ I h) fun us s1 ⟨vs,H1,I1,r1,q1⟩=>?_) hs rfl))
 obtain⟨j,e,q1,q2,q⟩:=q1
 subst e
 cases r1 with
 | cons r rr =>
  cases rr
  obtain⟨t,rfl⟩:=r
  exact call_range_1 (kZ I1 (by omega) (by omega) q1 q2 (by simpa using q))
theorem kU {a b:Expr}{ta:TA}{p pos:Pos} (hg:Gl X "range") (hm:X.mg "range"=none) (ha:PA X [a,b] ta) (hs:starEach [a,b] X.env=[(false,eval a X.env),(false,eval b X.env)]:=by rfl) (hs2:starEach [b] X.env=[(false,eval b X.env)]:=by rfl) :
  PI X tg (.Call (.Name "range" p) [a,b] [] pos) (uP ta):=by
 intro pins s σ H R I h
 refine Call_ (fN I hg hm boot_range (PyProof.Rows.callWith_type1 (thn (ha pos pins s σ H _ I h) fun us s1 ⟨vs,H1,I1,r1,q1⟩=>?_) (by rw [hs,hs2]) (by rw [hs2];rfl)))
 obtain⟨i,j,e,⟨q1,q2,q3,q4⟩,q⟩:=q1
 subst e
 cases r1 with
 | cons r rr =>
  cases rr with
  | cons r' rr =>
   cases rr
   obtain⟨t,rfl⟩:=r
   obtain⟨t',rfl⟩:=r'
   exact call_range_2 (kZ I1 q1 q2 q3 q4 q)
noncomputable def vg (wi:TI) (g:TG) (tb:TS):TS:=fun D σ H=>wi σ H fun J H1=>∃W:Nat->Nat->St->Hp->Prop,(∃m,W 0 m σ H1)/\∀i m σ H,W i m σ H ->
 (J.stop i H/\D.nx σ H)\/(J.go i H/\∃N:St->Hp->Prop,(∀σ' H',N σ' H'->∃m',m' < m/\W (i + 1) m' σ' H')/\∀x H',J.yld i H x H'->g x σ H' fun σ2 H2=>tb { D with nx:=N,ct:=N,bk:=D.nx } σ2 H2)
noncomputable def fg (fp:List Addr) (h:Heap):List (Addr×Obj):=fp.filterMap fun b=>(h.get? b).map fun o=>(b,o)
theorem eQ {fp:List Addr}{h:Heap}{b:Addr}{o:Obj} (hb:b∈fp) (e:h.get? b=some o):(b,o)∈fg fp h:=List.mem_filterMap.mpr ⟨b,hb,by rw [e];rfl⟩
theorem ql {fp:List Addr}{h:Heap}{p:Addr×Obj} (hp:p∈fg fp h):p.1∈fp/\h.get? p.1=some p.2:=by
 obtain⟨b,hb,e⟩:=List.mem_filterMap.mp hp
 cases q:h.get? b with
 | none=>rw [q] at e;cases e
 | some o =>
  rw [q] at e
  have e':(b,o)=p:=Option.some.inj e
  subst e'
  exact⟨hb,q⟩
theorem Inv.pinned {pins:List (Addr×Obj)}{σ:St}{H:Hp}{s:Shared}{fp:List Addr} (I:Inv X pins σ H s) (hf:∀b∈fp,bS X pins H b) (ho:∀b∈fp,∃o,s.heap.get? b=some o/\∀v,o.data≠.cell v):Inv X (pins++fg fp s.heap) σ H s :=
 I.pins_of fun p hp=>(List.mem_append.mp hp).elim (fun z=>I.pin p (List.mem_append_right _ z)) fun z=>by
  obtain⟨hb,e⟩:=ql z
  obtain⟨f0,f1,f2,_⟩:=hf p.1 hb
  obtain⟨o,e',d⟩:=ho p.1 hb
  rw [e] at e';cases e'
  exact⟨e,f0,f1,f2,d⟩
theorem Inv.unpinned {pins pl:List (Addr×Obj)}{σ:St}{H:Hp}{s:Shared} (I:Inv X (pins++pl) σ H s):Inv X pins σ H s:=I.pins_of fun p hp=>I.pin p (List.mem_append_right _ (List.mem_append_left _ hp))
theorem cO {iter:Expr}{body:List Stmt}{wi:TI}{g:TG}{tb:TS}{pos:Pos} (hp:PassesOwn (model X.prog X.w) X.A X.env X.xe) (hc:X.calm=true) (hi:PI X tg iter wi) (hg:PG X tg g) (hb:PSs X body tb)
  (hs:∀x,foldedSetIterable iter X.env x=pure x:=by intro _;rfl):PS X (.For tg iter body [] pos) (vg wi g tb):=by
 intro pins s σ H D I h
 refine wpAny_For (thn (hi pins s σ H _ I h) fun v s1 h1=>thn h1 fun itv s2 h2=>?_) hs
 obtain⟨it,fp,tn,J,H2,e,I2,T,st2,f2,W,⟨m0,w0⟩,turn⟩:=h2
 subst e
 have stat:∀{H':Hp},(∀b∈fp,H' b=none)->∀b∈fp,bS X pins H' b:=fun hn b hb=>⟨hn b hb,(f2 b hb).2⟩
 refine codeAny_forLoop_any (fun n s'=>∃i σ' H',Inv X pins σ' H' s'/\tn i s'.heap/\(∀b∈fp,H' b=none)/\W i n σ' H') ?_ m0 ⟨0,σ,H2,I2,st2,fun b hb=>(f2 b hb).1,w0⟩
 rintro n s3 ⟨i,σ3,H3,I3,st3,fr3,w3⟩
 rcases turn i n σ3 H3 w3 with ⟨stop,qn⟩ | ⟨go,N,hN,step⟩
 ·refine wpAny_passesOwn hp (thn (T.done X rfl rfl rfl hc i pins s3 σ3 H3 X.xe I3 (stat fr3) st3 stop) fun r s4 ⟨hr,I4⟩=>?_)
  subst hr
  exact wpAny_execs_nil ⟨σ3,H3,I4,qn⟩
 ·refine wpAny_passesOwn hp (thn (T.item X rfl rfl rfl hc i pins s3 σ3 H3 X.xe I3 (stat fr3) st3 go) fun r s4 ⟨u,hr,h4⟩=>?_)
  subst hr
  refine wpAny_passesOwn hp (thn h4 fun _ s5 ⟨x,H5,I5,r5,y5,st5,fr5⟩=>?_)
  have I5':=I5.pinned (stat fr5) (T.obj _ _ st5)
  refine wpAny_passesOwn hp (thn (hg _ s5 σ3 H5 x u _ I5' r5 (step x H5 y5)) fun _ s6 ⟨σ6,H6,I6,q6⟩=>?_)
  refine wpAny_passesOwn hp (thn (hb _ s6 σ6 H6 _ I6 q6) fun f s7 q7=>?_)
  have again:∀{σ7:St}{H7:Hp},Inv X (pins++fg fp s5.heap) σ7 H7 s7->N σ7 H7->∃m,m < n/\∃i σ' H',Inv X pins σ' H' s7/\tn i s7.heap/\(∀b∈fp,H' b=none)/\W i m σ' H':=fun {σ7 H7} I7 n7=>by
   obtain⟨m',hm,w7⟩:=hN σ7 H7 n7
   refine⟨m',hm,i + 1,σ7,H7,I7.unpinned,T.keep _ _ _ st5 fun b hb o e=>(I7.pin (b,o) (List.mem_append_right _ (List.mem_append_right _ (eQ hb e)))).1,fun b hb=>?_,w7⟩
   obtain⟨o,e,d⟩:=T.obj _ _ st5 b hb
   exact (I7.pin (b,o) (List.mem_append_right _ (List.mem_append_right _ (eQ hb e)))).2.1
  cases f with
  | next=>obtain⟨σ7,H7,I7,n7⟩:=q7;exact again I7 n7
  | cont=>obtain⟨σ7,H7,I7,n7⟩:=q7;exact again I7 n7
  | brk=>obtain⟨σ7,H7,I7,q7⟩:=q7;exact⟨σ7,H7,I7.unpinned,q7⟩
  | ret v=>obtain⟨x7,σ7,H7,I7,r7,q7⟩:=q7;exact⟨x7,σ7,H7,I7.unpinned,r7,q7⟩
end
theorem lC {K:PySem.W.Frag}{a:Addr}{xs:List V}{g:TG}{tb:TS}{D:Ends}{σ:St}{H:Hp} (Pv:Nat->St->Hp->Prop) (h0:Pv 0 σ H) (hl:∀i σ H,i<=xs.length->Pv i σ H->SqL K H a xs)
  (hs:∀i x σ H,xs[i]?=some x->Pv i σ H->g x σ H fun σ2 H2=>tb { D with nx:=Pv (i + 1),ct:=Pv (i + 1),bk:=D.nx } σ2 H2) (hd:∀σ H,Pv xs.length σ H->D.nx σ H) :
  ∃W:Nat->Nat->St->Hp->Prop,(∃m,W 0 m σ H)/\∀i m σ H,W i m σ H ->
   ((Itl K a).stop i H/\D.nx σ H)\/((Itl K a).go i H/\∃N:St->Hp->Prop,(∀σ' H',N σ' H'->∃m',m' < m/\W (i + 1) m' σ' H')/\∀x H',(Itl K a).yld i H x H'->g x σ H' fun σ2 H2=>tb { D with nx:=N,ct:=N,bk:=D.nx } σ2 H2):=by
 refine⟨fun i m σ H=>m=xs.length - i/\i<=xs.length/\Pv i σ H,⟨xs.length,by simp,Nat.zero_le _,h0⟩,?_⟩
 rintro i m σ H ⟨rfl,hi,p⟩
 have q:=hl i σ H hi p
 by_cases hlt:i < xs.length
 ·refine .inr ⟨⟨xs,xs[i],q,by simp [hlt]⟩,Pv (i + 1),fun σ' H' p'=>⟨xs.length - (i + 1),by omega,rfl,hlt,p'⟩,fun x H' y=>?_⟩
  obtain⟨e,y⟩:=y
  subst e
  exact hs i x σ _ (y xs q) p
 ·have e:i=xs.length:=by omega
  subst e
  exact .inl ⟨⟨xs,q,Nat.le_refl _⟩,hd σ H p⟩
theorem gL {K:PySem.W.Frag}{a:Addr}{xs:List V}{g:TG}{tb:TS}{D:Ends}{σ:St}{H:Hp} (Pv:Nat->St->Hp->Prop) (h0:Pv 0 σ H) (hl:∀i σ H,i<=xs.length->Pv i σ H->SqT K H a xs)
  (hs:∀i x σ H,xs[i]?=some x->Pv i σ H->g x σ H fun σ2 H2=>tb { D with nx:=Pv (i + 1),ct:=Pv (i + 1),bk:=D.nx } σ2 H2) (hd:∀σ H,Pv xs.length σ H->D.nx σ H) :
  ∃W:Nat->Nat->St->Hp->Prop,(∃m,W 0 m σ H)/\∀i m σ H,W i m σ H ->
   ((Itt K a).stop i H/\D.nx σ H)\/((Itt K a).go i H/\∃N:St->Hp->Prop,(∀σ' H',N σ' H'->∃m',m' < m/\W (i + 1) m' σ' H')/\∀x H',(Itt K a).yld i H x H'->g x σ H' fun σ2 H2=>tb { D with nx:=N,ct:=N,bk:=D.nx } σ2 H2):=by
 refine⟨fun i m σ H=>m=xs.length - i/\i<=xs.length/\Pv i σ H,⟨xs.length,by simp,Nat.zero_le _,h0⟩,?_⟩
 rintro i m σ H ⟨rfl,hi,p⟩
 have q:=hl i σ H hi p
 by_cases hlt:i < xs.length
 ·refine .inr ⟨⟨xs,xs[i],q,by simp [hlt]⟩,Pv (i + 1),fun σ' H' p'=>⟨xs.length - (i + 1),by omega,rfl,hlt,p'⟩,fun x H' y=>?_⟩
  obtain⟨e,y⟩:=y
  subst e
  exact hs i x σ _ (y xs q) p
 ·have e:i=xs.length:=by omega
  subst e
  exact .inl ⟨⟨xs,q,Nat.le_refl _⟩,hd σ H p⟩
theorem fv {lo:Int}{n:Nat}{g:TG}{tb:TS}{D:Ends}{σ:St}{H:Hp} (Pv:Nat->St->Hp->Prop) (h0:Pv 0 σ H)
  (hs:∀i σ H,i < n->Pv i σ H->g (.int (lo + i)) σ H fun σ2 H2=>tb { D with nx:=Pv (i + 1),ct:=Pv (i + 1),bk:=D.nx } σ2 H2) (hd:∀σ H,Pv n σ H->D.nx σ H) :
  ∃W:Nat->Nat->St->Hp->Prop,(∃m,W 0 m σ H)/\∀i m σ H,W i m σ H ->
   ((Itr lo n).stop i H/\D.nx σ H)\/((Itr lo n).go i H/\∃N:St->Hp->Prop,(∀σ' H',N σ' H'->∃m',m' < m/\W (i + 1) m' σ' H')/\∀x H',(Itr lo n).yld i H x H'->g x σ H' fun σ2 H2=>tb { D with nx:=N,ct:=N,bk:=D.nx } σ2 H2):=by
 refine⟨fun i m σ H=>m=n - i/\i<=n/\Pv i σ H,⟨n,by simp,Nat.zero_le _,h0⟩,?_⟩
 rintro i m σ H ⟨rfl,hi,p⟩
 by_cases hlt:i < n
 ·refine .inr ⟨hlt,Pv (i + 1),fun σ' H' p'=>⟨n - (i + 1),by omega,rfl,hlt,p'⟩,fun x H' y=>?_⟩
  obtain⟨e,y⟩:=y
  subst e y
  exact hs i σ _ hlt p
 ·have e:i=n:=by omega
  subst e
  exact .inl ⟨Nat.le_refl _,hd σ H p⟩
noncomputable abbrev R2:=V->V->Hp->VK->Prop
noncomputable def OpR (X:Cx) (f:Value->Value->Sem Value) (r:R2):Prop :=
 ∀(pins:List (Addr×Obj)) (s:Shared) (σ:St) (H:Hp) (x y:V) (v u:Value) (Q:VK),Inv X pins σ H s->RelV x v->RelV y u->r x y H Q ->
  wpAny (model X.prog X.w) X.A (f v u) (EP X pins σ Q) X.xe s
noncomputable def UnR (X:Cx) (f:Value->Sem Value) (r:V->Hp->VK->Prop):Prop :=
 ∀(pins:List (Addr×Obj)) (s:Shared) (σ:St) (H:Hp) (x:V) (v:Value) (Q:VK),Inv X pins σ H s->RelV x v->r x H Q ->
  wpAny (model X.prog X.w) X.A (f v) (EP X pins σ Q) X.xe s
noncomputable def bz (X:Cx) (f:Value) (r:List V->Hp->VK->Prop):Prop :=
 ∀(pins:List (Addr×Obj)) (s:Shared) (σ:St) (H:Hp) (xs:List V) (us:List Value) (Q:VK),Inv X pins σ H s->ar xs us->r xs H Q ->
  wpAny (model X.prog X.w) X.A (call f us) (EP X pins σ Q) X.xe s
noncomputable def tOp (r:R2) (ta tb:TE):TE:=fun σ H Q=>ta σ H fun x H1=>tb σ H1 fun y H2=>r x y H2 Q
noncomputable def tUn (r:V->Hp->VK->Prop) (ta:TE):TE:=fun σ H Q=>ta σ H fun x H1=>r x H1 Q
noncomputable def rI (C:Int->Int->Prop) (g:Int->Int->V):R2:=fun x y H Q=>∃i j,x=.int i/\y=.int j/\C i j/\Q (g i j) H
noncomputable def rI0 (g:Int->Int->V):R2:=fun x y H Q=>∃i j,x=.int i/\y=.int j/\Q (g i j) H
noncomputable def rU (g:Int->V):V->Hp->VK->Prop:=fun x H Q=>∃i,x=.int i/\Q (g i) H
section
variable {X:Cx}{a b c:Expr}{ta tb tc:TE}{pos:Pos}
theorem jH (ha:PE X a ta) (hb:PE X b tb) {pins:List (Addr×Obj)}{s:Shared}{σ:St}{H:Hp}{R:V->V->Hp->Prop} (I:Inv X pins σ H s)
  (h:ta σ H fun x H1=>tb σ H1 fun y H2=>R x y H2) {Q:Value->Shared->Prop}{f:Value->Value->Sem Value}
  (hf:∀v u s2 x y H2,Inv X pins σ H2 s2->RelV x v->RelV y u->R x y H2->wpAny (model X.prog X.w) X.A (f v u) Q X.xe s2) :
  wpAny (model X.prog X.w) X.A (eval a X.env) (fun v s₁=>wpAny (model X.prog X.w) X.A (eval b X.env) (fun u s₂=>wpAny (model X.prog X.w) X.A (f v u) Q X.xe s₂) X.xe s₁) X.xe s:=by
 refine thn (ha pins s σ H _ I h) fun v s1 ⟨x,H1,I1,r1,q1⟩=>?_
 refine thn (hb pins s1 σ H1 _ I1 q1) fun u s2 ⟨y,H2,I2,r2,q2⟩=>?_
 exact hf v u s2 x y H2 I2 r1 r2 q2
theorem ay {op:Operator}{r:R2} (ho:OpR X (binaryOp op) r) (ha:PE X a ta) (hb:PE X b tb):PE X (.BinOp a op b pos) (tOp r ta tb):=by
 intro pins s σ H Q I h
 exact wpAny_BinOp (jH ha hb I h fun v u s2 x y H2 I2 rx ry q=>ho pins s2 σ H2 x y v u Q I2 rx ry q)
theorem fW {op:UnaryOp}{r:V->Hp->VK->Prop} (ho:UnR X (unaryOp op) r) (ha:PE X a ta):PE X (.UnaryOp op a pos) (tUn r ta):=by
 intro pins s σ H Q I h
 exact UnaryOp_ (thn (ha pins s σ H _ I h) fun v s1 ⟨x,H1,I1,r1,q1⟩=>ho pins s1 σ H1 x v Q I1 r1 q1)
theorem opI {f:Value->Value->Sem Value}{C:Int->Int->Prop}{g:Int->Int->Int}
  (rule:∀(i j:Int) (t u:Tok) (s:Shared) (Q:Value->Shared->Prop) (E:Value->Shared->Prop),C i j->Q (.int (g i j) s.toks) { s with toks:=s.toks + 1 }->wpAny (model X.prog X.w) X.A (f (.int i t) (.int j u)) Q E s) :
  OpR X f (rI C fun i j=>.int (g i j)):=by
 intro pins s σ H x y v u Q I rx ry h
 obtain⟨i,j,rfl,rfl,hc,q⟩:=h
 obtain⟨t,rfl⟩:=rx
 obtain⟨t',rfl⟩:=ry
 exact rule i j t t' s _ _ hc ⟨.int (g i j),H,I.tok _,⟨_,rfl⟩,q⟩
theorem n0 {f:Value->Value->Sem Value}{g:Int->Int->Int}
  (rule:∀(i j:Int) (t u:Tok) (s:Shared) (Q:Value->Shared->Prop) (E:Value->Shared->Prop),Q (.int (g i j) s.toks) { s with toks:=s.toks + 1 }->wpAny (model X.prog X.w) X.A (f (.int i t) (.int j u)) Q E s) :
  OpR X f (rI0 fun i j=>.int (g i j)):=by
 intro pins s σ H x y v u Q I rx ry h
 obtain⟨i,j,rfl,rfl,q⟩:=h
 obtain⟨t,rfl⟩:=rx
 obtain⟨t',rfl⟩:=ry
 exact rule i j t t' s _ _ ⟨.int (g i j),H,I.tok _,⟨_,rfl⟩,q⟩
theorem jQ {f:Value->Value->Sem Value}{g:Int->Int->Bool}
  (rule:∀(i j:Int) (t u:Tok) (s:Shared) (Q:Value->Shared->Prop) (E:Value->Shared->Prop),Q (.bool (g i j)) s->wpAny (model X.prog X.w) X.A (f (.int i t) (.int j u)) Q E s) :
  OpR X f (rI0 fun i j=>.bl (g i j)):=by
 intro pins s σ H x y v u Q I rx ry h
 obtain⟨i,j,rfl,rfl,q⟩:=h
 obtain⟨t,rfl⟩:=rx
 obtain⟨t',rfl⟩:=ry
 exact rule i j t t' s _ _ ⟨.bl (g i j),H,I,rfl,q⟩
noncomputable def vb (i j:Int):Prop:=0 < j/\j < 1073741824
noncomputable def vv (i j:Int):Prop:=0<=j/\j<=1000000/\i.natAbs < 2 ^ 64
noncomputable def jT (i j:Int):Prop:=(-(2 ^ 64) < i/\i < 2 ^ 64)\/(-(2 ^ 64) < j/\j < 2 ^ 64)
theorem jT.ok {i j:Int} (h:jT i j):IntMulOk i j:=by
 rcases h with ⟨h1,h2⟩ | ⟨h1,h2⟩
 ·exact .of_left (intBits_le_64 h1 h2)
 ·exact .of_right (intBits_le_64 h1 h2)
theorem bL:OpR X (binaryOp .Add) (rI0 fun i j=>.int (i + j)):=n0 fun _ _ _ _ _ _ _ q=>add_int q
theorem fb:OpR X (binaryOp .Sub) (rI0 fun i j=>.int (i - j)):=n0 fun _ _ _ _ _ _ _ q=>sub_int q
theorem fT:OpR X (binaryOp .Mult) (rI jT fun i j=>.int (i * j)):=opI fun _ _ _ _ _ _ _ hc q=>mul_int q hc.ok
theorem i9:OpR X (binaryOp .FloorDiv) (rI vb fun i j=>.int (i / j)):=opI fun i j _ _ _ _ _ hc q=>by
 have h1:(0:Int) < j:=hc.1
 have h2:j < 1073741824:=hc.2
 exact floordiv_int (by omega) (by rw [Int.fdiv_eq_ediv_of_nonneg i (by omega)];exact q) (.inl (PyProof.noPylong_small (by omega)))
theorem dN:OpR X (binaryOp .Mod) (rI (fun _ j=>0 < j) fun i j=>.int (i % j)):=opI fun i j _ _ _ _ _ hc q=>by
 have h1:(0:Int) < j:=hc
 exact mod_int' (by omega) (by rw [Int.fmod_eq_emod_of_nonneg i (by omega)];exact q)
theorem tP:OpR X (binaryOp .Pow) (rI vv fun i j=>.int (i ^ j.toNat)):=opI fun _ _ _ _ _ _ _ hc q=>pow_int_small hc.1 hc.2.1 hc.2.2 q
theorem unI {f:Value->Sem Value}{g:Int->Int}
  (rule:∀(i:Int) (t:Tok) (s:Shared) (Q:Value->Shared->Prop) (E:Value->Shared->Prop),Q (.int (g i) s.toks) { s with toks:=s.toks + 1 }->wpAny (model X.prog X.w) X.A (f (.int i t)) Q E s) :
  UnR X f (rU fun i=>.int (g i)):=by
 intro pins s σ H x v Q I rx h
 obtain⟨i,rfl,q⟩:=h
 obtain⟨t,rfl⟩:=rx
 exact rule i t s _ _ ⟨.int (g i),H,I.tok _,⟨_,rfl⟩,q⟩
theorem fP:UnR X (unaryOp .USub) (rU fun i=>.int (-i)):=unI fun _ _ _ _ _ q=>neg_int q
end
noncomputable def nQ:V->V->Bool
 | .non,.non=>true | .non,.int _=>true | .int _,.non=>true | .non,.bl _=>true | .bl _,.non=>true | .non,.str _=>true | .str _,.non=>true
 | .int _,.int _=>true | .bl _,.bl _=>true | .str _,.str _=>true | .byt _,.byt _=>true
 | .int _,.str _=>true | .str _,.int _=>true | .bl _,.str _=>true | .str _,.bl _=>true
 | _,_=>false
noncomputable def rEq:R2:=fun x y H Q=>nQ x y=true/\Q (.bl (decide (x=y))) H
noncomputable def rNe:R2:=fun x y H Q=>nQ x y=true/\Q (.bl (!decide (x=y))) H
theorem lY {i j:Int}:decide (V.int i=V.int j)=(i == j):=by
 rw [Bool.eq_iff_iff]
 simp
theorem mI {i j:Bool}:decide (V.bl i=V.bl j)=(i == j):=by
 rw [Bool.eq_iff_iff]
 simp
theorem lW {i j:Str}:decide (V.str i=V.str j)=(i == j):=by
 rw [Bool.eq_iff_iff]
 simp
theorem lU {i j:Array UInt8}:decide (V.byt i=V.byt j)=(i.toList == j.toList):=by
 rw [Bool.eq_iff_iff]
 cases i
 cases j
 simp
section
variable {X:Cx}{a b c:Expr}{ta tb tc:TE}{pos:Pos}
theorem aV {pins:List (Addr×Obj)}{σ:St}{H:Hp}{s:Shared}{Q:VK}{k k':Bool} (I:Inv X pins σ H s) (q:Q (.bl k) H) (e:k=k'):EP X pins σ Q (.bool k') s:=by
 subst e
 exact⟨.bl k,H,I,rfl,q⟩
theorem dS:OpR X (compareOp .Eq) rEq:=by
 intro pins s σ H x y v u Q I rx ry h
 obtain⟨hs,q⟩:=h
 cases x with
 | non =>
  cases rx
  cases y with
  | non=>cases ry;exact PySem.EqNone.eq_none_none (aV I q (by simp))
  | bl j=>cases ry;exact PySem.EqNone.eq_none_bool (aV I q (by simp))
  | int j=>obtain⟨t',rfl⟩:=ry;exact PySem.EqNone.eq_none_int (aV I q (by simp))
  | str j=>obtain⟨t',rfl⟩:=ry;exact PySem.EqNone.eq_none_str (aV I q (by simp))
  | _=>exact absurd (show false=true from hs) Bool.false_ne_true
 | bl i =>
  cases rx
  cases y with
  | non=>cases ry;exact PySem.EqNone.eq_bool_none (aV I q (by simp))
  | bl j=>cases ry;exact eq_bool (aV I q mI)
  | str j=>obtain⟨t',rfl⟩:=ry;exact PySem.EqMixed.eq_bool_str (aV I q (by simp))
  | _=>exact absurd (show false=true from hs) Bool.false_ne_true
 | int i =>
  obtain⟨t,rfl⟩:=rx
  cases y with
  | non=>cases ry;exact PySem.EqNone.eq_int_none (aV I q (by simp))
  | int j=>obtain⟨t',rfl⟩:=ry;exact eq_int (aV I q lY)
  | str j=>obtain⟨t',rfl⟩:=ry;exact PySem.EqMixed.eq_int_str (aV I q (by simp))
  | _=>exact absurd (show false=true from hs) Bool.false_ne_true
 | str i =>
  obtain⟨t,rfl⟩:=rx
  cases y with
  | non=>cases ry;exact PySem.EqNone.eq_str_none (aV I q (by simp))
  | bl j=>cases ry;exact PySem.EqMixed.eq_str_bool (aV I q (by simp))
  | int j=>obtain⟨t',rfl⟩:=ry;exact PySem.EqMixed.eq_str_int (aV I q (by simp))
  | str j=>obtain⟨t',rfl⟩:=ry;exact eq_str (aV I q lW)
  | _=>exact absurd (show false=true from hs) Bool.false_ne_true
 | byt i =>
  obtain⟨t,rfl⟩:=rx
  cases y with
  | byt j=>obtain⟨t',rfl⟩:=ry;exact PySem.W.eq_bytes (aV I q lU)
  | _=>exact absurd (show false=true from hs) Bool.false_ne_true
 | _=>cases y <;> exact absurd (show false=true from hs) Bool.false_ne_true
theorem cB:OpR X (compareOp .NotEq) rNe:=by
 intro pins s σ H x y v u Q I rx ry h
 obtain⟨hs,q⟩:=h
 cases x with
 | non =>
  cases rx
  cases y with
  | non=>cases ry;exact PySem.EqNone.ne_none_none (aV I q (by simp))
  | bl j=>cases ry;exact PySem.EqNone.ne_none_bool (aV I q (by simp))
  | int j=>obtain⟨t',rfl⟩:=ry;exact PySem.EqNone.ne_none_int (aV I q (by simp))
  | str j=>obtain⟨t',rfl⟩:=ry;exact PySem.EqNone.ne_none_str (aV I q (by simp))
  | _=>exact absurd (show false=true from hs) Bool.false_ne_true
 | bl i =>
  cases rx
  cases y with
  | non=>cases ry;exact PySem.EqNone.ne_bool_none (aV I q (by simp))
  | bl j=>cases ry;exact ne_bool (aV I q (congrArg not mI))
  | str j=>obtain⟨t',rfl⟩:=ry;exact PySem.EqMixed.ne_bool_str (aV I q (by simp))
  | _=>exact absurd (show false=true from hs) Bool.false_ne_true
 | int i =>
  obtain⟨t,rfl⟩:=rx
  cases y with
  | non=>cases ry;exact PySem.EqNone.ne_int_none (aV I q (by simp))
  | int j=>obtain⟨t',rfl⟩:=ry;exact ne_int (aV I q (congrArg not lY))
  | str j=>obtain⟨t',rfl⟩:=ry;exact PySem.EqMixed.ne_int_str (aV I q (by simp))
  | _=>exact absurd (show false=true from hs) Bool.false_ne_true
 | str i =>
  obtain⟨t,rfl⟩:=rx
  cases y with
  | non=>cases ry;exact PySem.EqNone.ne_str_none (aV I q (by simp))
  | bl j=>cases ry;exact PySem.EqMixed.ne_str_bool (aV I q (by simp))
  | int j=>obtain⟨t',rfl⟩:=ry;exact PySem.EqMixed.ne_str_int (aV I q (by simp))
  | str j=>obtain⟨t',rfl⟩:=ry;exact ne_str (aV I q (congrArg not lW))
  | _=>exact absurd (show false=true from hs) Bool.false_ne_true
 | byt i =>
  obtain⟨t,rfl⟩:=rx
  cases y with
  | byt j=>obtain⟨t',rfl⟩:=ry;exact PySem.W.ne_bytes (aV I q (congrArg not lU))
  | _=>exact absurd (show false=true from hs) Bool.false_ne_true
 | _=>cases y <;> exact absurd (show false=true from hs) Bool.false_ne_true
theorem ni:OpR X (compareOp .Lt) (rI0 fun i j=>.bl (decide (i < j))):=jQ fun _ _ _ _ _ _ _ q=>lt_int q
theorem gX:OpR X (compareOp .LtE) (rI0 fun i j=>.bl (decide (i<=j))):=jQ fun _ _ _ _ _ _ _ q=>le_int q
theorem nD:OpR X (compareOp .Gt) (rI0 fun i j=>.bl (decide (j < i))):=jQ fun _ _ _ _ _ _ _ q=>gt_int q
theorem kA:OpR X (compareOp .Lt) (fun x y H Q=>∃i j,x=.str i/\y=.str j/\Q (.bl (decide (i.cps.toList < j.cps.toList))) H):=by
 intro pins s σ H x y v u Q I rx ry h
 obtain⟨i,j,rfl,rfl,q⟩:=h
 obtain⟨t,rfl⟩:=rx
 obtain⟨t',rfl⟩:=ry
 exact lt_str (aV I q rfl)
theorem jr:OpR X (compareOp .Is) (fun x y H Q=>y=.non/\Q (.bl (decide (x=.non))) H):=by
 intro pins s σ H x y v u Q I rx ry h
 obtain⟨rfl,q⟩:=h
 cases ry
 refine is_none_gen (aV I q ?_)
 cases x <;> first
  | (cases rx;rfl)
  | (obtain⟨t,rfl⟩:=rx;rfl)
theorem sV:OpR X (compareOp .IsNot) (fun x y H Q=>y=.non/\Q (.bl (!decide (x=.non))) H):=by
 intro pins s σ H x y v u Q I rx ry h
 obtain⟨rfl,q⟩:=h
 cases ry
 refine isnot_none_gen (aV I q ?_)
 cases x <;> first
  | (cases rx;rfl)
  | (obtain⟨t,rfl⟩:=rx;rfl)
theorem aS (b:Expr) {op:CmpOp} (h:op≠.In:=by decide) (h2:op≠.NotIn:=by decide):behindInMarks op b=false:=by
 have e1:(op == CmpOp.In)=false:=by cases op <;> first | rfl | exact absurd rfl h
 have e2:(op == CmpOp.NotIn)=false:=by cases op <;> first | rfl | exact absurd rfl h2
 cases b <;> simp [behindInMarks,e1,e2]
theorem eV {op:CmpOp}{r:R2} (ho:OpR X (compareOp op) r) (ha:PE X a ta) (hb:PE X b tb) (hm:behindInMarks op b=false):PE X (.Compare a [op] [b] pos) (tOp r ta tb):=by
 intro pins s σ H Q I h
 exact wpAny_Compare1 (jH ha hb I h fun v u s2 x y H2 I2 rx ry q=>ho pins s2 σ H2 x y v u Q I2 rx ry q) hm
noncomputable def eF (t:TE):TT:=fun σ H Q=>t σ H fun x H'=>∃k,x=.bl k/\Q k H'
theorem aO {op:CmpOp}{r:R2} (ho:OpR X (compareOp op) r) (ha:PE X a ta) (hb:PE X b tb) (hm:behindInMarks op b=false):PT X (.Compare a [op] [b] pos) (eF (tOp r ta tb)):=by
 intro pins s σ H Q I h
 refine wpAny_isTrue_Compare1 (thn (ha pins s σ H _ I h) fun v s1 ⟨x,H1,I1,r1,q1⟩=>thn (hb pins s1 σ H1 _ I1 q1) fun u s2 ⟨y,H2,I2,r2,q2⟩ =>
  thn (ho pins s2 σ H2 x y v u _ I2 r1 r2 q2) fun c s3 ⟨z,H3,I3,r3,k,e,q3⟩=>?_) hm
 subst e
 cases r3
 exact wpAny_truthy_bool ⟨H3,I3,q3⟩
noncomputable def mD (r r':R2) (ta tb tc:TE):TE:=fun σ H Q=>ta σ H fun x H1=>tb σ H1 fun y H2=>r x y H2 fun z H3=>∃k,z=.bl k /\
 (if k=true then tc σ H3 fun w' H4=>r' y w' H4 Q else Q (.bl false) H3)
theorem lh {op op':CmpOp}{r r':R2} (ho:OpR X (compareOp op) r) (ho':OpR X (compareOp op') r') (ha:PE X a ta) (hb:PE X b tb) (hc:PE X c tc)
  (hm:lastMarks [op,op'] [b,c]=false:=by with_unfolding_all rfl):PE X (.Compare a [op,op'] [b,c] pos) (mD r r' ta tb tc):=by
 intro pins s σ H Q I h
 refine Compare_chain (thn (ha pins s σ H _ I h) fun v s1 ⟨x,H1,I1,r1,q1⟩=>chain_link (thn (hb pins s1 σ H1 _ I1 q1) fun u s2 ⟨y,H2,I2,r2,q2⟩ =>
  thn (ho pins s2 σ H2 x y v u _ I2 r1 r2 q2) fun d s3 ⟨z,H3,I3,r3,k,e,q3⟩=>?_)) hm
 subst e
 cases r3
 refine wpAny_truthy_bool ?_
 cases k with
 | false=>exact ite_ff ⟨.bl false,H3,I3,rfl,q3⟩
 | true=>exact ite_tt (chain_last (thn (hc pins s3 σ H3 _ I3 q3) fun w' s4 ⟨z',H4,I4,r4,q4⟩=>ho' pins s4 σ H4 y z' u w' Q I4 r2 r4 q4))
theorem rB {op op':CmpOp}{r r':R2} (ho:OpR X (compareOp op) r) (ho':OpR X (compareOp op') r') (ha:PE X a ta) (hb:PE X b tb) (hc:PE X c tc)
  (hm:lastMarks [op,op'] [b,c]=false:=by with_unfolding_all rfl):PT X (.Compare a [op,op'] [b,c] pos) (eF (mD r r' ta tb tc)):=by
 intro pins s σ H Q I h
 refine isTrue_chain (thn (ha pins s σ H _ I h) fun v s1 ⟨x,H1,I1,r1,q1⟩=>test_link (thn (hb pins s1 σ H1 _ I1 q1) fun u s2 ⟨y,H2,I2,r2,q2⟩ =>
  thn (ho pins s2 σ H2 x y v u _ I2 r1 r2 q2) fun d s3 ⟨z,H3,I3,r3,k,e,q3⟩=>?_)) hm
 subst e
 cases r3
 refine wpAny_truthy_bool ?_
 cases k with
 | false =>
  obtain⟨k',e',q'⟩:=q3
  cases e'
  exact ite_ff ⟨H3,I3,q'⟩
 | true =>
  refine ite_tt (test_last (thn (hc pins s3 σ H3 _ I3 q3) fun w' s4 ⟨z',H4,I4,r4,q4⟩=>thn (ho' pins s4 σ H4 y z' u w' _ I4 r2 r4 q4) fun d' s5 ⟨z2,H5,I5,r5,k2,e2,q5⟩=>?_))
  subst e2
  cases r5
  exact wpAny_truthy_bool ⟨H5,I5,q5⟩
theorem eZ:(sizeLine:Nat) < 2 ^ 63:=by rw [sizeLine_eq];decide
theorem b5:OpR X (binaryOp .Add) (fun x y H Q=>∃i j,x=.str i/\y=.str j/\i.length + j.length<=sizeLine/\Q (.str (i++j)) H):=by
 intro pins s σ H x y v u Q I rx ry h
 obtain⟨i,j,rfl,rfl,hz,q⟩:=h
 obtain⟨t,rfl⟩:=rx
 obtain⟨t',rfl⟩:=ry
 exact add_str (fun t' tk=>⟨.str (i++j),H,I.tok _,⟨_,rfl⟩,q⟩) hz
theorem vals1 {x:V}{us:List Value} (r:ar [x] us):∃u,us=[u]/\RelV x u:=by
 cases r with
 | cons r1 r2=>cases r2;exact⟨_,rfl,r1⟩
theorem vals2 {x y:V}{us:List Value} (r:ar [x,y] us):∃u w',us=[u,w']/\RelV x u/\RelV y w':=by
 cases r with
 | cons r1 r2 =>
  cases r2 with
  | cons r3 r4=>cases r4;exact⟨_,_,rfl,r1,r3⟩
theorem kL (hc:X.calm=true):bz X (.builtin "max") (fun xs H Q=>∃i j,xs=[.int i,.int j]/\Q (.int (if j > i then j else i)) H):=by
 intro pins s σ H xs us Q I r h
 obtain⟨i,j,rfl,q⟩:=h
 obtain⟨u,w',rfl,⟨t,rfl⟩,⟨t',rfl⟩⟩:=vals2 r
 refine max_two_ints (I.ok.hd hc) fun h' tk k=>⟨_,H,I.kept k,?_,q⟩
 by_cases hj:j > i
 ·rw [if_pos hj,if_pos hj];exact⟨_,rfl⟩
 ·rw [if_neg hj,if_neg hj];exact⟨_,rfl⟩
theorem pW (hc:X.calm=true):bz X (.builtin "min") (fun xs H Q=>∃i j,xs=[.int i,.int j]/\Q (.int (if j < i then j else i)) H):=by
 intro pins s σ H xs us Q I r h
 obtain⟨i,j,rfl,q⟩:=h
 obtain⟨u,w',rfl,⟨t,rfl⟩,⟨t',rfl⟩⟩:=vals2 r
 refine min_two_ints (I.ok.hd hc) fun h' tk k=>⟨_,H,I.kept k,?_,q⟩
 by_cases hj:j < i
 ·rw [if_pos hj,if_pos hj];exact⟨_,rfl⟩
 ·rw [if_neg hj,if_neg hj];exact⟨_,rfl⟩
theorem qH:bz X (.type "int") (fun xs H Q=>(∃i,xs=[.int i]/\Q (.int i) H)\/∃k,xs=[.bl k]/\Q (.int (if k then 1 else 0)) H):=by
 intro pins s σ H xs us Q I r h
 rcases h with ⟨i,rfl,q⟩ | ⟨k,rfl,q⟩
 ·obtain⟨u,rfl,t,rfl⟩:=vals1 r
  exact call_int_int ⟨.int i,H,I,⟨_,rfl⟩,q⟩
 ·obtain⟨u,rfl,r1⟩:=vals1 r
  cases r1
  exact call_int_bool ⟨.int (if k then 1 else 0),H,I.tok _,⟨_,rfl⟩,q⟩
end
structure jR (h:Heap) (x dx C:Addr) (mA:Str->Option Value):Prop where
 obj:h.get? x=some (PySem.W.instObj C dx)
 ns:h.Ns1 dx mA
 ne:dx≠x
theorem qC {h:Heap}{dx:Addr}{mA:Str->Option Value} (n:h.Ns1 dx mA):∃od,h.get? dx=some od/\∀name,PySem.W.lookIn name od=some (mA name):=by
 obtain⟨o,es,ep,ho,hd,hk,_,hm⟩:=n
 refine⟨o,ho,fun name=>?_⟩
 have e:=hm name
 unfold nsFind findBy at e
 rw [<- Array.find?_toList] at e
 unfold PySem.W.lookIn
 rw [hd]
 dsimp only
 split
 ·rename_i y q
  rw [q] at e
  exact congrArg some e
 ·rename_i q
  rw [q] at e
  have a:es.toList.any (·.refKey)=false:=by
   rw [List.any_eq_false]
   intro y hy
   obtain⟨z,t,hkey⟩:=hk y (Array.mem_toList_iff.mp hy)
   simp [DictEntry.refKey,hkey]
  have a':¬ es.toList.any (·.refKey)=true:=by rw [a];exact Bool.false_ne_true
  rw [if_neg a']
  exact congrArg some e
theorem jR.look {h:Heap}{x dx C:Addr}{mA:Str->Option Value} (I:jR h x dx C mA):∃od,PySem.W.InstAt h x (PySem.W.instObj C dx) C (some od)/\∀name,PySem.W.lookIn name od=some (mA name) :=
 let ⟨od,ho,hl⟩:=qC I.ns
 ⟨od,⟨I.obj,rfl,rfl,ho⟩,hl⟩
section
variable {prog:Program}{w:World}{A:Around}{E:Value->Shared->Prop}{s:Shared}{K:PySem.W.Frag}{x dx C f:Addr}{mA:Str->Option Value}{name:Str}{v:Value}
end
section
variable {P:Program}{w:World}{H H':Hp}{h h':Heap}{a C dx:Addr}{fs fs':List (Str×V)}
theorem sN (hok:HOk P w H h) (e:H a=some (.ins C dx fs)):∃mA,jR h a dx C mA/\(∀f,jP (fs.lookup f) (mA f))/\PySem.Within mA (fs.map (·.1))/\fs.length<=1000/\H dx=some (.own a):=by
 obtain⟨d,z,ne,ob,mA,n,r,q⟩:=(show aQ P w H h a (.ins C dx fs) from hok a _ e)
 exact⟨mA,⟨ob,n,ne⟩,r,q,z,d⟩
end
structure Cls (K:PySem.W.Frag) (C:Addr):Prop where
 pg:PySem.W.plainGet K C Str.empty=true
 hd:PySem.W.hasDictIn K C=true
 po:PySem.W.plainOver K C=true
 sa:PySem.W.findIn K (.ref C) "__setattr__"=some (some (.builtin "object.__setattr__"))
theorem Cls.get {K:PySem.W.Frag}{C:Addr} (c:Cls K C) (f:Str):PySem.W.plainGet K C f=true:=c.pg
structure Con (K:PySem.W.Frag) (C:Addr) (f:Str) (v:V) (u:Value):Prop where
 at_:PySem.W.findIn K (.ref C) f=some (some u)
 rel:RelV v u
 get:PySem.W.specialIn K u "__get__"=some none
 cp:PySem.W.copiedNames.contains f=false
structure vP (K:PySem.W.Frag) (C:Addr) (m:Str) (f:Addr):Prop where
 at_:PySem.W.findIn K (.ref C) m=some (some (.ref f))
 fn:PySem.W.isFn K (.ref f)=true
 kp:PySem.W.keepIn K (.ref f)=true
section
variable {X:Cx}{pins:List (Addr×Obj)}{σ:St}{H:Hp}{s:Shared}{a C dx:Addr}{fs:List (Str×V)}{f:Str}{v:V}{A:Around}{E:Value->Shared->Prop}
end
section
variable {X:Cx}{o e value:Expr}{f:Str}{pos pos' tpos:Pos}{ta tv:TE}
end
section
variable {X:Cx}{pins:List (Addr×Obj)}{σ:St}{H:Hp}{s:Shared}{A:Around}{E:Value->Shared->Prop}{Q:Value->Shared->Prop}{c:Value}{b:Bool}
inductive cj (K:PySem.W.Frag) (H:Hp):V->Value->Prop where
 | non:cj K H .non (.type "NoneType")
 | bl (x:Bool):cj K H (.bl x) (.type "bool")
 | int (i:Int):cj K H (.int i) (.type "int")
 | str (x:Str):cj K H (.str x) (.type "str")
 | flt (x:UInt64):cj K H (.flt x) (.type "float")
 | lst {a:Addr}{xs:List V} (e:H a=some (.lst xs)):cj K H (.ref a) (.type "list")
 | frz {a:Addr}{o:Obj}{xs:List V} (e:H a=some (.frz o (.lst xs))):cj K H (.ref a) (.type "list")
 | tup {a:Addr}{xs:List V} (e:H a=some (.tup xs)):cj K H (.ref a) (.type "tuple")
 | dK {a:Addr}{kvs:List (Key×V)} (e:H a=some (.dK kvs)):cj K H (.ref a) (.type "dict")
 | dT {a:Addr}{kvs:List (List Key×V)} (e:H a=some (.dT kvs)):cj K H (.ref a) (.type "dict")
 | ins {a C dx:Addr}{fs:List (Str×V)} (e:H a=some (.ins C dx fs)) (cl:Cls K C) (ha:PySem.W.findIn K (.ref C) "__class__"=some (some (.builtin "object.__class__")))
   (hn:PySem.W.specialIn K (.builtin "object.__class__") "__get__"=some (some (.builtin "getset_descriptor.__get__"))) (htk:PySem.W.takesIn K (.builtin "object.__class__")=some true)
   (hm:PySem.W.mroIn K C (.type "object")=some true):cj K H (.ref a) (.ref C)
theorem qA {x:V}{u t:Value} (I:Inv X pins σ H s) (rx:RelV x u) (ty:cj X.K H x t) (e:PySem.W.kitOne X.K t c=some b) (h:∀tk,Q (.bool b) { s with toks:=tk }) :
  wpAny (model X.prog X.w) A (call (.builtin "isinstance") [u,c]) Q E s:=by
 cases ty with
 | non=>cases (show u=Value.none from rx);exact PySem.W.kia_one PySem.W.kitx_none I.kIn True.intro e (fun z=>nomatch z) h
 | bl y=>cases (show u=Value.bool y from rx);exact PySem.W.kia_one PySem.W.kitx_bool I.kIn True.intro e (fun z=>nomatch z) h
 | int i=>obtain⟨t,q⟩:=(show ∃t,u=Value.int i t from rx);cases q;exact PySem.W.kia_one PySem.W.kitx_int I.kIn True.intro e (fun z=>nomatch z) h
 | str y=>obtain⟨t,q⟩:=(show ∃t,u=Value.str y t from rx);cases q;exact PySem.W.kia_one PySem.W.kitx_str I.kIn True.intro e (fun z=>nomatch z) h
 | flt y=>obtain⟨t,q⟩:=(show ∃t,u=Value.float y t from rx);cases q;exact PySem.W.kia_one PySem.W.kitx_float I.kIn True.intro e (fun z=>nomatch z) h
 | @lst a xs ea =>
  cases (show u=Value.ref a from rx)
  obtain⟨_,_,n,_,h1⟩:=(show aQ X.prog X.w H s.heap a (.lst xs) from I.hok a _ ea)
  exact PySem.W.kia_one PySem.W.kitx_list I.kIn ⟨_,h1,rfl⟩ e (fun z=>nomatch z) h
 | @frz a ob xs ea =>
  cases (show u=Value.ref a from rx)
  obtain⟨_,_,_,n,_,h1⟩:=(show aQ X.prog X.w H s.heap a (.frz ob (.lst xs)) from I.hok a _ ea)
  exact PySem.W.kia_one PySem.W.kitx_list I.kIn ⟨_,h1,rfl⟩ e (fun z=>nomatch z) h
 | @tup a xs ea =>
  cases (show u=Value.ref a from rx)
  obtain⟨_,_,_,p⟩:=(show aQ X.prog X.w H s.heap a (.tup xs) from I.hok a _ ea)
  obtain⟨o,h1,h2,_⟩:=p
  exact PySem.W.kia_one PySem.W.kitx_tuple I.kIn ⟨o,h1,h2⟩ e (fun z=>nomatch z) h
 | @dK a kvs ea =>
  cases (show u=Value.ref a from rx)
  obtain⟨_,_,vs,_,p⟩:=(show aQ X.prog X.w H s.heap a (.dK kvs) from I.hok a _ ea)
  obtain⟨o,es,ep,h1,h2,_⟩:=p
  exact PySem.W.kia_one PySem.W.kitx_dict I.kIn ⟨o,h1,h2.1⟩ e (fun z=>nomatch z) h
 | @dT a kvs ea =>
  cases (show u=Value.ref a from rx)
  obtain⟨_,_,xs,_,o,es,ep,h1,h2,_⟩:=(show aQ X.prog X.w H s.heap a (.dT kvs) from I.hok a _ ea)
  exact PySem.W.kia_one PySem.W.kitx_dict I.kIn ⟨o,h1,h2.1⟩ e (fun z=>nomatch z) h
 | @ins a C dx fs ea cl ha hn htk hm =>
  cases (show u=Value.ref a from rx)
  obtain⟨mA,O,_⟩:=sN I.hok ea
  obtain⟨od,J,_⟩:=O.look
  exact PySem.W.kia_one (PySem.W.kitx_own (cl.get _) cl.hd ha hn htk hm) I.kIn J e (fun z=>nomatch z) h
end
structure aN (k:Nat) (A:Around):Prop where
 hd:A.handled=none
 dp:A.depth + 3 * k + 5 < recursionLimit
 un:A.units + 16 * k + 200 < cLine
 gd:A.guards=some []
theorem aN.mono {j k:Nat}{A:Around} (r:aN k A) (h:j<=k):aN j A:=⟨r.hd,by have:=r.dp;omega,by have:=r.un;omega,r.gd⟩
theorem aN.deeper {k:Nat}{A:Around} (r:aN (k + 1) A) (env:Env):aN k (A.deeper env) :=
 ⟨r.hd,by have:=r.dp;show A.depth + 1 + 3 * k + 5 < _;omega,by have:=r.un;show A.units + 3 + 16 * k + 200 < _;omega,r.gd⟩
theorem aN.depth {k:Nat}{A:Around} (r:aN k A):A.depth < recursionLimit:=by have:=r.dp;omega
theorem aN.units {k:Nat}{A:Around} (r:aN k A):A.units + 64 < cLine:=by have:=r.un;omega
noncomputable def cT:TA:=fun _ H Q=>Q [] H
noncomputable def cA (ta:TE) (tr:TA):TA:=fun σ H Q=>ta σ H fun x H1=>tr σ H1 fun xs H2=>Q (x::xs) H2
section
variable {X:Cx}{e:Expr}{es:List Expr}{te:TE}{t:TA}{pos:Pos}
theorem ae:PA X [] cT:=fun _ _ _ _ H Q I h=>Calls.spliced_nil ⟨[],H,I,.nil,h⟩
theorem aa (ha:PE X e te) (hr:PA X es t) (hs:starEach (e::es) X.env=(false,eval e X.env)::starEach es X.env:=by rfl):PA X (e::es) (cA te t):=by
 intro pos pins s σ H Q I h
 rw [hs]
 show wpAny _ _ (spliced ((false,eval e X.env)::backTo pos (starEach es X.env))) _ _ s
 refine Calls.spliced_cons (thn (ha pins s σ H _ I h) fun u s1 ⟨x,H1,I1,r1,q1⟩=>?_)
 exact thn (hr pos pins s1 σ H1 _ I1 q1) fun us s2 ⟨xs,H2,I2,r2,q2⟩=>⟨x::xs,H2,I2,.cons r1 r2,q2⟩
noncomputable def f7 (t:TA):TE:=fun σ H Q=>t σ H fun xs H1=>xs.length<=sizeLine/\∀p,H1 p=none->Q (.ref p) (upd H1 p (.tup xs))
noncomputable def fk (t:TA):TE:=fun σ H Q=>t σ H fun xs H1=>xs.length<=sizeLine/\∀p,H1 p=none->Q (.ref p) (upd H1 p (.lst xs))
theorem bR {x1} (h:PA X es t):PE X (.Tuple es x1 pos) (f7 t):=by
 intro pins s σ H Q I hq
 refine wpAny_Tuple_spliced (thn (h pos pins s σ H _ I hq) fun us s1 ⟨xs,H1,I1,r,z,q⟩=>⟨by rw [<- r.length];exact z,?_⟩)
 have hf:H1 s1.heap.objs.size=none:=I1.hok.fresh (Nat.le_refl _)
 refine⟨.ref s1.heap.objs.size,upd H1 s1.heap.objs.size (.tup xs),I1.laid (t':=s1.toks) (fun b u e=>Heap.get?_push_of_some _ e) (Nat.le_refl _) ?_,rfl,q _ hf⟩
 exact⟨z,us,r,⟨_,Heap.get?_push_size _ rfl,rfl,_,rfl⟩⟩
theorem be (h:PA X es t):PE X (.List es pos) (fk t):=by
 intro pins s σ H Q I hq
 refine wpAny_List_spliced (thn (h pos pins s σ H _ I hq) fun us s1 ⟨xs,H1,I1,r,z,q⟩=>⟨by rw [<- r.length];exact z,?_⟩)
 have hf:H1 s1.heap.objs.size=none:=I1.hok.fresh (Nat.le_refl _)
 refine⟨.ref s1.heap.objs.size,upd H1 s1.heap.objs.size (.lst xs),I1.laid (t':=s1.toks) (fun b u e=>Heap.get?_push_of_some _ e) (Nat.le_refl _) ?_,rfl,q _ hf⟩
 exact⟨z,us,0,r,Heap.get?_push_size _ rfl⟩
end
noncomputable abbrev Sp:=List V->Hp->VK->XK->Prop
noncomputable abbrev CXT:=List Env->Hp->Shared->XK->Value->Shared->Prop
structure eN (P:Program) (w:World) (K:PySem.W.Frag) (mg:Str->Option Value) (base:Heap) (A:Around) (outer:List Env) (s:Shared) (H:Hp):Prop where
 frames:A.frames=some outer
 mod:Mod K mg base
 bs:∀b o,base.get? b=some o->s.heap.get? b=some o/\H b=none
 bsz:base.objs.size<=s.heap.objs.size
 funs:s.heap.FunFrames base outer
 frf:∀b∈frs outer,H b=none
 hok:HOk P w H s.heap
 bare:AllBare s.gens
noncomputable def CE (outer:List Env) (P:Program) (w:World) (H:Hp) (s:Shared) (Q:VK) (u:Value) (s':Shared):Prop :=
 ∃v H',s'.os=s.os/\AllBare s'.gens/\Un (frs outer) [] H H' s.heap s'.heap/\HOk P w H' s'.heap/\RelV v u/\Q v H'
noncomputable def CR (CX:CXT) (outer:List Env) (P:Program) (w:World) (H:Hp) (s:Shared) (Q:VK) (E:XK) (r:Result) (s':Shared):Prop :=
 match r with
 | .ok (.ret u)=>CE outer P w H s Q u s'
 | .ok _=>False
 | .error e=>CX outer H s E e s'
structure aH (P:Program) (w:World) (K:PySem.W.Frag) (mg:Str->Option Value) (base:Heap) (CX:CXT) (k:Nat) (f:Addr) (fd:FuncData) (ps:List Str) (sp:Sp):Prop where
 len:∀vs H Q E,sp vs H Q E->vs.length=ps.length
 run:∀(A:Around) (outer:List Env) (s:Shared) (H:Hp) (args:Args) (us:List Value) (vs:List V) (Q:VK) (E:XK),aN k A->eN P w K mg base A outer s H->BindsTo s fd args (ps.zip us)->ar vs us->sp vs H Q E ->
  codeAny (model P w) A (.call (.ref f) args) (CR CX outer P w H s Q E) s
theorem aH.imp {P:Program}{w:World}{K:PySem.W.Frag}{mg:Str->Option Value}{base:Heap}{CX:CXT}{k:Nat}{f:Addr}{fd:FuncData}{ps:List Str}{sp sp':Sp} (F:aH P w K mg base CX k f fd ps sp)
  (h:∀vs H Q E,sp' vs H Q E->sp vs H Q E):aH P w K mg base CX k f fd ps sp' :=
 ⟨fun vs H Q E q=>F.len vs H Q E (h _ _ _ _ q),fun A outer s H args us vs Q E hr he hb hv hs=>F.run A outer s H args us vs Q E hr he hb hv (h _ _ _ _ hs)⟩
section
variable {X:Cx}{pins:List (Addr×Obj)}{σ:St}{H:Hp}{s s':Shared}
theorem Inv.env0 (I:Inv X pins σ H s):eN X.prog X.w X.K X.mg X.base X.A X.stack s H :=
 ⟨I.ok.frames,I.ok.mod,I.bs,Nat.le_trans I.ok.bsz I.sz,I.stack,I.stkFree,I.hok,I.bare⟩
theorem Inv.after {Q:VK}{u:Value} (I:Inv X pins σ H s) (h:CE X.stack X.prog X.w H s Q u s'):EP X pins σ Q u s':=by
 obtain⟨v,H',os,bare,un,hok,r,q⟩:=h
 obtain⟨hh,g,d,t,os'⟩:=s'
 obtain rfl:os'=s.os:=os
 exact⟨v,H',I.call (h':=hh) (g':=g) (d':=d) (t':=t) (ch:=[]) un hok bare (fun b z=>absurd z (by simp)),r,q⟩
end
noncomputable def fi (sp:Sp) (dvs:List V) (E:XK) (t:TA):TE:=fun σ H Q=>t σ H fun vs H1=>sp (vs++dvs) H1 Q E
noncomputable def Binds (K:PySem.W.Frag) (fd:FuncData) (ps:List Str) (ds:List Value):Prop :=
 ∀(s:Shared) (us:List Value),K.In s.heap->(us++ds).length=ps.length->BindsTo s fd ⟨us,[]⟩ (ps.zip (us++ds))
theorem Binds.all {K:PySem.W.Frag}{fd:FuncData}{ps:List Str} (h:∀us:List Value,us.length=ps.length->bindArgs fd ⟨us,[]⟩=pure (ps.zip us)):Binds K fd ps []:=fun s us _ hl=>by
 rw [List.append_nil] at hl ⊢
 exact .of_eq (h us hl)
noncomputable def dP (CX:CXT) (X:Cx) (E:XK):Prop:=∀(pins:List (Addr×Obj)) (σ:St) (H:Hp) (s:Shared) (e:Value) (s':Shared),Inv X pins σ H s->CX X.stack H s E e s'->X.xe e s'
section
variable {X:Cx}{CX:CXT}{k:Nat}{f C:Addr}{fd:FuncData}{ps:List Str}{sp:Sp}{dvs:List V}{ds:List Value}{E:XK}{x m:Str}{p pos apos:Pos}{e o:Expr}{es:List Expr}{ta:TE}{t:TA}
theorem uk {pins:List (Addr×Obj)}{σ:St}{H:Hp}{s:Shared}{Q:VK}{us:List Value}{vs:List V} (F:aH X.prog X.w X.K X.mg X.base CX k f fd ps sp) (hr:aN k X.A) (hb:Binds X.K fd ps ds) (hd:ar dvs ds) (hx:dP CX X E)
  (I:Inv X pins σ H s) (r:ar vs us) (h:sp (vs++dvs) H Q E):wpAny (model X.prog X.w) X.A (call (.ref f) us) (EP X pins σ Q) X.xe s:=by
 have r2:ar (vs++dvs) (us++ds):=r.append hd
 have hl:(us++ds).length=ps.length:=by rw [<- r2.length];exact F.len _ _ _ _ h
 refine wpAny_call (codeAny_mono (F.run X.A X.stack s H ⟨us,[]⟩ (us++ds) (vs++dvs) Q E hr I.env0 (hb s us I.kIn hl) r2 h) fun r s' hq=>?_)
 cases r with
 | error e=>exact hx pins σ H s e s' I hq
 | ok fl =>
  cases fl with
  | ret u=>exact I.after hq
  | next=>exact False.elim hq
  | brk=>exact False.elim hq
  | cont=>exact False.elim hq
theorem mw (F:aH X.prog X.w X.K X.mg X.base CX k f fd ps sp) (hr:aN k X.A) (hg:Gl X x) (hm:X.mg x=some (.ref f)) (hk:PySem.W.keepIn X.K (.ref f)=true) (hb:Binds X.K fd ps ds) (hd:ar dvs ds) (hx:dP CX X E)
  (ha:PA X (e::es) t) (hdb:(x == ("__debug__":Str))=false:=by decide) (he:starEach (e::es) X.env=(false,eval e X.env)::starEach es X.env:=by rfl) (hpl:(backTo pos (starEach es X.env)).any (·.1)=false:=by rfl) :
  PE X (.Call (.Name x p) (e::es) [] pos) (fi sp dvs E t):=by
 intro pins s σ H Q I h
 refine wpAny_Call_Name_kw (eX I hg hm ?_ hdb)
 refine PySem.W.callWith_K (h₀:=X.base) I.ok.mod.kin hk (thn (ha pos pins s σ H _ I h) fun us s1 ⟨vs,H1,I1,r,q⟩=>⟨I1.kIn,?_⟩) he hpl
 exact uk F hr hb hd hx I1 r q
structure Mk (K:PySem.W.Frag) (C f:Addr):Prop where
 makes:PySem.W.makesIn K C=true
 init:PySem.W.findIn K (.ref C) "__init__"=some (some (.ref f))
 fn:PySem.W.isFn K (.ref f)=true
 kp:PySem.W.keepIn K (.ref C)=true
end
section
variable {X:Cx}{CX:CXT}{k:Nat}{f C:Addr}{fd:FuncData}{ps ks:List Str}{sp:Sp}{E:XK}{x m:Str}{p pos apos kpos:Pos}{e o:Expr}{es:List Expr}{kws:List Keyword}{te ta:TE}{t tk:TA}{nm:Option Str}
structure vH (K:PySem.W.Frag) (fd:FuncData) (ps ks:List Str) (g:List Value->List Value->List Value) (gV:List V->List V->List V):Prop where
 to:∀(s:Shared) (us ws:List Value),K.In s.heap->(g us ws).length=ps.length->BindsTo s fd ⟨us,ks.zip ws⟩ (ps.zip (g us ws))
 rel:∀{vs:List V}{us:List Value}{zs:List V}{ws:List Value},ar vs us->ar zs ws->ar (gV vs zs) (g us ws)
variable {g:List Value->List Value->List Value}{gV:List V->List V->List V}
end
structure aR (N P:List Str) (sc:Scope):Prop where
 kind:sc.kind=.function
 co:sc.isCoroutine=false
 gen:sc.isGenerator=false
 nd:N.Nodup
 pre:N.take P.length=P
 par:∀x∈P,sc.names.lookup x=some .local\/sc.names.lookup x=some .cell
 nofree:∀y∈sc.names,y.2≠.free
theorem ky {kindOf:Str->Option NameKind}{x:Str}:∀{binds:List (Str×Value)}{m:Str->Option Value},(∀v,(x,v)∉binds)->bindL kindOf binds m x=m x
 | [],_,_=>rfl
 | (n,v)::r,m,h=>by
  unfold bindL
  rw [ky fun w hw=>h w (List.mem_cons_of_mem _ hw)]
  split
  ·have:x≠n:=by rintro rfl;exact h v List.mem_cons_self
   simp [this]
  ·rfl
theorem ku {kindOf:Str->Option NameKind}{x:Str}:∀{binds:List (Str×Value)}{m:Str->Option Value},(∀v,(x,v)∉binds)->bindC kindOf binds m x=m x
 | [],_,_=>rfl
 | (n,v)::r,m,h=>by
  unfold bindC
  rw [ku fun w hw=>h w (List.mem_cons_of_mem _ hw)]
  split
  ·rfl
  ·have:x≠n:=by rintro rfl;exact h v List.mem_cons_self
   simp [this]
theorem iI {kindOf:Str->Option NameKind}{x:Str}{v:Value}:∀{P:List Str}{vs:List Value}{i:Nat}{m:Str->Option Value},P.Nodup->P[i]?=some x->vs[i]?=some v->kindOf x=some .local ->
  bindL kindOf (P.zip vs) m x=some v
 | [],_,_,_,_,h,_,_=>by simp at h
 | _::_,[],_,_,_,_,h,_=>by simp at h
 | p::P,w::vs,0,m,nd,h1,h2,hk=>by
  simp at h1 h2;subst h1;subst h2
  show bindL kindOf ((p,w)::P.zip vs) m p=_
  unfold bindL
  rw [ky fun v hv=>(List.nodup_cons.mp nd).1 (List.of_mem_zip hv).1,if_pos hk]
  simp
 | p::P,w::vs,i + 1,m,nd,h1,h2,hk=>by
  show bindL kindOf ((p,w)::P.zip vs) m x=_
  unfold bindL
  exact iI (i:=i) (List.nodup_cons.mp nd).2 (by simpa using h1) (by simpa using h2) hk
theorem iS {kindOf:Str->Option NameKind}{x:Str}{v:Value}:∀{P:List Str}{vs:List Value}{i:Nat}{m:Str->Option Value},P.Nodup->P[i]?=some x->vs[i]?=some v->kindOf x≠some .local ->
  bindC kindOf (P.zip vs) m x=some v
 | [],_,_,_,_,h,_,_=>by simp at h
 | _::_,[],_,_,_,_,h,_=>by simp at h
 | p::P,w::vs,0,m,nd,h1,h2,hk=>by
  simp at h1 h2;subst h1;subst h2
  show bindC kindOf ((p,w)::P.zip vs) m p=_
  unfold bindC
  rw [ku fun v hv=>(List.nodup_cons.mp nd).1 (List.of_mem_zip hv).1,if_neg hk]
  simp
 | p::P,w::vs,i + 1,m,nd,h1,h2,hk=>by
  show bindC kindOf ((p,w)::P.zip vs) m x=_
  unfold bindC
  exact iS (i:=i) (List.nodup_cons.mp nd).2 (by simpa using h1) (by simpa using h2) hk
noncomputable def start (N:List Str) (vs:List V):St:=vs.map some++List.replicate (N.length - vs.length) none
noncomputable def aE (CX:CXT) (P:Program) (w:World) (K:PySem.W.Frag) (mg:Str->Option Value) (base:Heap) (N:List Str) (qual:Str) (scope:Scope) (f:Addr) (cd:Value) (A:Around) (outer:List Env) (s:Shared) (H:Hp) (E:XK):Cx where
 prog:=P
 w:=w
 K:=K
 mg:=mg
 base:=base
 A:=A.deeper (envOfC qual scope s.heap.objs.size f cd)
 N:=N
 s₀:=s
 H₀:=H
 env:=envOfC qual scope s.heap.objs.size f cd
 outer:=outer
 stack:=envOfC qual scope s.heap.objs.size f cd::outer
 ex:=[]
 calm:=true
 fn:=fun _=>true
 pn:=[]
 xe:=fun e s'=>wpAny (model P w) (A.deeper (envOfC qual scope s.heap.objs.size f cd)) (leaving (envOfC qual scope s.heap.objs.size f cd) e) (fun _ s''=>CX outer H s E e s'') (fun e' s''=>CX outer H s E e' s'') s'
theorem gw {sc:Scope}{n:Nat}{x:Str} (h:sc.names.lookup x=some .cell):∃c,(cellsFrom n sc.names []).lookup x=some c:=by
 have q:=PySem.W.cellsFrom_some sc.names n [] (.inl h)
 exact Option.isSome_iff_exists.mp q
theorem qg {CX:CXT}{P:Program}{w:World}{K:PySem.W.Frag}{mg:Str->Option Value}{base:Heap}{N ps:List Str}{qual:Str}{scope:Scope}{f:Addr}{cd:Value}{A:Around}{outer:List Env}{s s1:Shared}{H:Hp}{E:XK}{us:List Value}{vs:List V}
  (S:aR N ps scope) (hd:A.handled=none) (e0:eN P w K mg base A outer s H) (hl:vs.length=ps.length) (r:ar vs us)
  (x:InCallC s s.heap.objs.size (bindL (envOfC qual scope s.heap.objs.size f cd).kindOf (ps.zip us) fun _=>none) (cellsFrom (s.heap.objs.size + 1) scope.names []) (bindC (envOfC qual scope s.heap.objs.size f cd).kindOf (ps.zip us) fun _=>none) s1) :
  Inv (aE CX P w K mg base N qual scope f cd A outer s H E) [] (start N vs) H s1:=by
 have hpl:ps.length<=N.length:=by have:=congrArg List.length S.pre;rw [List.length_take] at this;omega
 obtain⟨h1,tk,rfl,hk⟩:=x.done
 have noA:∀b:Addr,b∉(aE CX P w K mg base N qual scope f cd A outer s H E).ex:=fun b z=>absurd (show b∈([]:List Addr) from z) (by simp)
 refine⟨⟨e0.mod,S.kind,rfl,rfl,Nat.le_refl _,fun y z c h1 h2=>?_,fun y hy=>?_,fun y c _ h=>?_,fun _=>hd,Around.frames_deeper e0.frames,.inr ⟨rfl,rfl⟩,fun b z=>absurd z (noA b),e0.bs,e0.bsz,fun b _ _=>noA b,fun b z=>absurd z (noA b),e0.funs,e0.frf⟩,
  rfl,e0.bare,Un.kept hk,⟨_,x.toInCall.ns,fun i y v h1 h2 h3=>?_⟩,fun y c h=>⟨_,x.cell y c h⟩,e0.hok.fresh (Nat.le_refl _),fun y c h=>?_,fun p hp=>absurd (show p∈([]:List (Addr×Obj)) from hp) (by simp),e0.hok.kept hk,?_⟩
 ·exact name_of_addr x.apart (PySem.mem_of_lookup h1) (PySem.mem_of_lookup h2)
 ·have hy:scope.names.lookup y=some .cell\/scope.names.lookup y=some .free:=hy
  rcases hy with hy | hy
  ·exact gw hy
  ·exact absurd rfl (S.nofree _ (PySem.mem_of_lookup hy))
 ·exact Nat.le_of_lt (x.above y c (PySem.mem_of_lookup h))
 ·have hi:i < vs.length:=by
   unfold start at h2
   by_cases hi:i < vs.length
   ·exact hi
   ·rw [List.getElem?_append_right (by simpa using hi)] at h2
    rw [List.getElem?_replicate] at h2
    split at h2 <;> cases h2
  have ha:vs[i]?=some v:=by
   unfold start at h2
   rw [List.getElem?_append_left (by simpa using hi),List.getElem?_map] at h2
   cases e:vs[i]? with
   | none=>rw [e] at h2;cases h2
   | some a=>rw [e] at h2;cases h2;rfl
  obtain⟨u,hu,rv⟩:=r.get ha
  have hp:ps[i]?=some y:=by
   rw [<- S.pre,List.getElem?_take_of_lt (by omega)];exact h1
  have ndP:ps.Nodup:=by rw [<- S.pre];exact S.nd.sublist (List.take_sublist _ _)
  refine⟨u,rv,?_⟩
  rcases S.par y (List.mem_of_getElem? hp) with k | k
  ·exact .inl ⟨k,iI ndP hp hu k⟩
  ·obtain⟨c,e⟩:=gw (n:=s.heap.objs.size + 1) k
   refine .inr ⟨.inl k,c,e,?_⟩
   have q:=x.cell y c e
   rw [iS ndP hp hu (by show scope.names.lookup y≠_;rw [k];decide)] at q
   exact q
 ·exact e0.hok.fresh (Nat.le_of_lt (x.above y c (PySem.mem_of_lookup h)))
 ·unfold start
  show _=N.length
  rw [List.length_append,List.length_map,List.length_replicate]
  omega
theorem nk {CX:CXT}{P:Program}{w:World}{K:PySem.W.Frag}{mg:Str->Option Value}{base:Heap}{k:Nat}{f:Addr}{name qual:Str}{params:Arguments}{body:List Stmt}{scope:Scope}{dV kV doc pm cdv ct oc:Value}{an od:Option Addr}
  {osl:Array (Option Value)}{N ps:List Str}{sp:Sp} (lk:K.lookup f=some ⟨oc,od,.func (PySem.W.fnOf name qual params body scope dV kV doc pm an cdv ct),osl⟩) (hcd:PySem.W.codeIn K cdv qual=true) (S:aR N ps scope)
  (len:∀vs H Q E,sp vs H Q E->vs.length=ps.length)
  (hbody:∀(A:Around) (outer:List Env) (s:Shared) (H:Hp) (vs:List V) (Q:VK) (E:XK),aN k (A.deeper (envOfC qual scope s.heap.objs.size f cdv))->sp vs H Q E ->
   ∃t,PSs (aE CX P w K mg base N qual scope f cdv A outer s H E) body t/\t { nx:=fun _ H'=>Q .non H',rt:=Q } (start N vs) H) :
  aH P w K mg base CX (k + 1) f (PySem.W.fnOf name qual params body scope dV kV doc pm an cdv ct) ps sp:=by
 refine⟨len,fun A outer s H args us vs Q E hr e0 hb r hsp=>?_⟩
 have hl:=len _ _ _ _ hsp
 have KX:K.In s.heap:=e0.mod.kin.keeps fun b o e=>(e0.bs b o e).1
 have lim:s.heap.NoLimit:=e0.mod.nolimit.keeps fun b o e=>(e0.bs b o e).1
 have hkind:∀y∈ps.zip us,scope.names.lookup y.1=some .local\/(scope.names.lookup y.1=some .cell/\((cellsFrom (s.heap.objs.size + 1) scope.names []).lookup y.1).isSome=true):=fun ⟨n,v⟩ hy=>by
  rcases S.par n (List.of_mem_zip hy).1 with q | q
  ·exact .inl q
  ·exact .inr ⟨q,PySem.W.cellsFrom_some _ _ _ (.inl q)⟩
 refine codeAny_call_function hr.depth (KX _ _ lk) rfl S.co S.gen rfl (PySem.W.codeRec_of KX hcd) (hb _ _ _ _ ?_)
 refine wpAny_newFunctionEnv_cells S.kind hkind fun env he s1 x=>?_
 subst he
 refine⟨lim.keeps x.toInCall.keep,codeAny_func ?_⟩
 obtain⟨t,ht,hq⟩:=hbody A outer s H vs Q E (hr.deeper _) hsp
 have I:Inv (aE CX P w K mg base N qual scope f cdv A outer s H E) [] (start N vs) H s1:=qg S hr.hd e0 hl r x
 refine wpAny_mono (ht [] s1 (start N vs) H _ I hq) (fun fl s' hs=>?_) fun e s' hs=>hs
 have fin:∀{σ':St}{H':Hp}{v:V}{u:Value},Inv (aE CX P w K mg base N qual scope f cdv A outer s H E) [] σ' H' s'->RelV v u->Q v H'->CE outer P w H s Q u s' :=
  fun {σ' H' v u} J rv q=>⟨v,H',J.os,J.bare,J.base,J.hok,rv,q⟩
 cases fl with
 | ret u =>
  obtain⟨v,σ',H',J,rv,q⟩:=hs
  exact fin J rv q
 | next =>
  obtain⟨σ',H',J,q⟩:=hs
  exact fin (v:=V.non) (u:=Value.none) J rfl q
 | brk =>
  obtain⟨_,_,_,q⟩:=hs
  exact False.elim q
 | cont =>
  obtain⟨_,_,_,q⟩:=hs
  exact False.elim q
section
variable {X:Cx}{x:Str}{p pos:Pos}{e:Expr}{es:List Expr}{t:TA}{id T:String}{r:List V->Hp->VK->Prop}
noncomputable def tCB (r:List V->Hp->VK->Prop) (t:TA):TE:=fun σ H Q=>t σ H fun vs H1=>r vs H1 Q
theorem aA (hc:bz X (.builtin id) r) (hg:Gl X x) (hm:X.mg x=none) (hv:bootBuiltins x=some (.builtin id)) (ha:PA X (e::es) t) (hn:x≠"__name__":=by decide) (hdb:(x == ("__debug__":Str))=false:=by decide)
  (he:starEach (e::es) X.env=(false,eval e X.env)::starEach es X.env:=by rfl) (hpl:(backTo pos (starEach es X.env)).any (·.1)=false:=by rfl):PE X (.Call (.Name x p) (e::es) [] pos) (tCB r t):=by
 intro pins s σ H Q I h
 refine wpAny_Call_Name_kw (fN I hg hm hv ?_ hn hdb)
 exact PyProof.Rows.callWith_builtin1 (thn (ha pos pins s σ H _ I h) fun us s1 ⟨vs,H1,I1,r1,q1⟩=>hc pins s1 σ H1 vs us Q I1 r1 q1) he hpl
theorem bT (hc:bz X (.type T) r) (hg:Gl X x) (hm:X.mg x=none) (hv:bootBuiltins x=some (.type T)) (ha:PA X (e::es) t) (hn:x≠"__name__":=by decide) (hdb:(x == ("__debug__":Str))=false:=by decide)
  (he:starEach (e::es) X.env=(false,eval e X.env)::starEach es X.env:=by rfl) (hpl:(backTo pos (starEach es X.env)).any (·.1)=false:=by rfl):PE X (.Call (.Name x p) (e::es) [] pos) (tCB r t):=by
 intro pins s σ H Q I h
 refine wpAny_Call_Name_kw (fN I hg hm hv ?_ hn hdb)
 exact PyProof.Rows.callWith_type1 (thn (ha pos pins s σ H _ I h) fun us s1 ⟨vs,H1,I1,r1,q1⟩=>hc pins s1 σ H1 vs us Q I1 r1 q1) he hpl
end
end L2
namespace HT
open PySem PyProof.Rows
section
open PySem.SeqAt
open PySem.AutoSeq1 (wpAny_loadPart')
open PySem.MeetsSeq PySem.MeetsSeq2 PySem.MeetsSeq3
end
section
variable {prog:Program}{w:World}{A:Around}{E:Value->Shared->Prop}{s:Shared}
noncomputable def sIx (n d:Nat):Option Int->Nat
 | none=>d
 | some v=>if v < 0 then (v + (n:Int)).toNat else min v.toNat n
end
end HT
namespace L2
open PySem PySem.Spec PyProof.Rows
noncomputable abbrev TO:=St->Hp->(Option Int->Hp->Prop)->Prop
noncomputable def PO (X:Cx) (e:Option Expr) (t:TO):Prop :=
 ∀(pins:List (Addr×Obj)) (s:Shared) (σ:St) (H:Hp) (Q:Option Int->Hp->Prop),Inv X pins σ H s->t σ H Q ->
  wpAny (model X.prog X.w) X.A (evalPart e X.env) (fun u s'=>∃o H',Inv X pins σ H' s'/\IsPart u o/\Q o H') X.xe s
noncomputable def lT:TO:=fun _ H Q=>Q none H
noncomputable def jA (t:TE):TO:=fun σ H Q=>t σ H fun x H1=>∃i,x=.int i/\Q (some i) H1
section
variable {X:Cx}{e:Expr}{te:TE}{lo hi:Option Expr}{tl th:TO}{pos p2:Pos}
theorem ba:PO X none lT:=by
 intro pins s σ H Q I h
 rw [evalPart_none]
 exact wpAny_pure ⟨none,H,I,.none,h⟩
theorem bb (h:PE X e te):PO X (some e) (jA te):=by
 intro pins s σ H Q I hw
 rw [evalPart_some]
 refine thn (h pins s σ H _ I hw) fun u s1 ⟨x,H1,I1,r1,q1⟩=>?_
 obtain⟨i,rfl,q⟩:=q1
 obtain⟨t,rfl⟩:=r1
 exact⟨some i,H1,I1,.int i t,q⟩
noncomputable def SlR (X:Cx) (r:V->Option Int->Option Int->Hp->VK->Prop):Prop :=
 ∀(pins:List (Addr×Obj)) (s:Shared) (σ:St) (H:Hp) (x:V) (v vl vu:Value) (lo hi:Option Int) (sl:Addr) (Q:VK),Inv X pins σ H s->RelV x v->s.heap.IsSliceOf sl vl vu .none->IsPart vl lo->IsPart vu hi->r x lo hi H Q ->
  ∃T id,typeLookup (.type T) "__getitem__"=pure (some (.builtin id))/\s.TypeIs v T/\wpAny (model X.prog X.w) X.A (getItem v (.ref sl)) (EP X pins σ Q) X.xe s
noncomputable def tSl (r:V->Option Int->Option Int->Hp->VK->Prop) (te:TE) (tl th:TO):TE:=fun σ H Q=>te σ H fun x H1=>tl σ H1 fun l H2=>th σ H2 fun u H3=>r x l u H3 Q
theorem aZ {r:V->Option Int->Option Int->Hp->VK->Prop} (hr:SlR X r) (he:PE X e te) (hl:PO X lo tl) (hu:PO X hi th):PE X (.Subscript e (.Slice lo hi none p2) pos) (tSl r te tl th):=by
 intro pins s σ H Q I h
 refine Subscript_ (thn (he pins s σ H _ I h) fun v s1 ⟨x,H1,I1,r1,q1⟩=>?_)
 refine wpAny_Slice (thn (hl pins s1 σ H1 _ I1 q1) fun vl s2 ⟨l,H2,I2,pl,q2⟩=>thn (hu pins s2 σ H2 _ I2 q2) fun vu s3 ⟨u,H3,I3,pu,q3⟩=>?_)
 rw [evalPart_none]
 refine wpAny_pure ?_
 have I4:Inv X pins σ H3 { s3 with heap:=s3.heap.push { cls:=.type "slice",data:=.fields #[vl,vu,.none] } }:=I3.kept (t':=s3.toks) fun b ob q=>Heap.get?_push_of_some _ q
 obtain⟨T,id,hT,ht,hg⟩:=hr pins { s3 with heap:=s3.heap.push { cls:=.type "slice",data:=.fields #[vl,vu,.none] } } σ H3 x v vl vu l u s3.heap.objs.size Q I4 r1 (Heap.IsSliceOf.new ..) pl pu q3
 show wpAny (model X.prog X.w) X.A (subscriptTail e (.Slice lo hi none p2) v (.ref s3.heap.objs.size)) (EP X pins σ Q) X.xe { s3 with heap:=s3.heap.push { cls:=.type "slice",data:=.fields #[vl,vu,.none] } }
 exact tail_any (ops:=[.ref s3.heap.objs.size,v]) ht hT hg (by with_unfolding_all rfl)
noncomputable def bE (xs:List V) (lo hi:Option Int):List V:=(xs.drop (HT.sIx xs.length 0 lo)).take (HT.sIx xs.length xs.length hi - HT.sIx xs.length 0 lo)
theorem oW (xs:List V) (lo hi:Option Int):(bE xs lo hi).length<=xs.length:=by
 unfold bE
 rw [List.length_take,List.length_drop]
 omega
end
noncomputable def ixN (n:Nat) (i:Int):Option Nat:=if 0<=i then (if i < n then some i.toNat else none) else if -(n:Int)<=i then some (i + n).toNat else none
noncomputable def atI {α:Type} (xs:List α) (i:Int):Option α:=(ixN xs.length i).bind fun j=>xs[j]?
theorem mh {n:Nat}{i:Int}{j:Nat} (h:ixN n i=some j):seqIndex? i n=some j/\j < n/\-(n:Int)<=i/\i < n:=by
 unfold ixN at h
 by_cases h0:0<=i
 ·rw [if_pos h0] at h
  by_cases h1:i < n
  ·rw [if_pos h1] at h
   have e:i.toNat=j:=Option.some.inj h
   exact⟨by rw [seqIndex_of h0 h1,e],by omega,by omega,h1⟩
  ·rw [if_neg h1] at h;cases h
 ·rw [if_neg h0] at h
  by_cases h1:-(n:Int)<=i
  ·rw [if_pos h1] at h
   have e:(i + n).toNat=j:=Option.some.inj h
   exact⟨by rw [seqIndex_neg (by omega) h1,e],by omega,h1,by omega⟩
  ·rw [if_neg h1] at h;cases h
theorem jh {α:Type}{xs:List α}{i:Int}{v:α} (h:atI xs i=some v):∃j,seqIndex? i xs.length=some j/\xs[j]?=some v/\j < xs.length/\-(xs.length:Int)<=i/\i < xs.length:=by
 unfold atI at h
 cases e:ixN xs.length i with
 | none=>rw [e] at h;cases h
 | some j =>
  rw [e] at h
  obtain⟨h1,h2,h3,h4⟩:=mh e
  exact⟨j,h1,h,h2,h3,h4⟩
theorem sM {α:Type}{xs:List α}{j:Nat}{v:α} (h:xs[j]?=some v):atI xs (j:Int)=some v:=by
 have hj:j < xs.length:=(List.getElem?_eq_some_iff.mp h).1
 have e:ixN xs.length (j:Int)=some j:=by
  unfold ixN
  rw [if_pos (by omega),if_pos (by omega)];simp
 unfold atI;rw [e];exact h
theorem i4 {α:Type} (xs:List α) (v:α):atI (xs++[v]) (-1)=some v:=by
 have hl:(xs++[v]).length=xs.length + 1:=by simp
 have e:ixN (xs++[v]).length (-1)=some xs.length:=by
  unfold ixN
  rw [hl,if_neg (by decide),if_pos (by omega)]
  congr 1
  omega
 unfold atI
 rw [e]
 show (xs++[v])[xs.length]?=some v
 simp
noncomputable def sr (b:Expr):Prop:=∀o i,subscripted b false o i=operate [o,i] (getItem o i)
noncomputable def IxR (X:Cx) (r:R2):Prop :=
 ∀(value slice:Expr) (pins:List (Addr×Obj)) (s:Shared) (σ:St) (H:Hp) (x y:V) (v u:Value) (Q:VK),Inv X pins σ H s->RelV x v->RelV y u->r x y H Q ->
  subscripted slice false v u=operate [v,u] (getItem v u)->wpAny (model X.prog X.w) X.A (subscriptTail value slice v u) (EP X pins σ Q) X.xe s
noncomputable def MtR (X:Cx) (id:String) (r:V->List V->Hp->VK->Prop):Prop :=
 ∀(pins:List (Addr×Obj)) (s:Shared) (σ:St) (H:Hp) (x:V) (xs:List V) (v:Value) (us:List Value) (Q:VK),Inv X pins σ H s->RelV x v->ar xs us->r x xs H Q ->
  wpAny (model X.prog X.w) X.A (call (.builtin id) (v::us)) (EP X pins σ Q) X.xe s
section
variable {X:Cx}{a b:Expr}{ta tb:TE}{pos:Pos}
theorem IxR.or {r r':R2} (h:IxR X r) (h':IxR X r'):IxR X (fun x y H Q=>r x y H Q\/r' x y H Q):=by
 intro value slice pins s σ H x y v u Q I rx ry q hs
 rcases q with q | q
 ·exact h value slice pins s σ H x y v u Q I rx ry q hs
 ·exact h' value slice pins s σ H x y v u Q I rx ry q hs
theorem aG {r:R2} (hr:IxR X r) (ha:PE X a ta) (hb:PE X b tb) (hs:sr b):PE X (.Subscript a b pos) (tOp r ta tb):=by
 intro pins s σ H Q I h
 exact Subscript_ (jH ha hb I h fun v u s2 x y H2 I2 rx ry q=>hr a b pins s2 σ H2 x y v u Q I2 rx ry q (hs _ _))
noncomputable def nZ (K:PySem.W.Frag):R2:=fun x y H Q=>∃p xs i v,x=.ref p/\y=.int i/\SqL K H p xs/\atI xs i=some v/\Q v H
noncomputable def nM (K:PySem.W.Frag):R2:=fun x y H Q=>∃p xs i v,x=.ref p/\y=.int i/\SqT K H p xs/\atI xs i=some v/\Q v H
noncomputable def nU:R2:=fun x y H Q=>∃z i c,x=.str z/\y=.int i/\z.length<=sizeLine/\atI z.cps.toList i=some c/\Q (.str ⟨#[c]⟩) H
theorem sD:IxR X (nZ X.K):=by
 intro value slice pins s σ H x y v u Q I rx ry h hs
 obtain⟨p,xs,i,z,rfl,rfl,hq,he,q⟩:=h
 cases rx
 obtain⟨t,rfl⟩:=ry
 obtain⟨its,r,pl,hz⟩:=I.list hq
 obtain⟨j,h1,h2,h3,h4,h5⟩:=jh he
 obtain⟨w,ew,rw'⟩:=r.get h2
 have hl:=r.length
 have hn:=eZ
 have fin:EP X pins σ Q w s:=⟨z,H,I,rw',q⟩
 by_cases h0:0<=i
 ·have hj:i.toNat=j:=by
   rw [seqIndex_of h0 h5] at h1
   exact Option.some.inj h1
  exact item_listR pl.isList h0 (by omega) (by rw [hj];simpa using ew) fin hs
 ·have hj:(i + (its.toArray.size:Int)).toNat=j:=by
   rw [seqIndex_neg (by omega) h4] at h1
   rw [List.size_toArray,<- hl]
   exact Option.some.inj h1
  exact subscriptTail_builtinR (x:=w) pl.isList.typeIs slot_list_getitem.lookup
   (wpAny_getItem_list_neg (Q:=fun r s'=>r=w/\EP X pins σ Q r s') pl.isList (by omega) (by rw [List.size_toArray] <;> omega) (by omega) (by rw [hj];simpa using ew) ⟨rfl,fin⟩) hs
theorem tZ:IxR X (nM X.K):=by
 intro value slice pins s σ H x y v u Q I rx ry h hs
 obtain⟨p,xs,i,z,rfl,rfl,hq,he,q⟩:=h
 cases rx
 obtain⟨t,rfl⟩:=ry
 obtain⟨its,r,pl,hz⟩:=I.tuple hq
 obtain⟨j,h1,h2,h3,h4,h5⟩:=jh he
 obtain⟨w,ew,rw'⟩:=r.get h2
 have hl:=r.length
 have hn:=eZ
 have fin:EP X pins σ Q w s:=⟨z,H,I,rw',q⟩
 exact subscriptTail_builtinR (x:=w) pl.typeIs slot_tuple_getitem.lookup
  (getItem_tuple (j:=j) (Q:=fun r s'=>r=w/\EP X pins σ Q r s') pl (by omega) (by omega) (by rw [List.size_toArray,<- hl];exact h1) (by simpa using ew) ⟨rfl,fin⟩) hs
theorem uy:IxR X nU:=by
 intro value slice pins s σ H x y v u Q I rx ry h hs
 obtain⟨z,i,c,rfl,rfl,hz,he,q⟩:=h
 obtain⟨t,rfl⟩:=rx
 obtain⟨t',rfl⟩:=ry
 obtain⟨j,h1,h2,h3,h4,h5⟩:=jh he
 have hl:z.cps.toList.length=z.length:=by simp [Str.length]
 rw [hl] at h1 h4 h5
 have hn:=eZ
 exact tail_any (typeIs_str s z t) slot_str_getitem.lookup (getItem_str (c:=c) (by
  have e1:decide (i < -(2 ^ 63:Int))=false:=decide_eq_false (by omega)
  have e2:decide (i ≥ 2 ^ 63)=false:=decide_eq_false (by omega)
  rw [e1,e2,Bool.or_false]) (by rw [h1];simpa using h2) ⟨.str ⟨#[c]⟩,H,I.tok _,⟨_,rfl⟩,q⟩) hs
noncomputable def rIx (K:PySem.W.Frag):R2:=fun x y H Q=>nZ K x y H Q\/nM K x y H Q\/nU x y H Q
theorem aP:IxR X (rIx X.K):=sD.or (tZ.or uy)
theorem pG (its:List Value) (n j:Nat) (u:Value):Obj.mapSeq (·.setIfInBounds j u) { cls:=.type "list",data:=.seq its.toArray n }={ cls:=.type "list",data:=.seq (its.set j u).toArray n }:=by
 simp [Obj.mapSeq]
theorem Inv.lst {pins:List (Addr×Obj)}{σ:St}{H:Hp}{s:Shared}{p:Addr}{xs:List V} (I:Inv X pins σ H s) (h:H p=some (.lst xs)) :
  ∃(its:List Value) (n:Nat),ar xs its/\s.heap.get? p=some { cls:=.type "list",data:=.seq its.toArray n }/\xs.length<=sizeLine:=by
 obtain⟨z,its,n,r,e⟩:=I.hok p _ h
 exact⟨its,n,r,e,z⟩
theorem Inv.lstUpd {pins:List (Addr×Obj)}{σ:St}{H:Hp}{s:Shared}{p:Addr}{xs ys:List V}{its its':List Value}{n n':Nat}{f:Obj->Obj} (I:Inv X pins σ H s) (h:H p=some (.lst xs))
  (ho:s.heap.get? p=some { cls:=.type "list",data:=.seq its.toArray n }) (hf:f { cls:=.type "list",data:=.seq its.toArray n }={ cls:=.type "list",data:=.seq its'.toArray n' }) (r:ar ys its') (hz:ys.length<=sizeLine) (t:Nat) :
  Inv X pins σ (upd H p (.lst ys)) { s with heap:=s.heap.update p f,toks:=t }:=by
 have e:(s.heap.update p f).get? p=some { cls:=.type "list",data:=.seq its'.toArray n' }:=by
  rw [Heap.get?_update_self f ho (by rw [hf] <;> rfl),hf]
 refine I.write (x:=p) (e:=p) (by rw [h];trivial) (.inl rfl) (fun b u hb q=>(Heap.get?_update_other _ _ (Ne.symm hb)).trans q) ⟨_,e⟩ ?_
 exact⟨hz,its',n',r,e⟩
noncomputable def u9:V->V->V->Hp->(Hp->Prop)->Prop:=fun o i v H Q=>∃p xs k j,o=.ref p/\i=.int k/\H p=some (.lst xs)/\ixN xs.length k=some j/\Q (upd H p (.lst (xs.set j v)))
theorem set_list:nK X u9:=by
 intro pins s σ H o i v ov iv u Q I ro ri rv h
 obtain⟨p,xs,k,j,rfl,rfl,hp,hj,q⟩:=h
 cases ro
 obtain⟨t,rfl⟩:=ri
 obtain⟨its,n,r,ho,hz⟩:=I.lst hp
 obtain⟨h1,h2,h3,h4⟩:=mh hj
 have hl:=r.length
 have hn:=eZ
 have I':Inv X pins σ (upd H p (.lst (xs.set j v))) { s with heap:=s.heap.update p (Obj.mapSeq (·.setIfInBounds j u)) } :=
  I.lstUpd hp ho (pG its n j u) (r.set rv j) (by rw [List.length_set];exact hz) s.toks
 by_cases h0:0<=k
 ·have hk:k.toNat=j:=by
   rw [seqIndex_of h0 h4] at h1
   exact Option.some.inj h1
  exact PySem.W.ki_setAt ho h0 (by omega) (by rw [List.size_toArray,<- hl];exact h4) (by rw [hk];exact⟨_,I',q⟩)
 ·have hk:(k + (its.toArray.size:Int)).toNat=j:=by
   rw [seqIndex_neg (by omega) h3] at h1
   rw [List.size_toArray,<- hl]
   exact Option.some.inj h1
  exact PySem.W.ki_setBack ho (by omega) (by rw [List.size_toArray,<- hl];exact h3) (by omega) (by rw [hk];exact⟨_,I',q⟩)
theorem oR (lo hi:Option Int) (n:Nat):(sliceBounds lo hi none n).1=((HT.sIx n 0 lo:Nat):Int)/\(sliceBounds lo hi none n).2.1=((HT.sIx n n hi:Nat):Int)/\(sliceBounds lo hi none n).2.2=1:=by
 refine⟨?_,?_,rfl⟩
 ·cases lo with
  | none=>simp [sliceBounds,HT.sIx]
  | some i =>
   simp only [sliceBounds,HT.sIx,Option.getD_none,show (1:Int) > 0 by decide,if_true]
   by_cases h:i < 0
   ·simp only [h,if_true] <;> omega
   ·simp only [h,if_false] <;> omega
 ·cases hi with
  | none=>simp [sliceBounds,HT.sIx]
  | some i =>
   simp only [sliceBounds,HT.sIx,Option.getD_none,show (1:Int) > 0 by decide,if_true]
   by_cases h:i < 0
   ·simp only [h,if_true] <;> omega
   ·simp only [h,if_false] <;> omega
theorem ou (its:List Value) (lo hi:Option Int):slicePick its.toArray lo hi none=((its.drop (HT.sIx its.length 0 lo)).take (HT.sIx its.length its.length hi - HT.sIx its.length 0 lo)).toArray:=by
 obtain⟨h1,h2,h3⟩:=oR lo hi its.toArray.size
 unfold slicePick
 rw [h1,h2,h3]
 simp only [sliceRange_one,pick_run,List.size_toArray] <;> rfl
noncomputable def nY (K:PySem.W.Frag):V->Option Int->Option Int->Hp->VK->Prop:=fun x lo hi H Q=>∃a xs,x=.ref a/\SqL K H a xs/\∀p,H p=none->Q (.ref p) (upd H p (.lst (bE xs lo hi)))
theorem bA:SlR X (nY X.K):=by
 intro pins s σ H x v vl vu lo hi sl Q I rx hs pl pu h
 obtain⟨a,xs,rfl,hx,q⟩:=h
 cases rx
 obtain⟨its,r,ht,hz⟩:=I.list hx
 have hlen:=r.length
 refine⟨"list",_,slot_list_getitem.lookup,ht.isList.typeIs,?_⟩
 refine wpAny_getItem_list_slice ht.isList hs pl pu .none (by simp) ?_ (by rw [List.size_toArray] <;> omega)
 rw [ou,<- hlen]
 refine⟨.ref s.heap.objs.size,_,I.laid (t':=s.toks) (o:=.lst (bE xs lo hi)) (fun b ob q=>Heap.get?_push_of_some _ q) (Nat.le_refl _) ?_,rfl,q _ (I.hok.fresh (Nat.le_refl _))⟩
 exact⟨Nat.le_trans (oW xs lo hi) hz,_,0,(r.drop (HT.sIx xs.length 0 lo)).take (HT.sIx xs.length xs.length hi - HT.sIx xs.length 0 lo),Heap.get?_push_size _ rfl⟩
noncomputable def dz:V->Bool
 | .non=>true
 | .bl _=>true
 | .int _=>true
 | .str _=>true
 | _=>false
noncomputable def eqV:V->V->Bool
 | .non,.non=>true
 | .bl a,.bl b=>a == b
 | .bl a,.int b=>(if a then 1 else 0) == b
 | .int a,.bl b=>a == (if b then 1 else 0)
 | .int a,.int b=>a == b
 | .str a,.str b=>a == b
 | _,_=>false
theorem tM {A:Around}{s:Shared}{y x:V}{u v:Value} (ry:RelV y u) (rx:RelV x v) (fy:dz y=true) (fx:dz x=true):SeqAt.EqAt A s u v (eqV y x):=by
 cases y with
 | non =>
  cases ry
  cases x with
  | non=>cases rx;exact SeqAt.EqAt.same _
  | bl b=>cases rx;exact SeqAt.EqAt.none_bool b
  | int b=>obtain⟨t,rfl⟩:=rx;exact SeqAt.EqAt.none_int b t
  | str b=>obtain⟨t,rfl⟩:=rx;exact SeqAt.EqAt.none_str b t
  | _=>exact absurd (show false=true from fx) Bool.false_ne_true
 | bl a =>
  cases ry
  cases x with
  | non=>cases rx;exact SeqAt.EqAt.bool_none a
  | bl b=>cases rx;exact SeqAt.EqAt.bool_bool a b
  | int b=>obtain⟨t,rfl⟩:=rx;exact SeqAt.EqAt.bool_int a b t
  | str b=>obtain⟨t,rfl⟩:=rx;exact SeqAt.EqAt.bool_str a b t
  | _=>exact absurd (show false=true from fx) Bool.false_ne_true
 | int a =>
  obtain⟨t',rfl⟩:=ry
  cases x with
  | non=>cases rx;exact SeqAt.EqAt.int_none a t'
  | bl b=>cases rx;exact SeqAt.EqAt.int_bool a t' b
  | int b=>obtain⟨t,rfl⟩:=rx;exact SeqAt.EqAt.int_int a t' b t
  | str b=>obtain⟨t,rfl⟩:=rx;exact SeqAt.EqAt.int_str a t' b t
  | _=>exact absurd (show false=true from fx) Bool.false_ne_true
 | str a =>
  obtain⟨t',rfl⟩:=ry
  cases x with
  | non=>cases rx;exact SeqAt.EqAt.str_none a t'
  | bl b=>cases rx;exact SeqAt.EqAt.str_bool a t' b
  | int b=>obtain⟨t,rfl⟩:=rx;exact SeqAt.EqAt.str_int a t' b t
  | str b=>obtain⟨t,rfl⟩:=rx;exact SeqAt.EqAt.str_str a t' b t
  | _=>exact absurd (show false=true from fx) Bool.false_ne_true
 | _=>exact absurd (show false=true from fy) Bool.false_ne_true
noncomputable def eqU (x:V) (u:Value):Bool:=match u with
 | .none=>eqV .non x
 | .bool b=>eqV (.bl b) x
 | .int i _=>eqV (.int i) x
 | .str z _=>eqV (.str z) x
 | _=>false
theorem mE {x y:V}{u:Value} (r:RelV y u) (f:dz y=true):eqU x u=eqV y x:=by
 cases y with
 | non=>cases r;rfl
 | bl b=>cases r;rfl
 | int i=>obtain⟨t,rfl⟩:=r;rfl
 | str z=>obtain⟨t,rfl⟩:=r;rfl
 | _=>exact absurd (show false=true from f) Bool.false_ne_true
theorem fM {x:V}:∀{xs:List V}{us:List Value},ar xs us->xs.all dz=true->us.any (eqU x)=xs.any fun y=>eqV y x
 | _,_,.nil,_=>rfl
 | y::xs,u::us,.cons r t,f=>by
  rw [List.all_cons,Bool.and_eq_true] at f
  rw [List.any_cons,List.any_cons,mE r f.1,fM t f.2]
theorem fE {A:Around}{s:Shared}{x:V}{v:Value} (rx:RelV x v) (fx:dz x=true):∀{xs:List V}{us:List Value},ar xs us->xs.all dz=true->∀u∈us,SeqAt.EqAt A s u v (eqU x u)
 | _,_,.nil,_=>fun u hu=>by cases hu
 | y::xs,u::us,.cons r t,f=>fun u' hu=>by
  rw [List.all_cons,Bool.and_eq_true] at f
  rcases List.mem_cons.mp hu with rfl | hu
  ·rw [mE r f.1];exact tM r rx f.1 fx
  ·exact fE rx fx t f.2 u' hu
noncomputable def inV (x:V) (xs:List V):Bool:=xs.any fun y=>eqV y x
noncomputable def rIn (K:PySem.W.Frag) (neg:Bool):R2:=fun x y H Q=>∃p xs,y=.ref p/\(SqL K H p xs\/SqT K H p xs)/\dz x=true/\xs.all dz=true/\Q (.bl (if neg then !inV x xs else inV x xs)) H
theorem iL:OpR X (compareOp .In) (rIn X.K false):=by
 intro pins s σ H x y v u Q I rx ry h
 obtain⟨p,xs,rfl,hq,fx,fs,q⟩:=h
 cases ry
 rcases hq with hq | hq
 ·obtain⟨its,r,pl,hz⟩:=I.list hq
  refine SeqAt.in_listAt (eqU x) pl.isList (fun w hw=>fE rx fx r fs w (by simpa using hw)) ⟨.bl _,H,I,rfl,?_⟩
  rw [show its.toArray.any (eqU x)=its.any (eqU x) by simp,fM r fs]
  exact q
 ·obtain⟨its,r,pl,hz⟩:=I.tuple hq
  refine SeqAt.in_tupleAt (eqU x) pl (fun w hw=>fE rx fx r fs w (by simpa using hw)) ⟨.bl _,H,I,rfl,?_⟩
  rw [show its.toArray.any (eqU x)=its.any (eqU x) by simp,fM r fs]
  exact q
theorem oQ:OpR X (compareOp .NotIn) (rIn X.K true):=by
 intro pins s σ H x y v u Q I rx ry h
 obtain⟨p,xs,rfl,hq,fx,fs,q⟩:=h
 cases ry
 rcases hq with hq | hq
 ·obtain⟨its,r,pl,hz⟩:=I.list hq
  refine SeqAt.notIn_listAt (eqU x) pl.isList (fun w hw=>fE rx fx r fs w (by simpa using hw)) ⟨.bl _,H,I,rfl,?_⟩
  rw [show its.toArray.any (eqU x)=its.any (eqU x) by simp,fM r fs]
  exact q
 ·obtain⟨its,r,pl,hz⟩:=I.tuple hq
  refine SeqAt.notIn_tupleAt (eqU x) pl (fun w hw=>fE rx fx r fs w (by simpa using hw)) ⟨.bl _,H,I,rfl,?_⟩
  rw [show its.toArray.any (eqU x)=its.any (eqU x) by simp,fM r fs]
  exact q
theorem bo:bz X (.builtin "len") (fun xs H Q=>∃p ys,xs=[.ref p]/\(SqL X.K H p ys\/SqT X.K H p ys)/\Q (.int ys.length) H):=by
 intro pins s σ H xs us Q I r h
 obtain⟨p,ys,rfl,hq,q⟩:=h
 obtain⟨u,rfl,rx⟩:=vals1 r
 cases rx
 have hn:=eZ
 rcases hq with hq | hq
 ·obtain⟨its,r',pl,hz⟩:=I.list hq
  have hlen:=r'.length
  exact Calls.call_len_list pl.isList (by simp only [List.size_toArray] <;> omega) ⟨.int ys.length,H,I.tok _,⟨s.toks + 1,by rw [List.size_toArray,hlen]⟩,q⟩
 ·obtain⟨its,r',pl,hz⟩:=I.tuple hq
  have hlen:=r'.length
  exact len_tuple pl (by simp only [List.size_toArray] <;> omega) ⟨.int ys.length,H,I.tok _,⟨s.toks + 1,by rw [List.size_toArray,hlen]⟩,q⟩
theorem gi:bz X (.builtin "len") (fun xs H Q=>∃z,xs=[.str z]/\z.length<=sizeLine/\Q (.int z.length) H):=by
 intro pins s σ H xs us Q I r h
 obtain⟨z,rfl,hz,q⟩:=h
 obtain⟨u,rfl,t,rfl⟩:=vals1 r
 have hn:=eZ
 exact len_str (by omega) ⟨.int z.length,H,I.tok _,⟨_,rfl⟩,q⟩
theorem gh:bz X (.type "list") (fun xs H Q=>∃p ys,xs=[.ref p]/\(SqL X.K H p ys\/SqT X.K H p ys)/\∀l,H l=none->Q (.ref l) (upd H l (.lst ys))):=by
 intro pins s σ H xs us Q I r h
 obtain⟨p,ys,rfl,hq,q⟩:=h
 obtain⟨u,rfl,rx⟩:=vals1 r
 cases rx
 have fin:∀(its:List Value),ar ys its->ys.length<=sizeLine->∀(h':Heap) (c':Nat),(∀b o',s.heap.get? b=some o'->h'.get? b=some o') ->
   h'.get? s.heap.objs.size=some { cls:=.type "list",dict:=none,data:=.seq its.toArray c',slots:=#[] }->EP X pins σ Q (.ref s.heap.objs.size) { s with heap:=h' }:=fun its r' hz h' c' kp e =>
  ⟨.ref s.heap.objs.size,_,I.laid (t':=s.toks) kp (Nat.le_refl _) (show aQ X.prog X.w _ h' _ (.lst ys) from ⟨hz,its,c',r',e⟩),rfl,q _ (I.hok.fresh (Nat.le_refl _))⟩
 rcases hq with hq | hq
 ·obtain⟨its,r',pl,hz⟩:=I.list hq
  have hlen:=r'.length
  obtain⟨o,ho,hc,n,hd⟩:=pl.isList
  exact call_list_seq p (.inl rfl) ho hc hd (fun h' c' kp e=>fin its r' hz h' c' kp e) (by simp only [List.size_toArray] <;> omega)
 ·obtain⟨its,r',pl,hz⟩:=I.tuple hq
  have hlen:=r'.length
  obtain⟨o,ho,hc,n,hd⟩:=pl
  exact call_list_seq p (.inr rfl) ho hc hd (fun h' c' kp e=>fin its r' hz h' c' kp e) (by simp only [List.size_toArray] <;> omega)
theorem dX:bz X (.type "tuple") (fun xs H Q=>∃p ys,xs=[.ref p]/\((SqL X.K H p ys/\∀l,H l=none->Q (.ref l) (upd H l (.tup ys)))\/(SqT X.K H p ys/\Q (.ref p) H))):=by
 intro pins s σ H xs us Q I r h
 obtain⟨p,ys,rfl,h⟩:=h
 obtain⟨u,rfl,rx⟩:=vals1 r
 cases rx
 rcases h with ⟨hq,q⟩ | ⟨hq,q⟩
 ·obtain⟨its,r',pl,hz⟩:=I.list hq
  have hlen:=r'.length
  refine call_tuple_list pl.isList (fun h' kp=>?_) (by simp only [List.size_toArray] <;> omega)
  have I1:Inv X pins σ H { s with heap:=h' }:=I.kept (t':=s.toks) kp
  have I2:Inv X pins σ (upd H h'.objs.size (.tup ys)) { s with heap:=h'.push { cls:=.type "tuple",data:=.seq its.toArray } } :=
   I1.laid (t':=s.toks) (fun b o e=>Heap.get?_push_of_some _ e) (Nat.le_refl _) (show aQ X.prog X.w _ _ _ (.tup ys) from ⟨hz,its,r',IsTup.new _ _⟩)
  exact⟨.ref h'.objs.size,_,I2,rfl,q _ (I1.hok.fresh (Nat.le_refl _))⟩
 ·obtain⟨its,r',pl,hz⟩:=I.tuple hq
  exact call_tuple_same pl ⟨.ref p,H,I,rfl,q⟩
noncomputable def tyV (K:PySem.W.Frag) (T:String) (x:V) (H:Hp):Prop:=match x with
 | .str _=>T="str"
 | .int _=>T="int"
 | .ref p=>(T="list"/\∃xs,SqL K H p xs)\/(T="tuple"/\∃o,K.lookup p=some o/\o.cls=.type "tuple"/\o.dict=none) \/
   (T="dict"/\((∃kvs,H p=some (.dK kvs))\/∃kvs,H p=some (.dT kvs)))\/(T="set"/\∃S n,H p=some (.set S n))
 | _=>False
theorem ug {pins:List (Addr×Obj)}{σ:St}{H:Hp}{s:Shared}{T:String}{x:V}{v:Value} (I:Inv X pins σ H s) (r:RelV x v) (ty:tyV X.K T x H) :
  s.TypeIs v T/\∀a,v=.ref a->∃ob,s.heap.get? a=some ob/\ob.dict=none:=by
 cases x with
 | str z =>
  obtain⟨t,rfl⟩:=r
  cases (show T="str" from ty)
  exact⟨typeIs_str s z t,fun _ e=>nomatch e⟩
 | int i =>
  obtain⟨t,rfl⟩:=r
  cases (show T="int" from ty)
  exact⟨typeIs_int s i t,fun _ e=>nomatch e⟩
 | ref p =>
  cases r
  rcases ty with ⟨rfl,xs,hq⟩ | ⟨rfl,o,hk,hc,hd⟩ | ⟨rfl,hk⟩ | ⟨rfl,S,n,hk⟩
  ·obtain⟨its,_,pl,_⟩:=I.list hq
   refine⟨pl.isList.typeIs,fun a e=>?_⟩
   cases e
   obtain⟨o,n,e,c,hd,_⟩:=pl
   exact⟨o,e,hd⟩
  ·refine⟨⟨o,I.kIn p o hk,hc⟩,fun a e=>?_⟩
   cases e
   exact⟨o,I.kIn _ o hk,hd⟩
  ·have z:∃o,s.heap.get? p=some o/\o.ExactDict:=by
    rcases hk with ⟨kvs,hk⟩ | ⟨kvs,hk⟩
    ·obtain⟨_,_,_,_,o,_,_,e,ex,_⟩:=I.hok p _ hk
     exact⟨o,e,ex⟩
    ·obtain⟨_,_,_,_,o,_,_,e,ex,_⟩:=I.hok p _ hk
     exact⟨o,e,ex⟩
   obtain⟨o,e,ex⟩:=z
   refine⟨⟨o,e,ex.1⟩,fun a e2=>?_⟩
   cases e2
   exact⟨o,e,ex.2.1⟩
  ·obtain⟨o,_,_,_,e,ex,_⟩:=I.hok p _ hk
   refine⟨⟨o,e,ex.1⟩,fun a e2=>?_⟩
   cases e2
   exact⟨o,e,ex.2.1⟩
 | _=>exact False.elim ty
noncomputable def tBM (K:PySem.W.Frag) (T:String) (r:V->List V->Hp->VK->Prop) (to:TE) (t:TA):TE:=fun σ H Q=>to σ H fun x H1=>tyV K T x H1/\t σ H1 fun xs H2=>r x xs H2 Q
variable {o e:Expr}{es:List Expr}{to:TE}{t:TA}{name:Str}{apos cpos:Pos}{T id:String}{r:V->List V->Hp->VK->Prop}
theorem bI (pa:PlainAttrs T) (slot:Slot T name id) (hty:typeOf (.builtin id)=pure (.type "method_descriptor")) (hm:MtR X id r) (ho:PE X o to) (ha:PA X (e::es) t)
  (hbase:attributeBase o name X.env (eval o X.env)=eval o X.env:=by rfl)
  (hfew:((backTo cpos (starEach (e::es) X.env)).all (fun x=>!x.1) && (backToKw cpos (keywordEach [] X.env)).all (fun x=>x.1.isSome)
   && decide ((e::es).length + ([]:List Keyword).length + (if ([]:List Keyword).isEmpty then 0 else 1) < 30))=true:=by rfl)
  (hline:(apos.endLine == cpos.line)=true:=by rfl) (hs:starEach (e::es) X.env=(false,eval e X.env)::starEach es X.env:=by rfl) (hplain:(backTo cpos (starEach es X.env)).any (·.1)=false:=by rfl) :
  PE X (.Call (.Attribute o name apos) (e::es) [] cpos) (tBM X.K T r to t):=by
 intro pins s σ H Q I h
 refine wpAny_Call_method_late hbase hfew hline rfl (thn (ho pins s σ H _ I h) fun v s1 ⟨x,H1,I1,r1,ty,q1⟩=>?_)
 obtain⟨h1,h2⟩:=ug I1 r1 ty
 refine⟨T,id,pa,slot,hty,h1,h2,?_⟩
 have hA:=ha cpos pins s1 σ H1 _ I1 q1
 rw [hs] at hA ⊢
 refine Calls.callWith_builtin (by show (false || (backTo cpos (starEach es X.env)).any (·.1))=false;rw [hplain] <;> rfl) (Calls.evalArgs_plain ?_)
 exact thn hA fun us s2 ⟨vs,H2,I2,r2,q2⟩=>hm pins s2 σ H2 x vs v us Q I2 r1 r2 q2
/- xs.append(e),list.index on a module's tuple .. are MtR facts of 06m -/
end
noncomputable def MtM (X:Cx) (id:String) (r:V->List V->Hp->VK->Prop):Prop :=
 ∀(pins:List (Addr×Obj)) (s:Shared) (σ:St) (H:Hp) (x:V) (xs:List V) (v:Value) (us:List Value) (Q:VK),Inv X pins σ H s->RelV x v->ar xs us->r x xs H Q ->
  wpAny (model X.prog X.w) X.A (call (.builtin id) (v::us)) (EP X pins σ Q) X.xe s
theorem ar.one:∀{x:V}{us:List Value},ar [x] us->∃u,us=[u]/\RelV x u
 | _,_,.cons r .nil=>⟨_,rfl,r⟩
theorem ar.eraseIdx:∀{xs:List V}{us:List Value} (i:Nat),ar xs us->ar (xs.eraseIdx i) (us.eraseIdx i)
 | _,_,_,.nil=>.nil
 | _,_,0,.cons _ t=>t
 | _,_,i + 1,.cons r t=>.cons r (ar.eraseIdx i t)
theorem kR {α:Type}:∀(l:List α) (i:Nat),(l.eraseIdx i).length<=l.length
 | [],_=>Nat.le_refl _
 | _::_,0=>Nat.le_succ _
 | _::r,i + 1=>Nat.succ_le_succ (kR r i)
section
variable {X:Cx}{pins:List (Addr×Obj)}{σ:St}{H:Hp}{s:Shared}{l b:Addr}{xs ys zs:List V}
theorem Inv.lset {its its':List Value}{n:Nat}{f:Array Value->Array Value}{t':Nat} (I:Inv X pins σ H s) (hH:H l=some (.lst xs))
  (e:s.heap.get? l=some { cls:=.type "list",data:=.seq its.toArray n }) (hf:f its.toArray=its'.toArray) (hv:ar ys its') (hz:ys.length<=sizeLine) :
  Inv X pins σ (upd H l (.lst ys)) { s with heap:=s.heap.update l (Obj.mapSeq f),toks:=t' }:=by
 have q:=PySem.IsL.update e f
 rw [hf] at q
 refine I.write (x:=l) (e:=l) (by rw [hH];exact trivial) (.inl rfl) (fun b' u hb hu=>(Heap.get?_update_other s.heap (Obj.mapSeq f) (Ne.symm hb)).trans hu) ⟨_,q⟩ ?_
 exact⟨hz,its',_,hv,q⟩
theorem Inv.lnew {its:List Value}{t':Nat} (I:Inv X pins σ H s) (hv:ar ys its) (hz:ys.length<=sizeLine) :
  Inv X pins σ (upd H s.heap.objs.size (.lst ys)) { s with heap:=s.heap.push { cls:=.type "list",data:=.seq its.toArray },toks:=t' } :=
 I.laid (fun _ _ q=>Heap.get?_push_of_some _ q) (Nat.le_refl _) ⟨hz,its,0,hv,Heap.get?_push_size _ rfl⟩
theorem Inv.fresh (I:Inv X pins σ H s):H s.heap.objs.size=none:=I.hok.fresh (Nat.le_refl _)
theorem Inv.lstM (I:Inv X pins σ H s) (hH:H l=some (.lst xs)):xs.length<=sizeLine/\∃(its:List Value) (n:Nat),ar xs its/\xs.length=its.length/\s.heap.get? l=some { cls:=.type "list",data:=.seq its.toArray n }:=by
 obtain⟨z,its,n,r,e⟩:=I.hok l _ hH
 exact⟨z,its,n,r,r.length,e⟩
end
section
variable {X:Cx}
noncomputable def sg:V->List V->Hp->VK->Prop:=fun x vs H Q=>∃l xs y,x=.ref l/\vs=[y]/\H l=some (.lst xs)/\xs.length < sizeLine/\Q .non (upd H l (.lst (xs++[y])))
theorem dG:MtM X "list.append" sg:=by
 intro pins s σ H x vs v us Q I rx rv h
 obtain⟨l,xs,y,rfl,rfl,hH,hz,q⟩:=h
 cases rx
 obtain⟨u,rfl,ru⟩:=rv.one
 obtain⟨z,its,n,r,hl,e⟩:=I.lstM hH
 refine call_meets F.slot_list_append ⟨_,e,rfl⟩ F.entry_list_append (F.args_list_append_2 _ _) (PySem.list_append l its.toArray n u (by rw [List.size_toArray];omega)) ⟨e,?_⟩
 refine⟨.non,_,I.lset (its':=its++[u]) hH e (by simp) (r.append (.cons ru .nil)) ?_,rfl,q⟩
 rw [List.length_append,List.length_singleton]
 omega
noncomputable def tJ:V->List V->Hp->VK->Prop:=fun x vs H Q=>∃l xs i k y,x=.ref l/\vs=[.int i]/\H l=some (.lst xs)/\-(2 ^ 63)<=i/\i < 2 ^ 63/\seqIndex? i xs.length=some k/\xs[k]?=some y/\Q y (upd H l (.lst (xs.eraseIdx k)))
theorem rN:MtM X "list.pop" tJ:=by
 intro pins s σ H x vs v us Q I rx rv h
 obtain⟨l,xs,i,k,y,rfl,rfl,hH,h1,h2,hk,hy,q⟩:=h
 cases rx
 obtain⟨u,rfl,ru⟩:=rv.one
 obtain⟨t,rfl⟩:=ru
 obtain⟨z,its,n,r,hl,e⟩:=I.lstM hH
 obtain⟨w,hw,rw'⟩:=r.get hy
 refine call_meets F.slot_list_pop ⟨_,e,rfl⟩ F.entry_list_pop (F.args_list_pop_2 _ _)
  (MeetsSeq.list_pop_at l its.toArray n i t k w (fitsIndex_both h1 h2) (by rw [List.size_toArray,<- hl];exact hk) (by rw [<- Array.getElem?_toList];exact hw) (by rw [List.size_toArray];omega)) ⟨e,?_⟩
 refine⟨y,_,I.lset (its':=its.eraseIdx k) hH e ?_ (r.eraseIdx k) ?_,rw',q⟩
 ·show its.toArray.eraseIdxIfInBounds k=(its.eraseIdx k).toArray
  rw [List.eraseIdxIfInBounds_toArray]
 ·have:=kR xs k
  omega
noncomputable def jO:R2:=fun x y H Q=>∃l b xs zs,x=.ref l/\y=.ref b/\H l=some (.lst xs)/\H b=some (.lst zs)/\xs.length + zs.length<=sizeLine/\∀p,H p=none->Q (.ref p) (upd H p (.lst (xs++zs)))
theorem b6:OpR X (binaryOp .Add) jO:=by
 intro pins s σ H x y v u Q I rx ry h
 obtain⟨l,b,xs,zs,rfl,rfl,hH,hB,hz,q⟩:=h
 cases rx
 cases ry
 obtain⟨z,its,n,r,hl,e⟩:=I.lstM hH
 obtain⟨z2,its2,n2,r2,hl2,e2⟩:=I.lstM hB
 refine PySem.P.add_list e e2 ?_ (by rw [List.size_toArray,List.size_toArray];omega)
 have ea:its.toArray++its2.toArray=(its++its2).toArray:=by simp
 rw [ea]
 exact⟨.ref _,_,I.lnew (t':=s.toks) (r.append r2) (by rw [List.length_append];omega),rfl,q _ I.fresh⟩
end
section
variable {prog:Program}{w:World}{A:Around}{E:Value->Shared->Prop}{s:Shared}
end
section
variable {X:Cx}
end
end L2
namespace Att
open PySem PySem.W PySem.Calls PyProof.Rows
theorem n6 {P:Params}{h:Heap}:∀(ns:List Int) (vs:List Value),WellAll P h vs (ns.map WData.int)->IntsAre vs ns:=by
 intro ns
 induction ns with
 | nil =>
  intro vs w
  rw [List.map_nil] at w
  cases w
  exact .nil
 | cons n ns ih =>
  intro vs w
  rw [List.map_cons] at w
  cases w with
  | cons a b =>
   cases a
   exact .cons _ _ (ih _ b)
theorem pT {l:OpenLaw}{n:Nat} (hn:l.most=some n) {P:Params}{h:Heap}{args:List WData}{vals:List Value}
  (hpre:l.row.toRowW.claim.pre args=true) (hwl:WellAll P h vals args) :
  ∃a vs ns,vals=[Value.ref a]/\args=[WData.list (ns.map WData.int)]/\h.get? a=some { cls:=.type "list",data:=.seq vs.toArray }/\IntsAre vs ns/\ns.length<=n:=by
 have hsh:WShape.hasAll [] args [.list .int]=true:=(pre_splitW hpre).1
 have hc:l.pre.holds [] { args:=args }=true:=(pre_splitW hpre).2
 obtain⟨d,r,rfl,h1,h2⟩:=hasAllW_cons hsh
 obtain rfl:=hasAllW_nil h2
 obtain⟨xs,rfl,h3⟩:=hasW_list h1
 obtain⟨ns,rfl⟩:=items_int h3
 have hlen:ns.length<=n:=by
  unfold OpenLaw.pre at hc
  have h4:(WTm.not (.lt (.lit (.int (n:Int))) (.len (.arg 0)))).holds [] { args:=[.list (ns.map .int)] }=true:=by
   have h4:=(holds_andW hc).1
   rw [hn] at h4
   exact h4
  have h5:=condW_of h4 (w_not (w_lt w_lit (w_len_list (w_arg rfl))))
  rw [List.length_map] at h5
  refine Nat.le_of_not_lt fun q=>?_
  have q':(n:Int) < ((ns.length:Nat):Int):=by omega
  first
   | (rw [decide_eq_true q'] at h5;exact absurd h5 (by decide))
   | (simp at h5;omega)
 cases hwl with
 | cons w1 w2 =>
  cases w2
  cases w1 with
  | list ho hall=>exact⟨_,_,ns,rfl,rfl,ho,n6 ns _ hall,hlen⟩
theorem qJ (l:OpenLaw) (args:List WData):l.row.toRowW.claim.post args (.bool true) args=true :=
 postW_of (r:=l.row.toRowW) (X:=(true == true))
  (show WShape.has [] (.bool true) .bool=true by first | rfl | decide | simp [WShape.has,WShape.arms,WShape.armsAll])
  (show (WTm.eq .res (.lit (.bool true))).value [] { args:=args,res:=some (.bool true),after:=args }=some (.bool (true == true)) from w_eq_bool (w_res rfl) w_lit) rfl
theorem vD {l:OpenLaw}{n:Nat}{q:Program}{loose:List Str}{XP:(Str->Option Value)->Heap->Prop}{YP:World->Heap->Prop}{d:DefRec}
  (hn:l.most=some n) (hdf:d.params.defaults=[])
  (call:∀(w:World) (s₀ s₁:Shared) (mg mb:Str->Option Value) (fa:Addr) (o:Obj) (pm cd doc:Value) (a:Addr) (vs:List Value) (ns:List Int),
   Ground q loose [] XP w s₀ mg mb s₁.heap->YP w s₁.heap ->
   s₁.heap.get? fa=some o->o.data=.func (docDef d.name d.params d.body d.scope pm cd doc)->s₁.heap.CodeRec cd d.name->mg d.name=some (.ref fa) ->
   s₁.heap.get? a=some { cls:=.type "list",data:=.seq vs.toArray }->IntsAre vs ns->ns.length<=n->s₁.gens=#[] ->
   codeAny (model l.prog w) callerA (.call (.ref fa) ⟨[.ref a],[]⟩) (fun r s'=>r=.ok (.ret (.bool true))/\OldK s₁.heap s'.heap/\s'.os=s₁.os/\AllBare s'.gens) s₁) :
  WalkO q loose XP YP l.row.toRowW d [] (fun f vs=>PySem.call f vs):=by
 intro w s₀ s₁ mg mb G Y fa o pm cd doc dV kV ho hd hcd hD hmg hg args vals as hpre hlay hrd hwl hlo
 obtain rfl:dV=.none:=Dflts.none hD hdf
 obtain rfl:kV=.none:=Dflts.noKw hD
 obtain⟨a,vs,ns,rfl,rfl,hobj,hints,hlen⟩:=pT hn hpre hwl
 refine enter_call (codeAny_mono (call w s₀ s₁ mg mb fa o pm cd doc a vs ns G Y ho (fd_plain hd) hcd hmg hobj hints hlen hg) fun r s' hq=>?_)
 obtain⟨rfl,h2,h3,h4⟩:=hq
 exact⟨.inl ⟨.bool true,.bool true,[],rfl,fun _=>rfl,.bool true,qJ l _,fun _=>⟨List.Pairwise.nil,fun _ hm=>(nomatch hm)⟩⟩,h2,h3,h4⟩
section
variable {prog:Program}{w:World}{A:Around}{E:Value->Shared->Prop}{s:Shared}{K:Frag}
end
end Att
namespace L2
open PySem PySem.Spec PyProof.Rows
theorem kT:∀{vs:List Value}{ns:List Int},IntsAre vs ns->ar (ns.map V.int) vs
 | _,_,.nil=>.nil
 | _,_,.cons n t h=>.cons ⟨t,rfl⟩ (kT h)
noncomputable def jI (H:Hp):Prop:=∀b,H b=none\/∃o xs,H b=some (.frz o (.lst xs))
theorem rm {P:Program}{w:World}{K:PySem.W.Frag}{mg mb:Str->Option Value}{CX:CXT}{k:Nat}{fa a:Addr}{fd:FuncData}{x:Str}{sp:Sp}{s₁:Shared}{vs:List Value}{ns:List Int}
  (KX:K.In s₁.heap) (hns:s₁.heap.Ns mainGlobals mg) (hb:s₁.heap.Ns builtinsNs mb) (hbb:∀x:Str,x≠"__name__"->mb x=bootBuiltins x) (hlim:s₁.heap.NoLimit) (hg:s₁.gens=#[])
  (ha:s₁.heap.get? a=some { cls:=.type "list",data:=.seq vs.toArray }) (hi:IntsAre vs ns) (hl:ns.length<=sizeLine) (hr:aN k callerA)
  (F:∀base:Heap,K.In base->base.Ns mainGlobals mg->aH P w K mg base CX k fa fd [x] sp) (hbind:∀(s:Shared) (u:Value),BindsTo s fd ⟨[u],[]⟩ [(x,u)])
  (hsp:∀H:Hp,jI H->SqL K H a (ns.map V.int)->sp [.ref a] H (fun v _=>v=.bl true) fun _ _ _=>False)
  (hCX:∀H e s',CX [] H s₁ (fun _ _ _=>False) e s'->False) :
  codeAny (model P w) callerA (.call (.ref fa) ⟨[.ref a],[]⟩) (fun r s'=>r=.ok (.ret (.bool true))/\OldK s₁.heap s'.heap/\s'.os=s₁.os/\AllBare s'.gens) s₁:=by
 have rv:=kT hi
 have lenV:=hi.length
 have core:∀H:Hp,jI H->SqL K H a (ns.map V.int)->HOk P w H s₁.heap->(∀b,H b≠none->b=a)->(H a≠none->K.lookup a=none) ->
   codeAny (model P w) callerA (.call (.ref fa) ⟨[.ref a],[]⟩) (fun r s'=>r=.ok (.ret (.bool true))/\OldK s₁.heap s'.heap/\s'.os=s₁.os/\AllBare s'.gens) s₁:=by
  intro H hO hS hok hA hK
  have base_of:∀{b:Addr}{o:Obj},s₁.heap.get? b=some o->H b=none->(dB s₁.heap H).get? b=some o:=fun e n=>rq e n
  have noA:∀{b:Addr}{o:Obj}{es:Array DictEntry}{ep:Nat},s₁.heap.get? b=some o->o.data=.dict es ep->H b=none:=fun {b o es ep} e d=>by
   cases q:H b with
   | none=>rfl
   | some u =>
    have e':b=a:=hA b (by rw [q];simp)
    subst e'
    rw [ha] at e;cases e
    have d':Data.seq vs.toArray _=Data.dict es ep:=d
    cases d'
  have nsK:∀{b:Addr}{m:Str->Option Value},s₁.heap.Ns b m->(dB s₁.heap H).Ns b m:=fun {b m} ⟨o,es,ep,e,d,r⟩=>⟨o,es,ep,base_of e (noA e d),d,r⟩
  have hKb:K.In (dB s₁.heap H):=fun b o e=>base_of (KX b o e) (by
   cases q:H b with
   | none=>rfl
   | some u =>
    have e':b=a:=hA b (by rw [q];simp)
    subst e'
    rw [hK (by rw [q];simp)] at e;cases e)
  have hM:Mod K mg (dB s₁.heap H):=⟨hKb,nsK hns,⟨mb,nsK hb,hbb⟩,let ⟨mc,h1,h2⟩:=hlim;⟨mc,nsK h1,h2⟩⟩
  have e0:eN P w K mg (dB s₁.heap H) callerA [] s₁ H:=⟨rfl,hM,fun b o e=>tF e,Nat.le_of_eq (qM _ _),trivial,fun b hb=>absurd (show b∈([]:List Addr) from hb) (by simp),hok,.of_eq hg⟩
  refine codeAny_mono ((F _ hKb (nsK hns)).run callerA [] s₁ H ⟨[.ref a],[]⟩ [.ref a] [.ref a] _ _ hr e0 (hbind s₁ (.ref a)) (.cons rfl .nil) (hsp H hO hS)) fun r s' h=>?_
  cases r with
  | error e=>exact (hCX H e s' h).elim
  | ok fl =>
   cases fl with
   | next=>exact False.elim h
   | brk=>exact False.elim h
   | cont=>exact False.elim h
   | ret u =>
    obtain⟨v,H',os,bare,un,hok',r',q⟩:=h
    have q':v=.bl true:=q
    subst q'
    obtain rfl:u=Value.bool true:=r'
    refine⟨rfl,OldK.of_keep fun b o e=>?_,os,bare⟩
    cases q:H b with
    | none=>exact un.keep b o e q (by intro z;exact absurd (show b∈([]:List Addr) from z) (by simp)) (by simp)
    | some u =>
     rcases hO b with z | ⟨ob,xs,z⟩
     ·rw [q] at z;cases z
     ·have z2:=un.frzs b ob _ z
      obtain⟨e1,_⟩:=hok b _ z
      obtain⟨e2,_⟩:=hok' b _ z2
      rw [e] at e1;cases e1
      exact e2
 cases hk:K.lookup a with
 | some o =>
  have e:=KX a o hk
  rw [ha] at e
  cases e
  refine core (fun _=>none) (fun _=>.inl rfl) (.inr ⟨_,vs.toArray,_,hk,rfl,rfl,rfl,by rw [List.size_toArray,lenV];exact hl,by simpa using rv⟩) (fun b u z=>by have z':(none:Option HO)=some u:=z;cases z') (fun b z=>absurd rfl z) fun z=>absurd rfl z
 | none =>
  refine core (fun b=>if b=a then some (.frz { cls:=.type "list",data:=.seq vs.toArray } (.lst (ns.map V.int))) else none) (fun b=>?_) (.inl (.inr ⟨{ cls:=.type "list",data:=.seq vs.toArray },if_pos rfl⟩)) (fun b u z=>?_) (fun b z=>?_) fun _=>hk
  ·by_cases hb:b=a
   ·exact .inr ⟨_,_,if_pos hb⟩
   ·exact .inl (if_neg hb)
  ·by_cases hb:b=a
   ·have z':=(if_pos hb).symm.trans z
    cases z'
    subst hb
    exact⟨ha,by rw [List.length_map];exact hl,vs,_,rv,ha⟩
   ·have z':=(if_neg hb).symm.trans z
    cases z'
  ·by_cases hb:b=a
   ·exact hb
   ·exact absurd (if_neg hb) z
theorem vE {l:PySem.W.OpenLaw}{n k:Nat}{q:Program}{loose:List Str}{XP:(Str->Option Value)->Heap->Prop}{YP:World->Heap->Prop}{d:DefRec}{K:Params->PySem.W.Frag}{CX:World->CXT}{sp:World->Sp}{x:Str}
  (hn:l.most=some n) (hn2:n<=sizeLine) (hdf:d.params.defaults=[]) (hr:aN k callerA)
  (hY:∀(w:World) (h:Heap),YP w h->(K w.params).In h)
  (F:∀(w:World) (mg:Str->Option Value) (fa:Addr) (h:Heap),(K w.params).In h->h.Ns mainGlobals mg->mg d.name=some (.ref fa) ->
   ∃fd:FuncData,(∀(s:Shared) (u:Value),BindsTo s fd ⟨[u],[]⟩ [(x,u)]) /\
    ∀base:Heap,(K w.params).In base->base.Ns mainGlobals mg->aH l.prog w (K w.params) mg base (CX w) k fa fd [x] (sp w))
  (hsp:∀(w:World) (H:Hp) (a:Addr) (ns:List Int),ns.length<=n->jI H->SqL (K w.params) H a (ns.map V.int)->sp w [.ref a] H (fun v _=>v=.bl true) fun _ _ _=>False)
  (hCX:∀(w:World) (H:Hp) (s:Shared) (e:Value) (s':Shared),CX w [] H s (fun _ _ _=>False) e s'->False) :
  PySem.W.WalkO q loose XP YP l.row.toRowW d [] (fun f vs=>PySem.call f vs):=by
 refine Att.vD hn hdf fun w s₀ s₁ mg mb fa o pm cd doc a vs ns G Y ho hd hcd hmg hobj hints hlen hg=>?_
 have KX:=hY w _ Y
 obtain⟨fd,hb,hF⟩:=F w mg fa _ KX G.T.g hmg
 exact rm KX G.T.g G.T.b G.T.builtins G.T.nolimit hg hobj hints (Nat.le_trans hlen hn2) hr hF hb (fun H hO hS=>hsp w H a ns hlen hO hS) fun H e s'=>hCX w H s₁ e s'
end L2
/- THE LAST THEOREM (shape;LID,My.* are yours):
  My.Adr: a structure of the addresses that your layer names (classes,functions);My.Txt K t: a structure (Prop) of the equations over K;
  My.txt_mk:{K}{implicit addresses ..} (e1:nsIn K mainGlobals "law"=some (some (.ref f))) (e2:K.lookup f=some ⟨oc,od,.func (fnOf "law" "law" params body scope dV kV doc pm an cdv ct),sl⟩) (e3:codeIn K cdv "law"=true) ..:∃t,My.Txt K t
set_option maxRecDepth 100000 in
set_option maxHeartbeats 0 in
theorem PySem.Challenge.cw_LID_holds : PySem.Challenge.rw_LID.Holds := by
 w_on;o_law;k_head;(case hw=>w_witness2)
 k_fill
 refine L2.vE (l:=PySem.Challenge.rw_LID) (n:=63) (k:=40) (x:="script") (CX:=fun w=>..) (sp:=fun _=>My.sp_law) rfl (by decide) rfl ⟨rfl,by decide,by decide⟩ (fun w h Y=>PySem.W.kIn_of Y) ?F ?S ?C
 case F =>
  intro w mg fa h KX G hmg
  have T:∃t,My.Txt (L2.KOf KX) t:=by
   dsimp only [L2.KOf]
   refine' My.txt_mk ?e1 ?e2 ?e3 ..
   (case e1=>PySem.W.k_is)
   (case e2=>PySem.W.k_is)
   ..
  obtain⟨t,T⟩:=T
  have e0:=hmg.symm.trans (PySem.W.mg_of KX G T.law)
  cases e0
  exact⟨_,fun s u=>.of_eq rfl,fun base kb nb=>My.law_fn T kb nb⟩
 case S=>exact fun w H a ns hl hO hS=>..
 case C=>exact ..
(the tactic k_is has no namespace: write k_is) -/
namespace L2
open PySem PySem.Spec PyProof.Rows
noncomputable def dc (s:Stmt):Arguments:=match s with
 | .FunctionDef _ a _ _ _ _ _ _ _ _=>a
 | _=>{ posonlyargs:=[],args:=[],vararg:=none,kwonlyargs:=[],kw_defaults:=[],kwarg:=none,defaults:=[] }
noncomputable def b9 (s:Stmt):List Stmt:=match s with
 | .FunctionDef _ _ b _ _ _ _ _ _ _=>b
 | _=>[]
noncomputable def aI (s:Stmt):Scope:=match s with
 | .FunctionDef _ _ _ _ _ _ sc _ _ _=>sc
 | _=>{ kind:=.function,names:=[],isGenerator:=false,isCoroutine:=false }
noncomputable abbrev CX0:CXT:=fun _ _ _ _ _ _=>False
noncomputable abbrev E0:XK:=fun _ _ _=>False
theorem nu {X:Cx}:dP CX0 X E0:=fun _ _ _ _ _ _ _ h=>h.elim
structure Fun (K:PySem.W.Frag) (x qual:Str) (st:Stmt) (f:Addr) (fd:FuncData):Prop where
 ex:∃(oc:Value) (od:Option Addr) (kV doc pm:Value) (an:Option Addr) (cdv ct:Value) (osl:Array (Option Value)),
  fd=PySem.W.fnOf x qual (dc st) (b9 st) (aI st) .none kV doc pm an cdv ct/\K.lookup f=some ⟨oc,od,.func fd,osl⟩/\PySem.W.codeIn K cdv qual=true
 kp:PySem.W.keepIn K (.ref f)=true
section
variable {P:Program}{w:World}{K:PySem.W.Frag}{mg:Str->Option Value}{base:Heap}
theorem Fun.ok {x qual:Str}{st:Stmt}{f:Addr}{fd:FuncData}{N ps:List Str}{k:Nat}{sp:Sp} (F:Fun K x qual st f fd) (S:aR N ps (aI st)) (len:∀vs H Q E,sp vs H Q E->vs.length=ps.length)
  (hbody:∀(cdv:Value) (A:Around) (outer:List Env) (s:Shared) (H:Hp) (vs:List V) (Q:VK) (E:XK),aN k (A.deeper (envOfC qual (aI st) s.heap.objs.size f cdv))->sp vs H Q E ->
   ∃t,PSs (aE CX0 P w K mg base N qual (aI st) f cdv A outer s H E).nox (b9 st) t/\t { nx:=fun _ H'=>Q .non H',rt:=Q } (start N vs) H):aH P w K mg base CX0 (k + 1) f fd ps sp:=by
 obtain⟨oc,od,kV,doc,pm,an,cdv,ct,osl,rfl,lk,hcd⟩:=F.ex
 refine nk lk hcd S len fun A outer s H vs Q E hr hsp=>?_
 obtain⟨t,h,q⟩:=hbody cdv A outer s H vs Q E hr hsp
 exact⟨t,h.nox,q⟩
theorem Fun.binds {x qual:Str}{st:Stmt}{f:Addr}{fd:FuncData}{ps:List Str} (F:Fun K x qual st f fd)
  (h:∀(kV doc pm:Value) (an:Option Addr) (cdv ct:Value) (us:List Value),us.length=ps.length->bindArgs (PySem.W.fnOf x qual (dc st) (b9 st) (aI st) .none kV doc pm an cdv ct) ⟨us,[]⟩=pure (ps.zip us)):Binds K fd ps []:=by
 obtain⟨oc,od,kV,doc,pm,an,cdv,ct,osl,rfl,lk,hcd⟩:=F.ex
 exact .all (h kV doc pm an cdv ct)
theorem gO {x qual:Str}{st:Stmt}{f:Addr}{oc:Value}{od an:Option Addr}{osl:Array (Option Value)}{kV doc pm cdv ct:Value} (l:K.lookup f=some ⟨oc,od,.func (PySem.W.fnOf x qual (dc st) (b9 st) (aI st) .none kV doc pm an cdv ct),osl⟩)
  (c:PySem.W.codeIn K cdv qual=true) (k:PySem.W.keepIn K (.ref f)=true):Fun K x qual st f (PySem.W.fnOf x qual (dc st) (b9 st) (aI st) .none kV doc pm an cdv ct):=⟨⟨oc,od,kV,doc,pm,an,cdv,ct,osl,rfl,l,c⟩,k⟩
end
theorem pY {n:Nat} (h:n<=1000):n < sizeLine:=Nat.lt_of_le_of_lt h (by decide)
section
variable {X:Cx}
theorem pv (i:Nat) {x:Str}{pos:Pos} (hN:X.N[i]?=some x:=by rfl) (hv:Vis X.env.scope x:=by first | exact Or.inl rfl | exact Or.inr (Or.inl rfl) | exact Or.inr (Or.inr rfl)) (hd:(x == ("__debug__":Str))=false:=by decide)
  (hcd:(x == ("__classdict__":Str))=false:=by decide):PE X (.Name x pos) (bZ i):=tS hN hv hd hcd
end
theorem aL {A B:Prop} (h:B):if false=true then A else B:=by
 rw [if_neg Bool.false_ne_true]
 exact h
theorem am {A B:Prop} (h:A):if true=true then A else B:=by
 rw [if_pos rfl]
 exact h
theorem di {c A B:Prop} [Decidable c] (h1:c->A) (h2:¬ c->B):if c then A else B:=by
 by_cases h:c
 ·rw [if_pos h]
  exact h1 h
 ·rw [if_neg h]
  exact h2 h
theorem cD {c A B:Prop} [Decidable c] (hc:c) (h:B):if (!decide c)=true then A else B:=by
 rw [decide_eq_true hc]
 exact aL h
noncomputable def ag (H H':Hp):Prop:=∀b o,H b=some o->H' b=some o
theorem ag.refl (H:Hp):ag H H:=fun _ _ h=>h
theorem ag.trans {H H1 H2:Hp} (a:ag H H1) (b:ag H1 H2):ag H H2:=fun c o h=>b c o (a c o h)
theorem ag.free {H H':Hp} (e:ag H H') {l:Addr} (h:H' l=Option.none):H l=Option.none:=by
 cases q:H l with
 | none=>rfl
 | some o =>
  rw [e l o q] at h
  cases h
theorem ag.seq {K:PySem.W.Frag}{H H':Hp}{a:Addr}{xs:List V} (e:ag H H') (h:SqL K H a xs):SqL K H' a xs:=by
 rcases h with (h | ⟨o,h⟩) | h
 ·exact .inl (.inl (e _ _ h))
 ·exact .inl (.inr ⟨o,e _ _ h⟩)
 ·exact .inr h
noncomputable def bM (env:Env):List (Str×NameKind)->List (Str×Addr)->List (Str×Addr)
 | [],acc=>acc
 | (x,k)::r,acc=>if (k == NameKind.free)=true then (match env.cells.lookup x with | some c=>bM env r ((x,c)::acc) | none=>bM env r acc) else bM env r acc
theorem gn (env:Env):∀(ns:List (Str×NameKind)) (acc:List (Str×Addr)) (x:Str) (c:Addr),(x,c)∈bM env ns acc->(x,c)∈acc\/env.cells.lookup x=some c
 | [],acc,x,c,h=>.inl h
 | (y,k)::r,acc,x,c,h=>by
  unfold bM at h
  split at h
  ·split at h
   ·next d e =>
    rcases gn env r _ x c h with z | z
    ·rcases List.mem_cons.mp z with q | q
     ·cases q;exact .inr e
     ·exact .inl q
    ·exact .inr z
   ·exact gn env r acc x c h
  ·exact gn env r acc x c h
theorem gv (env:Env):∀(ns:List (Str×NameKind)) (acc:List (Str×Addr)) (p:Str×Addr),p∈acc->p∈bM env ns acc
 | [],acc,p,h=>h
 | (y,k)::r,acc,p,h=>by
  unfold bM
  split
  ·split
   ·exact gv env r _ p (List.mem_cons_of_mem _ h)
   ·exact gv env r _ p h
  ·exact gv env r _ p h
theorem gA (env:Env):∀(ns:List (Str×NameKind)) (acc:List (Str×Addr)) (x:Str) (c:Addr),(x,NameKind.free)∈ns->env.cells.lookup x=some c->(x,c)∈bM env ns acc
 | [],acc,x,c,h,_=>nomatch h
 | (y,k)::r,acc,x,c,h,e=>by
  unfold bM
  rcases List.mem_cons.mp h with q | q
  ·cases q
   rw [if_pos (show (NameKind.free == NameKind.free)=true from rfl),e]
   exact gv env r _ _ List.mem_cons_self
  ·split
   ·split
    ·exact gA env r _ x c q e
    ·exact gA env r _ x c q e
   ·exact gA env r _ x c q e
theorem rS {l:List (Str×Addr)}{x:Str}{c:Addr} (h:(x,c)∈l):∃d,l.lookup x=some d:=by
 induction l with
 | nil=>cases h
 | cons p r ih =>
  obtain⟨y,d⟩:=p
  rw [List.lookup_cons]
  cases hx:x == y with
  | true=>exact⟨d,rfl⟩
  | false =>
   rcases List.mem_cons.mp h with q | q
   ·cases q
    rw [beq_self_eq_true] at hx
    cases hx
   ·exact ih q
theorem cZ {env:Env}{ns:List (Str×NameKind)}{x:Str}{c:Addr} (h:(bM env ns []).lookup x=some c):env.cells.lookup x=some c:=by
 rcases gn env ns [] x c (PySem.mem_of_lookup h) with z | z
 ·cases z
 ·exact z
theorem lA {env:Env}{ns:List (Str×NameKind)}{x:Str}{c:Addr} (h:(x,NameKind.free)∈ns) (e:env.cells.lookup x=some c):(bM env ns []).lookup x=some c:=by
 obtain⟨d,q⟩:=rS (gA env ns [] x c h e)
 rw [q,<- cZ q,e]
theorem pP {env:Env}{scope:Scope} (h:∀x∈scope.names,x.2=NameKind.free->∃c,env.cells.lookup x.1=some c):closureFor scope env=pure (bM env scope.names []):=by
 have go:∀(ns:List (Str×NameKind)) (acc:List (Str×Addr)),(∀x∈ns,x.2=NameKind.free->∃c,env.cells.lookup x.1=some c) ->
   (forIn ns acc (fun x cs=>match x with | (name,kind)=>if (kind == NameKind.free)=true then (do let c <- cellOf env name;pure (ForInStep.yield ((name,c)::cs))) else pure (ForInStep.yield cs)):Sem (List (Str×Addr)))=pure (bM env ns acc):=by
  intro ns
  induction ns with
  | nil=>intro acc _;rfl
  | cons p r ih =>
   intro acc hh
   obtain⟨y,k⟩:=p
   rw [List.forIn_cons]
   unfold bM
   by_cases hk:(k == NameKind.free)=true
   ·rw [if_pos hk]
    obtain⟨c,e⟩:=hh (y,k) List.mem_cons_self (by cases k <;> first | rfl | cases hk)
    dsimp only at e ⊢
    rw [if_pos hk]
    unfold cellOf
    rw [e]
    exact ih _ fun x hx=>hh x (List.mem_cons_of_mem _ hx)
   ·rw [if_neg hk]
    dsimp only
    rw [if_neg hk]
    exact ih _ fun x hx=>hh x (List.mem_cons_of_mem _ hx)
 unfold closureFor
 have q:=go scope.names [] h
 simp only [bind_pure]
 exact q
noncomputable def aF (X:Cx) (scope:Scope) (N:List Str) (C:Addr) (s0:Shared) (H0:Hp) (fp:List Addr):Cx :=
 { X with N:=N,s₀:=s0,H₀:=H0,env:=compEnvC scope (bM X.env scope.names []) C X.env,outer:=X.stack,stack:=X.stack,ex:=fp,fn:=fun _=>false,pn:=[],xe:=fun _ _=>False }
noncomputable def emb (ix:List (Option Nat)) (σ:St):St:=ix.map fun o=>match o with | none=>none | some j=>(σ[j]?).join
noncomputable def jE (No:List Str) (out:Str->Option NameKind) (scope:Scope) (N:List Str) (ix:List (Option Nat)):Bool :=
 (N.length == ix.length) && (N.zip ix).all fun p=>match p.2 with | none=>true | some j=>(No[j]? == some p.1) && (scope.names.lookup p.1 == some NameKind.free) && ((out p.1 == some .cell) || (out p.1 == some .free))
structure bK (X:Cx) (scope:Scope) (N:List Str) (ix:List (Option Nat)):Prop where
 kind:scope.kind=.function
 names:scope.names.all (fun x=>(x.2 != .cell) && ((x.2 != .local) || (scope.names.lookup x.1 == some .local)) && ((x.2 != .free) || (X.env.kindOf x.1 == some .cell) || (X.env.kindOf x.1 == some .free)))=true
 em:jE X.N X.env.kindOf scope N ix=true
 nd:N.Nodup
theorem jz {scope:Scope}{env:Env}{x:Str}{k:NameKind}:∀{ns:List (Str×NameKind)},(ns.map fun (n,k)=>if (k == NameKind.free && env.scope.kind == .function && env.kindOf n == some .cell)=true then (n,NameKind.cell) else (n,k)).lookup x=some k ->
  (k=.cell\/k=.free)->(∀y∈ns,y.2≠.cell)->(x,NameKind.free)∈ns
 | [],h,_,_=>by cases h
 | (n,k')::r,h,hk,hc=>by
  have ih:=fun h'=>jz (scope:=scope) (env:=env) (x:=x) (k:=k) (ns:=r) h' hk fun y hy=>hc y (List.mem_cons_of_mem _ hy)
  have key:∀k'':NameKind,List.lookup x ((n,k'')::(r.map fun (n,k)=>if (k == NameKind.free && env.scope.kind == .function && env.kindOf n == some .cell)=true then (n,NameKind.cell) else (n,k)))=some k ->
    (k''=k'\/(k''=.cell/\k'=.free))->(x,NameKind.free)∈(n,k')::r:=fun k'' h hq=>by
   rw [List.lookup_cons] at h
   cases hx:x == n with
   | true =>
    rw [hx] at h
    cases h
    have e:x=n:=eq_of_beq hx
    subst e
    rcases hq with q | ⟨_,q⟩
    ·rcases hk with z | z
     ·exact absurd (q.symm.trans z) (hc (x,k') List.mem_cons_self)
     ·rw [<- q,z];exact List.mem_cons_self
    ·rw [q];exact List.mem_cons_self
   | false =>
    rw [hx] at h
    exact List.mem_cons_of_mem _ (ih h)
  rw [List.map_cons] at h
  dsimp only at h
  split at h
  ·next hh =>
   refine key _ h (.inr ⟨rfl,?_⟩)
   cases k' <;> first | rfl | (simp at hh)
  ·exact key _ h (.inl rfl)
theorem ng {env:Env}{x:Str}:∀{ns:List (Str×NameKind)},ns.lookup x=some NameKind.free->∃k,(k=NameKind.cell\/k=NameKind.free) /\
  (ns.map fun (n,k)=>if (k == NameKind.free && env.scope.kind == .function && env.kindOf n == some .cell)=true then (n,NameKind.cell) else (n,k)).lookup x=some k
 | [],h=>by cases h
 | (n,k')::r,h=>by
  rw [List.lookup_cons] at h
  rw [List.map_cons]
  dsimp only
  cases hx:x == n with
  | true =>
   rw [hx] at h
   cases h
   split
   ·exact⟨_,.inl rfl,by rw [List.lookup_cons,hx]⟩
   ·exact⟨_,.inr rfl,by rw [List.lookup_cons,hx]⟩
  | false =>
   rw [hx] at h
   obtain⟨k,hk,e⟩:=ng (env:=env) (ns:=r) h
   refine⟨k,hk,?_⟩
   split <;> (rw [List.lookup_cons,hx];exact e)
section
variable {X:Cx}{scope:Scope}{N:List Str}{ix:List (Option Nat)}
theorem bK.nocell (L:bK X scope N ix):∀x∈scope.names,x.2≠.cell:=fun x hx z=>by
 have q:=List.all_eq_true.mp L.names x hx
 rw [z] at q
 simp at q
theorem bK.locals (L:bK X scope N ix):∀x∈scope.names,x.2=.local->scope.names.lookup x.1=some .local:=fun x hx z=>by
 have q:=List.all_eq_true.mp L.names x hx
 rw [z] at q
 simpa using q
theorem bK.frees (L:bK X scope N ix):∀x∈scope.names,x.2=.free->X.env.kindOf x.1=some .cell\/X.env.kindOf x.1=some .free:=fun x hx z=>by
 have q:=List.all_eq_true.mp L.names x hx
 rw [z] at q
 simpa using q
theorem bK.clos (L:bK X scope N ix) (ok:X.Ok):closureFor scope X.env=pure (bM X.env scope.names []) :=
 pP fun x hx z=>ok.has _ (L.frees x hx z)
theorem bK.len (L:bK X scope N ix):N.length=ix.length:=by
 have q:=L.em
 unfold jE at q
 rw [Bool.and_eq_true] at q
 exact eq_of_beq q.1
theorem bK.out (L:bK X scope N ix) {i j:Nat}{x:Str} (h1:N[i]?=some x) (h2:ix[i]?=some (some j)):X.N[j]?=some x/\scope.names.lookup x=some NameKind.free/\(X.env.kindOf x=some .cell\/X.env.kindOf x=some .free):=by
 have q:=L.em
 unfold jE at q
 rw [Bool.and_eq_true] at q
 have hz:(N.zip ix)[i]?=some (x,some j):=by
  rw [List.getElem?_zip_eq_some]
  exact⟨h1,h2⟩
 have r:=List.all_eq_true.mp q.2 _ (List.mem_of_getElem? hz)
 simp only [Bool.and_eq_true,Bool.or_eq_true,beq_iff_eq] at r
 exact⟨r.1.1,r.1.2,r.2⟩
theorem uH (L:bK X scope N ix) {pins:List (Addr×Obj)}{σ:St}{H2:Hp}{s2:Shared}{C:Addr}{fp:List Addr} (I2:Inv X pins σ H2 s2) (hC:s2.heap.objs.size<=C) (hf:∀b∈fp,bS X pins H2 b) (hb:∀b∈fp,b < s2.heap.objs.size) :
  (aF X scope N C s2 H2 fp).Ok where
 mod:=I2.ok.mod
 kind:=L.kind
 glob:=I2.ok.glob
 blt:=I2.ok.blt
 above:=hC
 inj:=fun x y c h1 h2=>I2.ok.inj x y c (cZ h1) (cZ h2)
 has:=fun x hx=>by
  have hm:(x,NameKind.free)∈scope.names:=by
   rcases hx with hx | hx
   ·exact jz (scope:=scope) (env:=X.env) hx (.inl rfl) L.nocell
   ·exact jz (scope:=scope) (env:=X.env) hx (.inr rfl) L.nocell
  obtain⟨c,e⟩:=I2.ok.has x (L.frees _ hm rfl)
  exact⟨c,lA hm e⟩
 cab:=fun x c h _=>Bool.noConfusion h
 hd:=I2.ok.hd
 frames:=I2.ok.frames
 stk:=.inl rfl
 exf:=fun b h=>⟨Nat.ne_of_lt (Nat.lt_of_lt_of_le (hb b h) hC),fun x c e=>(hf b h).2.2.2.2.1 x c (cZ e)⟩
 bs:=fun b o e=>I2.bs b o e
 bsz:=Nat.le_trans I2.ok.bsz I2.sz
 noex:=fun b o e h=>by
  rcases (hf b h).2.2.2.1 with z | z
  ·exact I2.ok.noex b o e z
  ·exact absurd (Nat.lt_of_lt_of_le (Heap.lt_size e) (Nat.le_trans I2.ok.bsz z)) (Nat.lt_irrefl _)
 exfs:=fun b h z=>(List.mem_cons.mp (I2.stkSub b z)).elim (hf b h).2.1 (hf b h).2.2.1
 funs:=I2.stack
 frf:=fun b h=>I2.stkFree b h
end
noncomputable def PTs (X:Cx) (ifs:List Expr) (t:TT):Prop :=
 ∀(pins:List (Addr×Obj)) (s:Shared) (σ:St) (H:Hp) (Q:Bool->Hp->Prop),Inv X pins σ H s->t σ H Q ->
  wpAny (model X.prog X.w) X.A (forIn ifs true fun c r=>if r=true then do let ok <- isTrue c X.env (eval c X.env);pure (ForInStep.yield ok) else pure (ForInStep.yield r)) (TP X pins σ Q) X.xe s
noncomputable def dC:TT:=fun _ H Q=>Q true H
theorem bP {X:Cx}:PTs X [] dC:=fun _ _ _ H _ I h=>wpAny_tests_nil ⟨H,I,h⟩
theorem i6 {X:Cx}{c:Expr}{t:TT} (h:PT X c t):PTs X [c] t:=fun pins s σ H Q I q=>wpAny_tests_one (h pins s σ H Q I q)
section
variable {prog:Program}{w:World}{A:Around}{R:Result->Shared->Prop}{s:Shared}
theorem su {elt tg iter:Expr}{ifs:List Expr}{scope:Scope}{pos:Pos}{it acc:Value}{env:Env} (J:Nat->Shared->Prop)
  (turn:∀n s,J n s->wpAny (model prog w) A (pyNext it) (fun r s1=>match r with
   | none=>R (.ok .next) s1
   | some v=>wpAny (model prog w) A (letOwnedTupleGo tg it v) (fun _ s2=>wpAny (model prog w) A (assign tg env v) (fun _ s3 =>
     wpAny (model prog w) A (forIn ifs true fun c r=>if r=true then do let ok <- isTrue c env (eval c env);pure (ForInStep.yield ok) else pure (ForInStep.yield r)) (fun ok s4 =>
      if ok=true then wpAny (model prog w) A (eval elt env) (fun x s5=>wpAny (model prog w) A (call (.builtin "list.append") [acc,x]) (fun _ s6=>∃m,m < n/\J m s6) (fun _ _=>False) s5) (fun _ _=>False) s4
      else ∃m,m < n/\J m s4) (fun _ _=>False) s3) (fun _ _=>False) s2) (fun _ _=>False) s1) (fun _ _=>False) s)
  (n:Nat) (h:J n s):codeAny (model prog w) A (.compLoop (.ListComp elt [⟨tg,iter,ifs,0⟩] scope pos) 0 it acc env) R s:=by
 refine codeAny_loop rfl J (fun k t hJ=>?_) n h
 show wpAny _ A ((compTurn (.ListComp elt [⟨tg,iter,ifs,0⟩] scope pos) 0 it acc env).onRaise (fun x=>do noteFrame x env;theTreesLotGoes x)) _ _ t
 refine wpAny_noted (wpAny_mono (E:=fun _ _=>False) ?_ (fun _ _ q=>q) fun _ _ f=>f.elim)
 rw [compTurn_list]
 refine wpAny_bind (wpAny_standAt (wpAny_bind (thn (turn k t hJ) fun r s1 h1=>?_)))
 cases r with
 | none=>exact wpAny_pure h1
 | some v =>
  refine wpAny_bind (thn h1 fun _ s2 h2=>wpAny_bind (thn h2 fun _ s3 h3=>wpAny_bind (thn h3 fun ok s4 h4=>?_)))
  cases ok with
  | false=>exact wpAny_pure ⟨rfl,h4⟩
  | true=>exact wpAny_bind (wpAny_bind (thn h4 fun x s5 h5=>wpAny_bind (thn h5 fun _ s6 h6=>wpAny_pure (wpAny_pure ⟨rfl,h6⟩))))
end
noncomputable def LcW (J:It) (g:TG) (tt:TT) (te:TE) (σ':St) (fin:List V->Hp->Prop) (H1:Hp):Prop :=
 ∃W:Nat->Nat->List V->St->Hp->Prop,(∃m,W 0 m [] σ' H1)/\∀i m ys σ H,W i m ys σ H ->
  (J.stop i H/\ys.length<=sizeLine/\fin ys H)\/(J.go i H/\ys.length < sizeLine/\∃Nx:List V->St->Hp->Prop,(∀ys' σ' H',Nx ys' σ' H'->∃m',m' < m/\W (i + 1) m' ys' σ' H') /\
   ∀x H',J.yld i H x H'->g x σ H' fun σ2 H2=>tt σ2 H2 fun b H3=>if b=true then te σ2 H3 (fun v H4=>Nx (ys++[v]) σ2 H4) else Nx ys σ2 H3)
noncomputable def tLc (wi:TI) (g:TG) (tt:TT) (te:TE) (ix:List (Option Nat)):TE:=fun σ H Q=>wi σ H fun J H1=>LcW J g tt te (emb ix σ) (fun ys H'=>∀p,H' p=none->Q (.ref p) (upd H' p (.lst ys))) H1
section
variable {X:Cx}{scope:Scope}{N:List Str}{ix:List (Option Nat)}
theorem mQ {pins pins':List (Addr×Obj)}{σ σ':St}{H2 H':Hp}{s2 s':Shared}{C D:Addr}{fp:List Addr}{ys:List V}{its:List Value}{k:Nat}{h':Heap} (I2:Inv X pins σ H2 s2) (hf:∀b∈fp,bS X pins H2 b)
  (I':Inv (aF X scope N C s2 H2 fp) pins' σ' H' s') (hC:s2.heap.objs.size<=C) (hD:s2.heap.objs.size<=D) (hDC:D≠C) (hn:H' D=none) (ho:s'.heap.get? D=some { cls:=.type "list",data:=.seq its.toArray k }) (rv:ar ys its) (hz:ys.length<=sizeLine)
  (hs:∀b o,b≠C->s'.heap.get? b=some o->h'.get? b=some o):Inv X pins σ (upd H' D (.lst ys)) { s' with heap:=h' }:=by
 have B:Un (frs X.stack) fp H2 H' s2.heap s'.heap:=I'.base
 have neC:∀b o,s2.heap.get? b=some o->b≠C:=fun b o e=>Nat.ne_of_lt (Nat.lt_of_lt_of_le (Heap.lt_size e) hC)
 have neD:∀b o,s2.heap.get? b=some o->b≠D:=fun b o e=>Nat.ne_of_lt (Nat.lt_of_lt_of_le (Heap.lt_size e) hD)
 have hCn:H' C=none:=I'.free
 have tD:∀b u,H' b=some u->b≠D:=fun b u e=>au e hn
 have tC:∀b u,H' b=some u->b≠C:=fun b u e=>au e hCn
 refine I2.call' (s':={ s' with heap:=h' }) (ch:=fp) I'.os ⟨fun b o e n hb hx=>?_,fun b o e n hb hx=>?_,fun b o e n hx=>?_,fun b o e hx=>?_,fun b xs e=>?_,fun b o u e=>?_,fun b ps e=>?_⟩ (fun b u e=>?_) I'.bare fun b hb=>⟨(hf b hb).2.2.2.1,(hf b hb).2.1,(hf b hb).2.2.2.2.1,(hf b hb).2.2.2.2.2⟩
 ·exact hs b o (neC b o e) (B.keep b o e n hb hx)
 ·obtain⟨sl,q⟩:=B.slot b o e n hb hx
  exact⟨sl,hs b _ (neC b o e) q⟩
 ·rw [ai (neD b o e)];exact B.free b o e n hx
 ·obtain⟨o',q⟩:=B.there b o e hx
  exact⟨o',hs b o' (neC b o e) q⟩
 ·rw [ai (tD b _ (B.tups b xs e))];exact B.tups b xs e
 ·rw [ai (tD b _ (B.frzs b o u e))];exact B.frzs b o u e
 ·obtain⟨m,q⟩:=B.tbls b ps e
  exact⟨m,by rw [ai (tD b _ q)];exact q⟩
 ·by_cases hb:b=D
  ·subst hb
   rw [ah] at e
   cases e
   exact⟨hz,its,k,rv,hs b _ hDC ho⟩
  ·rw [ai hb] at e
   refine (I'.hok b u e).stay (fun c v hc q=>hs c v ?_ q) (fun c q=>by rw [ai (tD c _ q)];exact q) fun c xs q=>by rw [ai (tD c _ q)];exact q
   rcases hc with z | z
   ·rw [z];exact tC b u e
   ·exact tC c _ z
theorem nF (L:bK X scope N ix) {pins:List (Addr×Obj)}{σ:St}{H2:Hp}{s2:Shared}{C:Addr}{fp:List Addr}{h1:Heap}{tk:Nat}{m:Str->Option Value} (I2:Inv X pins σ H2 s2) (hC:s2.heap.objs.size<=C) (hf:∀b∈fp,bS X pins H2 b) (hb:∀b∈fp,b < s2.heap.objs.size)
  (kp:∀b o,s2.heap.get? b=some o->h1.get? b=some o) (hn:h1.Ns C m):Inv (aF X scope N C s2 H2 fp) [] (emb ix σ) H2 { s2 with heap:=h1,toks:=tk }:=by
 refine⟨uH L I2 hC hf hb,rfl,I2.bare,Un.kept kp,⟨m,hn,fun i x v e1 e2 e3=>?_⟩,fun x c e=>?_,I2.hok.fresh hC,fun x c e=>I2.freeC x c (cZ e),fun p hp=>absurd (show p∈([]:List (Addr×Obj)) from hp) (by simp),I2.hok.kept kp,?_⟩
 ·unfold emb at e2
  rw [List.getElem?_map] at e2
  cases q:ix[i]? with
  | none=>rw [q] at e2;cases e2
  | some o =>
   rw [q] at e2
   cases o with
   | none=>cases e2
   | some j =>
    have e2':(σ[j]?).join=some v:=Option.some.inj e2
    have e4:σ[j]?=some (some v):=by
     cases z:σ[j]? with
     | none=>rw [z] at e2';cases e2'
     | some y=>rw [z] at e2';exact congrArg some e2'
    obtain⟨a1,a2,a3⟩:=L.out e1 q
    obtain⟨mo,_,hl⟩:=I2.loc
    obtain⟨u,r,lk⟩:=hl j x v a1 e4 (.inr a3)
    refine⟨u,r,?_⟩
    rcases lk with ⟨k,_⟩ | ⟨k,c,e,o,ho,hd⟩
    ·rcases a3 with z | z
     ·rw [z] at k;cases k
     ·rw [z] at k;cases k
    ·obtain⟨k',hk',e'⟩:=ng (env:=X.env) a2
     refine .inr ⟨?_,c,lA (PySem.mem_of_lookup a2) e,o,kp _ _ ho,hd⟩
     rcases hk' with z | z
     ·subst z;exact .inl e'
     ·subst z;exact .inr e'
 ·obtain⟨v,o,ho,hd⟩:=I2.cell x c (cZ e)
  exact⟨v,o,kp _ _ ho,hd⟩
 ·unfold emb
  rw [List.length_map]
  exact L.len.symm
variable {tg iter elt:Expr}{ifs:List Expr}{pos:Pos}{g:TG}{tt:TT}{te:TE}
theorem mY (L:bK X scope N ix) (hc:X.calm=true) (hg:∀C s0 H0 fp,PG (aF X scope N C s0 H0 fp) tg g) (ht:∀C s0 H0 fp,PTs (aF X scope N C s0 H0 fp) ifs tt) (he:∀C s0 H0 fp,PE (aF X scope N C s0 H0 fp) elt te)
  {pins:List (Addr×Obj)}{σ:St}{H2:Hp}{s2:Shared}{it:Addr}{fp:List Addr}{tn:Nat->Heap->Prop}{J:It}{fin:List V->Hp->Prop}{E:Value->Shared->Prop}{RR:Value->Addr->Result->Shared->Prop}
  (I2:Inv X pins σ H2 s2) (T:Turn X.prog X.w X.K tg J fp it tn) (st:tn 0 s2.heap) (f2:∀b∈fp,bS X pins H2 b) (hW:LcW J g tt te (emb ix σ) fin H2)
  (hRR:∀D C s' m ys H',s'.heap.Ns C m->s'.os=s2.os->D≠C->bS X pins (upd H' D (.lst ys)) C->(∀h',Heap.SameBut C s'.heap h'->Inv X pins σ (upd H' D (.lst ys)) { s' with heap:=h' })->H' D=none->fin ys H'->RR (.ref D) C (.ok .next) s') :
  wpAny (model X.prog X.w) X.A (newList []) (fun acc s3=>wpAny (model X.prog X.w) X.A (newFunctionEnv scope X.env.globals (bM X.env scope.names []) [] X.env.qual none .none (some X.env)) (fun cenv s4 =>
   codeAny (model X.prog X.w) X.A (.compStart (.ListComp elt [⟨tg,iter,ifs,0⟩] scope pos) 0 (.ref it) acc { cenv with scope:=relabel scope X.env }) (RR acc cenv.locals) s4) E s3) E s2:=by
 obtain⟨W,⟨m0,w0⟩,turn⟩:=hW
 have hb2:∀b∈fp,b < s2.heap.objs.size:=fun b hb=>by
  obtain⟨o,e,_⟩:=T.obj _ _ st b hb
  exact Heap.lt_size e
 refine wpAny_newObj_type (wpAny_newFunctionEnv L.nocell (by intro y hy;simp at hy) (fun h1 hns hsb=>?_) L.kind)
 dsimp only at hns hsb ⊢
 generalize hG:s2.heap.push { cls:=.type "list",dict:=none,data:=.seq ([]:List Value).toArray }=G at hns hsb ⊢
 have hGs:G.objs.size=s2.heap.objs.size + 1:=by rw [<- hG,Heap.size_push]
 generalize hDe:s2.heap.objs.size=D at hGs hb2
 generalize hCe:G.objs.size=C at hGs hns hsb ⊢
 have hDC:D≠C:=by omega
 have nq:∀b:Nat,b < s2.heap.objs.size->b≠C/\b≠D:=fun b h=>⟨by omega,by omega⟩
 have nq2:∀b∈fp,b≠C/\b≠D:=fun b hb=>nq b (by rw [hDe];exact hb2 b hb)
 have kG:∀b o,s2.heap.get? b=some o->G.get? b=some o:=fun b o e=>by rw [<- hG];exact Heap.get?_push_of_some _ e
 have kp:∀b o,s2.heap.get? b=some o->h1.get? b=some o:=fun b o e=>hsb.extBut b o (nq b (Heap.lt_size e)).1 (Heap.get?_push_of_some _ (kG b o e))
 have oD:∃n,h1.get? D=some { cls:=.type "list",data:=.seq ([]:List Value).toArray n }:=⟨_,hsb.extBut _ _ hDC (Heap.get?_push_of_some _ (by rw [<- hG,<- hDe];exact Heap.get?_push_size _ rfl))⟩
 have I4:=nF L (tk:=s2.toks + ([]:List (Str×Value)).length) I2 (C:=C) (by omega) f2 (by rw [hDe];exact hb2) kp hns
 have st4:tn 0 h1:=T.keep _ _ _ st fun b _ o e=>kp b o e
 have hDf:D∉(aF X scope N C s2 H2 fp).fs:=fun z=>by
  have z':D∈frs X.stack:=z
  rcases List.mem_cons.mp (I2.stkSub D z') with q | q
  ·exact (nq _ I2.lt).2 q.symm
  ·exact I2.nofs (a:=D) (by omega) q
 have cellD:∀x c,(aF X scope N C s2 H2 fp).env.cells.lookup x=some c->c≠D:=fun x c e z=>by
  obtain⟨v,o,ho,_⟩:=I2.cell x c (cZ e)
  exact (nq c (Heap.lt_size ho)).2 z
 have stat:∀{H':Hp}{pl:List (Addr×Obj)},(∀b∈fp,H' b=none)->(∀p∈pl,p.1=D)->∀b∈fp,bS (aF X scope N C s2 H2 fp) pl H' b:=fun {H' pl} hn hp b hb=>by
  have hlt:=hb2 b hb
  refine⟨hn b hb,(nq2 b hb).1,fun z=>?_,.inl hb,fun x c e=>(f2 b hb).2.2.2.2.1 x c (cZ e),fun p hq z=>?_⟩
  ·exact (List.mem_cons.mp (I2.stkSub b z)).elim (f2 b hb).2.1 (f2 b hb).2.2.1
  ·have hq':p∈pl:=by simpa [aF] using hq
   exact (nq2 b hb).2 (z.symm.trans (hp p hq'))
 have pinD:∀{pl:List (Addr×Obj)}{σ':St}{H':Hp}{s':Shared}{o:Obj},Inv (aF X scope N C s2 H2 fp) pl σ' H' s'->s'.heap.get? D=some o->H' D=none->(∀v,o.data≠.cell v)->Inv (aF X scope N C s2 H2 fp) [(D,o)] σ' H' s' :=
  fun {pl σ' H' s' o} I' ho hn hd=>I'.pins_of fun p hp=>by
   have e:p=(D,o):=by simpa using hp
   subst e
   exact⟨ho,hn,hDC,hDf,hd⟩
 have loop:∀s4:Shared,s4={ s2 with heap:=h1,toks:=s2.toks + ([]:List (Str×Value)).length } ->
   codeAny (model X.prog X.w) X.A (.compLoop (.ListComp elt [⟨tg,iter,ifs,0⟩] scope pos) 0 (.ref it) (.ref D) (aF X scope N C s2 H2 fp).env) (RR (.ref D) C) s4:=by
  rintro s4 rfl
  refine su (fun n s'=>∃i σ' H' ys its k,Inv (aF X scope N C s2 H2 fp) [(D,{ cls:=.type "list",data:=.seq its.toArray k })] σ' H' s'/\tn i s'.heap/\(∀b∈fp,H' b=none)/\ar ys its/\W i n ys σ' H') ?_ m0 ?_
  ·rintro n s' ⟨i,σ',H',ys,its,k,I',st',fr',rv,w'⟩
   have hD':=I'.pin _ (List.mem_append_right _ List.mem_cons_self)
   rcases turn i n ys σ' H' w' with ⟨stop,hz,qf⟩ | ⟨go,hz,Nx,hN,step⟩
   ·refine thn (T.done (aF X scope N C s2 H2 fp) rfl rfl rfl hc i _ s' σ' H' _ I' (stat fr' (by simp)) st' stop) fun r s5 ⟨hr,I5⟩=>?_
    subst hr
    have hD5:=I5.pin _ (List.mem_append_right _ List.mem_cons_self)
    obtain⟨m5,hn5,_⟩:=I5.loc
    refine hRR D C s5 m5 ys H' hn5 I5.os hDC (I2.fpOk (by omega) (by rw [ai (Ne.symm hDC)];exact I5.free)) (fun h' hs'=>?_) hD5.2.1 qf
    exact mQ I2 f2 I5 (by omega) (by omega) hDC hD5.2.1 hD5.1 rv hz fun b o hb e=>hs'.extBut b o hb e
   ·refine thn (T.item (aF X scope N C s2 H2 fp) rfl rfl rfl hc i _ s' σ' H' _ I' (stat fr' (by simp)) st' go) fun r s5 ⟨u,hr,h5⟩=>?_
    subst hr
    refine thn h5 fun _ s6 ⟨x,H6,I6,r6,y6,st6,fr6⟩=>?_
    have I6':=I6.pinned (stat fr6 (by simp)) (T.obj _ _ st6)
    refine thn (hg C s2 H2 fp _ s6 σ' H6 x u _ I6' r6 (step x H6 y6)) fun _ s7 ⟨σ7,H7,I7,q7⟩=>?_
    refine thn (ht C s2 H2 fp _ s7 σ7 H7 _ I7 q7) fun ok s8 ⟨H8,I8,q8⟩=>?_
    have back:∀{H9:Hp}{s9:Shared},Inv (aF X scope N C s2 H2 fp) ([(D,{ cls:=.type "list",data:=.seq its.toArray k })]++fg fp s6.heap) σ7 H9 s9->tn (i + 1) s9.heap/\∀b∈fp,H9 b=none:=fun {H9 s9} I9=>by
     refine⟨T.keep _ _ _ st6 fun b hb o e=>(I9.pin (b,o) (List.mem_append_right _ (List.mem_append_right _ (eQ hb e)))).1,fun b hb=>?_⟩
     obtain⟨o,e,d⟩:=T.obj _ _ st6 b hb
     exact (I9.pin (b,o) (List.mem_append_right _ (List.mem_append_right _ (eQ hb e)))).2.1
    cases ok with
    | false =>
     rw [if_neg Bool.false_ne_true] at q8 ⊢
     obtain⟨m',hm,w8⟩:=hN _ _ _ q8
     obtain⟨st8,fr8⟩:=back I8
     exact⟨m',hm,i + 1,σ7,H8,ys,its,k,I8.unpinned,st8,fr8,rv,w8⟩
    | true =>
     rw [if_pos rfl] at q8 ⊢
     refine thn (he C s2 H2 fp _ s8 σ7 H8 _ I8 q8) fun y s9 ⟨v,H9,I9,r9,q9⟩=>?_
     have hD9:=I9.pin _ (List.mem_append_right _ (List.mem_append_left _ List.mem_cons_self))
     obtain⟨st9,fr9⟩:=back I9
     refine wpAny_list_append_plain (hsz:=by have:=rv.length;rw [List.size_toArray];omega) ⟨k,hD9.1⟩ fun h' hl' hs'=>?_
     obtain⟨m',hm,w9⟩:=hN _ _ _ q9
     obtain⟨k',ho'⟩:=hl'
     have I10:Inv (aF X scope N C s2 H2 fp) [] σ7 H9 { s9 with heap:=h' }:=(I9.pins_of (pins':=[]) fun p hp=>absurd hp (by simp)).turned (t':=s9.toks) (it:=D) (fun b o hb e=>hs'.extBut b o hb e) hD9.2.1 hDC (.inr (by show s2.heap.objs.size<=D;omega)) cellD (fun p hp=>absurd hp (by simp [aF]))
     refine⟨m',hm,i + 1,σ7,H9,ys++[v],its++[y],k',pinD I10 (by rw [ho'];simp) hD9.2.1 (fun v z=>by cases z),?_,fr9,rv.append (.cons r9 .nil),w9⟩
     exact T.keep _ _ _ st9 fun b hb o e=>hs'.extBut b o (nq2 b hb).2 e
  ·obtain⟨n,e⟩:=oD
   exact⟨0,emb ix σ,H2,[],[],n,pinD I4 e (I2.hok.fresh (by omega)) (fun v z=>by cases z),st4,fun b hb=>(f2 b hb).1,.nil,w0⟩
 have q:=loop _ rfl
 exact codeAny_compStart_list q (T.self _ 0 _ _ _ st4 q)
end
theorem j8 {ss:List Str}:∀{us:List Value},ar (ss.map V.str) us->StrsAre us ss:=by
 induction ss with
 | nil=>intro us r;rw [List.map_nil] at r;cases r;exact .nil
 | cons n ns ih =>
  intro us r
  rw [List.map_cons] at r
  cases r with
  | cons r1 r2 =>
   obtain⟨t,e⟩:=r1
   subst e
   exact .cons n t (ih r2)
theorem gu:∀{vs:List Value}{ss:List Str},StrsAre vs ss->ar (ss.map V.str) vs
 | _,_,.nil=>.nil
 | _,_,.cons n t h=>.cons ⟨t,rfl⟩ (gu h)
section
variable {X:Cx}
variable {scope:Scope}{N:List Str}{ix:List (Option Nat)}{tg iter elt:Expr}{ifs:List Expr}{pos:Pos}{g:TG}{tt:TT}{te:TE}{wi:TI}
theorem cC (L:bK X scope N ix) (hc:X.calm=true) (hi:PI X tg iter wi) (hg:∀C s0 H0 fp,PG (aF X scope N C s0 H0 fp) tg g) (ht:∀C s0 H0 fp,PTs (aF X scope N C s0 H0 fp) ifs tt) (he:∀C s0 H0 fp,PE (aF X scope N C s0 H0 fp) elt te)
  (hs:∀x,foldedSetIterable iter X.env x=pure x:=by intro _;rfl):PE X (.ListComp elt [⟨tg,iter,ifs,0⟩] scope pos) (tLc wi g tt te ix):=by
 intro pins s σ H Q I h
 rw [eval_ListComp]
 refine wpAny_comprehension_free (use:=none) rfl hs (L.clos I.ok) L.kind L.locals (thn (hi pins s σ H _ I h) fun v s1 h1=>thn h1 fun itv s2 h2=>?_)
 obtain⟨it,fp,tn,J,H2,rfl,I2,T,st2,f2,hW⟩:=h2
 refine mY (RR:=fun acc C=>compPost (model X.prog X.w) X.A X.xe none (EP X pins σ Q) acc C) L hc hg ht he I2 T st2 f2 hW ?_
 intro D C s' m ys H' hn ho hDC hC hI hD fin
 exact⟨m,hn,fun h' hs'=>⟨.ref D,_,hI h' hs',rfl,fin D hD⟩⟩
noncomputable def mT (i:Nat) (wi:TI) (g:TG) (tt:TT) (te:TE) (ix:List (Option Nat)):TS:=fun D σ H=>wi σ H fun J H1=>LcW J g tt te (emb ix σ) (fun ys H'=>∀p,H' p=none->D.nx (σ.set i (some (.ref p))) (upd H' p (.lst ys))) H1
theorem fA {i:Nat}{y:Str}{py spos:Pos} (hN:X.N.Nodup) (hi':X.N[i]?=some y) (hx:Loc X.env.scope y) (L:bK X scope N ix) (hc:X.calm=true) (hi:PI X tg iter wi) (hg:∀C s0 H0 fp,PG (aF X scope N C s0 H0 fp) tg g)
  (ht:∀C s0 H0 fp,PTs (aF X scope N C s0 H0 fp) ifs tt) (he:∀C s0 H0 fp,PE (aF X scope N C s0 H0 fp) elt te)
  (hsw:swapsWith (.ListComp elt [⟨tg,iter,ifs,0⟩] scope pos) (some (.Name y py)) spos.line X.env=pure true:=by rfl) (hs:∀x,foldedSetIterable iter X.env x=pure x:=by intro _;rfl)
  (hf:X.fn y=true\/X.env.scope.names.lookup y=some .local:=by first | exact .inl rfl | exact .inr rfl | assumption) :
  PS X (.Assign [.Name y py] (.ListComp elt [⟨tg,iter,ifs,0⟩] scope pos) spos) (mT i wi g tt te ix):=by
 intro pins s σ H D I h
 rw [exec_Assign_Name_used _ _ _ _ hsw]
 refine wpAny_bind (wpAny_standAt (wpAny_bind ?_))
 show wpAny _ X.A (do let _ <- comprehension (.ListComp elt [⟨tg,iter,ifs,0⟩] scope pos) scope X.env _ (newList []) false (eval iter X.env) (some (assign (.Name y py) X.env))) _ _ s
 refine wpAny_bind (thn (wpAny_comprehension_free (use:=some (assign (.Name y py) X.env)) (Q:=fun _ s'=>SP X pins D .next s') rfl hs (L.clos I.ok) L.kind L.locals
  (thn (hi pins s σ H _ I h) fun v s1 h1=>thn h1 fun itv s2 h2=>?_)) fun _ s' hq=>wpAny_pure (wpAny_pure hq))
 obtain⟨it,fp,tn,J,H2,rfl,I2,T,st2,f2,hW⟩:=h2
 refine mY (RR:=fun acc C=>compPost (model X.prog X.w) X.A X.xe (some (assign (.Name y py) X.env)) (fun _ s'=>SP X pins D .next s') acc C) L hc hg ht he I2 T st2 f2 hW ?_
 intro Da C s' m ys H' hn ho hDC hC hI hD fin
 have I':=hI s'.heap (Heap.SameBut.refl _ _)
 show wpAny _ X.A (assign (.Name y py) X.env (.ref Da)) _ _ s'
 refine wpAny_assign_Name (iM (v:=.ref Da) I' hN hi' hx rfl (fun s'' I'' ch=>?_) hf)
 obtain⟨a,hsa,hwa⟩:=ch
 obtain⟨c1,c2,c3,c4,c5,c6⟩:=hC
 have hCa:C≠a:=by
  rcases hwa with z | z
  ·rw [z];exact c2
  ·exact fun w=>c5 y a z w.symm
 refine⟨m,hn.sameBut hsa hCa,fun h' hs'=>⟨_,_,I''.turned (t':=s''.toks) (it:=C) (fun b o hb e=>hs'.extBut b o hb e) c1 c2 c4 c5 c6,fin Da hD⟩⟩
end
mutual
inductive DV (H:Hp):V->PyData->Prop
 | non:DV H .non .none
 | bl (b:Bool):DV H (.bl b) (.bool b)
 | int (i:Int):DV H (.int i) (.int i)
 | str (x:Str):DV H (.str x) (.str x)
 | tup {a:Addr}{xs:List V}{ds:List PyData}:H a=some (.tup xs)->DVs H xs ds->DV H (.ref a) (.tuple ds)
 | lst {a:Addr}{xs:List V}{ds:List PyData}:H a=some (.lst xs)->DVs H xs ds->DV H (.ref a) (.list ds)
inductive DVs (H:Hp):List V->List PyData->Prop
 | nil:DVs H [] []
 | cons {x:V}{d:PyData}{xs:List V}{ds:List PyData}:DV H x d->DVs H xs ds->DVs H (x::xs) (d::ds)
end
section
variable {P:Program}{w:World}{H:Hp}{h:Heap}
mutual
theorem DV.reads (ok:HOk P w H h):∀{x:V}{d:PyData}{u:Value},DV H x d->RelV x u->∃as,Reads h u d as
 | _,_,u,.non,r=>by cases (show u=Value.none from r);exact⟨_,Reads.none⟩
 | _,_,u,.bl b,r=>by cases (show u=Value.bool b from r);exact⟨_,Reads.bool b⟩
 | _,_,u,.int i,r=>by obtain⟨t,e⟩:=(show ∃t,u=Value.int i t from r);cases e;exact⟨_,Reads.int i t⟩
 | _,_,u,.str x,r=>by obtain⟨t,e⟩:=(show ∃t,u=Value.str x t from r);cases e;exact⟨_,Reads.str x t⟩
 | _,_,u,.tup (a:=a) (xs:=xs) e q,r=>by
  cases (show u=Value.ref a from r)
  obtain⟨_,its,rv,o,ho,hc,n,hd⟩:=(show aQ P w H h a (.tup xs) from ok a _ e)
  obtain⟨as,z⟩:=DVs.reads ok q rv
  exact⟨as,Reads.tuple ho hc hd (by simpa using z)⟩
 | _,_,u,.lst (a:=a) (xs:=xs) e q,r=>by
  cases (show u=Value.ref a from r)
  obtain⟨_,its,n,rv,ho⟩:=(show aQ P w H h a (.lst xs) from ok a _ e)
  obtain⟨as,z⟩:=DVs.reads ok q rv
  exact⟨_,Reads.list ho rfl rfl (by simpa using z)⟩
theorem DVs.reads (ok:HOk P w H h):∀{xs:List V}{ds:List PyData}{us:List Value},DVs H xs ds->ar xs us->∃as,ReadsAll h us ds as
 | _,_,_,.nil,.nil=>⟨_,ReadsAll.nil⟩
 | _,_,_,.cons a b,.cons r rs=>by
  obtain⟨as,p⟩:=DV.reads ok a r
  obtain⟨bs,q⟩:=DVs.reads ok b rs
  exact⟨_,ReadsAll.cons p q⟩
end
end
theorem DVs.strs {H:Hp}:∀ss:List Str,DVs H (ss.map V.str) (ss.map PyData.str)
 | []=>.nil
 | x::r=>.cons (.str x) (DVs.strs r)
section
variable {X:Cx}
open SeqAt in
theorem js {k:Nat} (hr:aN k X.A):OpR X (compareOp .Eq) (fun x y H Q=>∃d e,DV H x d/\DV H y e/\shaped d=true/\shaped e=true/\Q (.bl (PyData.eqv d e)) H):=by
 intro pins s σ H x y v u Q I rx ry h
 obtain⟨d,e,dx,dy,sd,se,q⟩:=h
 obtain⟨as,r1⟩:=dx.reads I.hok rx
 obtain⟨bs,r2⟩:=dy.reads I.hok ry
 exact eq_dataH r1 r2 sd se hr.units ⟨.bl (PyData.eqv d e),H,I,rfl,q⟩
open SeqAt in
theorem fc {k:Nat} (hr:aN k X.A):OpR X (compareOp .NotEq) (fun x y H Q=>∃d e,DV H x d/\DV H y e/\shaped d=true/\shaped e=true/\Q (.bl (!PyData.eqv d e)) H):=by
 intro pins s σ H x y v u Q I rx ry h
 obtain⟨d,e,dx,dy,sd,se,q⟩:=h
 obtain⟨as,r1⟩:=dx.reads I.hok rx
 obtain⟨bs,r2⟩:=dy.reads I.hok ry
 exact ne_dataH r1 r2 sd se hr.units ⟨.bl (!PyData.eqv d e),H,I,rfl,q⟩
theorem pI (bs:List Bool):((List.range bs.length).all fun i=>(bs[i]?).getD true)=bs.all id:=by
 rw [Bool.eq_iff_iff,List.all_eq_true,List.all_eq_true]
 constructor
 ·intro h b hb
  obtain⟨i,hi,e⟩:=List.mem_iff_getElem.mp hb
  have:=h i (List.mem_range.mpr hi)
  rw [List.getElem?_eq_getElem hi,e] at this
  simpa using this
 ·intro h i hi
  have hi:=List.mem_range.mp hi
  rw [List.getElem?_eq_getElem hi]
  simpa using h _ (List.getElem_mem hi)
theorem eh (hc:X.calm=true):bz X (.builtin "all") (fun xs H Q=>∃(p:Addr) (bs:List Bool),xs=[.ref p]/\SqL X.K H p (bs.map V.bl)/\Q (.bl (bs.all id)) H):=by
 intro pins s σ H xs us Q I r h
 obtain⟨p,bs,rfl,hq,q⟩:=h
 obtain⟨u,rfl,rx⟩:=vals1 r
 cases rx
 obtain⟨its,r',pl,hz⟩:=I.list hq
 have hlt:p < s.heap.objs.size:=by obtain⟨o,n,e,_⟩:=pl;exact Heap.lt_size e
 have hlen:=r'.length
 rw [List.length_map] at hlen
 refine call_all_walk (wpAny_pyIter_list pl.isList ?_)
 refine⟨s.heap.objs.size,[s.heap.objs.size,p],[s.heap.objs.size],its.toArray.size,_,_,fun i=>(bs[i]?).getD true,rfl,Walks.list (A:=X.A.in1) (I.ok.hd hc) _ p (Nat.ne_of_lt hlt) its.toArray,
  ⟨⟨_,Heap.get?_push_size _ rfl,rfl,rfl⟩,pl.isList.push _⟩,fun i v s' Q' E' hP hQ=>?_,fun h' tk hk=>?_⟩
 ·have hP':its[i]?=some v:=by simpa using hP
  have hb:∃b,bs[i]?=some b/\v=Value.bool b:=by
   have hi:i < bs.length:=by rw [hlen];exact (List.getElem?_eq_some_iff.mp hP').1
   have e1:(bs.map V.bl)[i]?=some (V.bl bs[i]):=by rw [List.getElem?_map,List.getElem?_eq_getElem hi];rfl
   obtain⟨w',e2,rw'⟩:=r'.get e1
   rw [hP'] at e2
   cases e2
   exact⟨bs[i],List.getElem?_eq_getElem hi,rw'⟩
  obtain⟨b,e,rfl⟩:=hb
  simp only [e,Option.getD_some] at hQ
  exact wpAny_truthy_bool hQ
 ·have e:((List.range its.toArray.size).all fun i=>(bs[i]?).getD true)=bs.all id:=by
   rw [List.size_toArray,<- hlen];exact pI bs
  rw [e]
  refine⟨.bl (bs.all id),H,I.kept (t':=tk) fun b x e=>hk b x (fun hm=>?_) (Heap.get?_push_of_some _ e),rfl,q⟩
  rw [List.mem_singleton.mp hm] at e
  exact Nat.lt_irrefl _ (Heap.lt_size e)
theorem dE {T:String}:bz X (.builtin "isinstance") (fun xs H Q=>∃x t b,xs=[x,.ty T]/\cj X.K H x t/\PySem.W.kitOne X.K t (.type T)=some b/\Q (.bl b) H):=by
 intro pins s σ H xs us Q I r h
 obtain⟨x,t,b,rfl,ty,e,q⟩:=h
 obtain⟨u,w',rfl,rx,ry⟩:=vals2 r
 cases (show w'=Value.type T from ry)
 exact qA I rx ty e fun tk=>⟨.bl b,H,I.tok tk,rfl,q⟩
theorem kD:OpR X (compareOp .LtE) (fun x y H Q=>∃i j,x=.str i/\y=.str j/\Q (.bl (!decide (j.cps.toList < i.cps.toList))) H):=by
 intro pins s σ H x y v u Q I rx ry h
 obtain⟨i,j,rfl,rfl,q⟩:=h
 obtain⟨t,rfl⟩:=rx
 obtain⟨t',rfl⟩:=ry
 exact PySem.P.le_str ⟨.bl (!decide (j.cps.toList < i.cps.toList)),H,I,rfl,q⟩
theorem fK:MtR X "str.join" (fun x xs H Q=>∃(z:Str) (p:Addr) (ss:List Str),x=.str z/\xs=[.ref p]/\SqL X.K H p (ss.map V.str)/\(ss.map (·.length)).sum + ss.length * z.length<=16777216/\Q (.str (Txt.join z ss)) H):=by
 intro pins s σ H x xs v us Q I rx rs h
 obtain⟨z,p,ss,rfl,rfl,hq,hz,q⟩:=h
 obtain⟨t,rfl⟩:=rx
 obtain⟨u,rfl,ru⟩:=vals1 rs
 cases ru
 obtain⟨its,r',pl,_⟩:=I.list hq
 exact join_list pl.isList (j8 r') hz fun t' k=>⟨.str (Txt.join z ss),H,I.tok k,⟨_,rfl⟩,q⟩
theorem jW:bz X (.builtin "sorted") (fun xs H Q=>∃(p:Addr) (ss:List Str),xs=[.ref p]/\SqL X.K H p (ss.map V.str)/\ss.length < 64/\∀(ss':List Str) (q:Addr),ss'.Perm ss->sortedS ss'=true->H q=none->Q (.ref q) (upd H q (.lst (ss'.map V.str)))):=by
 intro pins s σ H xs us Q I r h
 obtain⟨p,ss,rfl,hq,h64,q⟩:=h
 obtain⟨u,rfl,rx⟩:=vals1 r
 cases rx
 obtain⟨its,r',pl,hz⟩:=I.list hq
 have hlen:=r'.length
 rw [List.length_map] at hlen
 refine sorted_strs pl.isList (j8 r') (by omega) fun out ss' a1 a2 a3=>?_
 obtain⟨e,he⟩:=sortedAll_at s.heap its out
 have hv:ar (ss'.map V.str) out.toList:=gu a1
 have hfr:H (s.heap.objs.size + 1)=none:=I.hok.fresh (Nat.le_succ _)
 refine⟨.ref (s.heap.objs.size + 1),_,I.laid (t':=s.toks) (o:=.lst (ss'.map V.str)) (fun b o z=>sortedAll_old z) (Nat.le_succ _) ⟨?_,out.toList,e,hv,?_⟩,rfl,q ss' _ a2 a3 hfr⟩
 ·rw [List.length_map,a2.length_eq,sizeLine_eq];omega
 ·simpa [seqObj] using he
end
end L2
set_option maxHeartbeats 4000000
namespace L2
open PySem PySem.W PyProof.Rows
noncomputable abbrev gp (p:Array Nat) (i:Nat):Nat:=p.getD i 0
structure Ord (N:Nat) (lt:Nat->Nat->Bool):Prop where
 tr:∀i j k,lt i j=true->lt j k=true->lt i k=true
 irr:∀i,lt i i=false
 tot:∀i j,i < N->j < N->i≠j->lt i j=true\/lt j i=true
noncomputable def Pm (N:Nat) (p:Array Nat):Prop:=p.Perm (List.toArray (List.range N))
theorem Pm.size {N:Nat}{p:Array Nat} (h:Pm N p):p.size=N:=by
 have:=Array.Perm.size_eq h
 simpa using this
theorem fX {p:Array Nat}{i:Nat} (h:i < p.size):gp p i=p[i]:=by simp [gp,Array.getD,h]
theorem gB {p q:Array Nat}{i j:Nat} (h:p[i]?=q[j]?):gp p i=gp q j:=by simp [gp,Array.getD_eq_getD_getElem?,h]
theorem Pm.lt {N:Nat}{p:Array Nat} (h:Pm N p) {i:Nat} (hi:i < N):gp p i < N:=by
 have hs:i < p.size:=by rw [h.size];exact hi
 rw [fX hs]
 have hm:p[i]∈(List.toArray (List.range N)):=h.mem_iff.mp (Array.getElem_mem hs)
 simpa using hm
theorem Pm.nd {N:Nat}{p:Array Nat} (h:Pm N p):p.toList.Nodup:=by
 have hp:p.toList.Perm (List.range N):=by simpa using Array.perm_iff_toList_perm.mp h
 exact hp.nodup_iff.mpr List.nodup_range
theorem Pm.inj {N:Nat}{p:Array Nat} (h:Pm N p) {i j:Nat} (hi:i < N) (hj:j < N) (hij:i≠j):gp p i≠gp p j:=by
 have hsi:i < p.size:=by rw [h.size];exact hi
 have hsj:j < p.size:=by rw [h.size];exact hj
 rw [fX hsi,fX hsj]
 intro e
 have nd:=h.nd
 rcases Nat.lt_or_gt_of_ne hij with z | z
 ·exact List.pairwise_iff_getElem.mp nd i j (by simpa using hsi) (by simpa using hsj) z (by simpa using e)
 ·exact List.pairwise_iff_getElem.mp nd j i (by simpa using hsj) (by simpa using hsi) z (by simpa using e.symm)
section
variable {N:Nat}{lt:Nat->Nat->Bool}{cmp:Nat->Nat->(Bool->Shared->Prop)->Shared->Prop}{s:Shared}
noncomputable def Asc (lt:Nat->Nat->Bool) (p:Array Nat) (b:Nat):Prop:=∀i j,i < j->j < b->lt (gp p i) (gp p j)=true
noncomputable def Dsc (lt:Nat->Nat->Bool) (p:Array Nat) (b:Nat):Prop:=∀i j,i < j->j < b->lt (gp p j) (gp p i)=true
theorem Asc.more (O:Ord N lt) {p:Array Nat}{n:Nat} (h:Asc lt p n) (h1:1<=n) (e:lt (gp p (n - 1)) (gp p n)=true):Asc lt p (n + 1):=fun i j hij hj=>by
 by_cases q:j < n
 ·exact h i j hij q
 ·have:j=n:=by omega
  subst this
  by_cases z:i=j - 1
  ·rw [z];exact e
  ·exact O.tr _ _ _ (h i (j - 1) (by omega) (by omega)) e
theorem Dsc.more (O:Ord N lt) {p:Array Nat}{n:Nat} (h:Dsc lt p n) (h1:1<=n) (e:lt (gp p n) (gp p (n - 1))=true):Dsc lt p (n + 1):=fun i j hij hj=>by
 by_cases q:j < n
 ·exact h i j hij q
 ·have:j=n:=by omega
  subst this
  by_cases z:i=j - 1
  ·rw [z];exact e
  ·exact O.tr _ _ _ e (h i (j - 1) (by omega) (by omega))
theorem Ord.other (O:Ord N lt) {p:Array Nat} (hp:Pm N p) {i j:Nat} (hi:i < N) (hj:j < N) (hij:i≠j) (e:lt (gp p i) (gp p j)≠true):lt (gp p j) (gp p i)=true :=
 (O.tot _ _ (hp.lt hi) (hp.lt hj) (hp.inj hi hj hij)).resolve_left e
variable (O:Ord N lt) (hc:∀(i j:Nat) (C:Bool->Shared->Prop),i < N->j < N->i≠j->C (lt i j) s->cmp i j C s)
include O hc
theorem jx {p:Array Nat} (hp:Pm N p) {Q:Nat->Shared->Prop}:∀(f n:Nat),1<=n->n + f<=N->Asc lt p n->(∀m,n<=m->m<=n + f->Asc lt p m->(m=n + f\/lt (gp p m) (gp p (m - 1))=true)->Q m s)->(kas_asc p f n).kasWp cmp Q s
 | 0,n,h1,hn,ha,k=>k n (Nat.le_refl _) (Nat.le_refl _) ha (.inl rfl)
 | f + 1,n,h1,hn,ha,k=>by
  unfold kas_asc
  refine hc _ _ _ (hp.lt (by omega)) (hp.lt (by omega)) (hp.inj (by omega) (by omega) (by omega)) ?_
  by_cases e:lt (gp p n) (gp p (n - 1))=true
  ·show KasT.kasWp cmp (if lt (gp p n) (gp p (n - 1))=true then _ else _) Q s
   rw [if_pos e]
   exact k n (Nat.le_refl _) (by omega) ha (.inr e)
  ·show KasT.kasWp cmp (if lt (gp p n) (gp p (n - 1))=true then _ else _) Q s
   rw [if_neg e]
   exact jx hp f (n + 1) (by omega) (by omega) (ha.more O h1 (O.other hp (by omega) (by omega) (by omega) e)) fun m a b c d=>k m (by omega) (by omega) c (d.imp (fun z=>by omega) id)
theorem lP {p:Array Nat} (hp:Pm N p) {Q:Array Nat×Nat×Nat->Shared->Prop}:∀(f n:Nat),1<=n->n + f<=N->Dsc lt p n->(∀m,n<=m->m<=n + f->Dsc lt p m->Q (p,m,0) s)->(kas_desc f p n 0).kasWp cmp Q s
 | 0,n,h1,hn,ha,k=>k n (Nat.le_refl _) (Nat.le_refl _) ha
 | f + 1,n,h1,hn,ha,k=>by
  unfold kas_desc
  refine hc _ _ _ (hp.lt (by omega)) (hp.lt (by omega)) (hp.inj (by omega) (by omega) (by omega)) ?_
  by_cases e:lt (gp p n) (gp p (n - 1))=true
  ·show KasT.kasWp cmp (if lt (gp p n) (gp p (n - 1))=true then _ else _) Q s
   rw [if_pos e,if_neg (by omega)]
   exact lP hp f (n + 1) (by omega) (by omega) (ha.more O h1 e) fun m a b c=>k m (by omega) (by omega) c
  ·show KasT.kasWp cmp (if lt (gp p n) (gp p (n - 1))=true then _ else _) Q s
   rw [if_neg e]
   refine hc _ _ _ (hp.lt (by omega)) (hp.lt (by omega)) (hp.inj (by omega) (by omega) (by omega)) ?_
   have e2:=O.other hp (show n < N by omega) (show n - 1 < N by omega) (by omega) e
   show KasT.kasWp cmp (if lt (gp p (n - 1)) (gp p n)=true then _ else _) Q s
   rw [if_pos e2]
   exact k n (Nat.le_refl _) (by omega) ha
theorem tQ {p:Array Nat} (hp:Pm N p) {m:Nat} (hm:m<=N) (h:Dsc lt p m):Pm N (kas_rev p 0 m)/\Asc lt (kas_rev p 0 m) m:=by
 have hz:m<=p.size:=by rw [hp.size];exact hm
 refine⟨(mirror_perm p 0 m _).trans hp,fun i j hij hj=>?_⟩
 have g:∀k,k < m->gp (kas_rev p 0 m) k=gp p (0 + m - 1 - k):=fun k hk=>gB (by
  unfold kas_rev
  rw [getElem?_mirror_all hz,if_pos ⟨Nat.zero_le _,hk⟩])
 rw [g i (by omega),g j hj]
 exact h _ _ (by omega) (by omega)
theorem rg {p:Array Nat} (hp:Pm N p) (h2:2<=N) {Q:Nat×Array Nat->Shared->Prop} (h0:∀m q,1<=m->m<=N->Pm N q->Asc lt q m->Q (m,q) s):(kas_count N p).kasWp cmp Q s:=by
 unfold kas_count
 rw [KasT.kasWp_bind]
 refine jx O hc hp (N - 1) 1 (Nat.le_refl _) (by omega) (fun i j a b=>by omega) fun m a b c d=>?_
 by_cases e:(m == N)=true
 ·rw [if_pos e]
  exact h0 m p a (by omega) hp c
 ·rw [if_neg e]
  have hm:m≠N:=fun z=>e (beq_iff_eq.mpr z)
  by_cases e1:m > 1
  ·rw [if_pos e1]
   refine hc _ _ _ (hp.lt (by omega)) (hp.lt (by omega)) (hp.inj (by omega) (by omega) (by omega)) ?_
   show KasT.kasWp cmp (if lt (gp p 0) (gp p (m - 1))=true then _ else _) Q s
   rw [if_pos (c 0 (m - 1) (by omega) (by omega))]
   exact h0 m p a (by omega) hp c
  ·rw [if_neg e1]
   have:m=1:=by omega
   subst this
   have e2:lt (gp p 1) (gp p (1 - 1))=true:=d.resolve_left (by omega)
   unfold kas_descPart
   rw [KasT.kasWp_bind]
   refine lP O hc hp (N - (1 + 1)) (1 + 1) (by omega) (by omega) (fun i j x y=>by
    have:i=0:=by omega
    have:j=1:=by omega
    subst i j
    exact e2) fun m' a' b' c'=>?_
   show KasT.kasWp cmp (if (0:Nat) > 0 then _ else _) Q s
   rw [if_neg (by omega)]
   show KasT.kasWp cmp (kas_tail3 m' N p) Q s
   unfold kas_tail3
   rw [KasT.kasWp_bind]
   obtain⟨r1,r2⟩:=tQ O hc hp (show m'<=N by omega) c'
   exact jx O hc r1 (N - m') m' (by omega) (by omega) r2 fun m'' x y z w=>h0 m'' _ (by omega) (by omega) r1 z
theorem iU {p:Array Nat} (hp:Pm N p) {k:Nat} (hk:k < N) (ha:Asc lt p k) {Q:Nat->Shared->Prop}:∀(f l r:Nat),l<=r->r<=k->r - l<=f->(∀i,i < l->lt (gp p i) (gp p k)=true)->(∀i,r<=i->i < k->lt (gp p k) (gp p i)=true) ->
  (∀l,l<=k->(∀i,i < l->lt (gp p i) (gp p k)=true)->(∀i,l<=i->i < k->lt (gp p k) (gp p i)=true)->Q l s)->(kas_place p k f l r).kasWp cmp Q s
 | 0,l,r,h1,h2,h3,hl,hr,q=>by
  have:l=r:=by omega
  subst this
  exact q l h2 hl hr
 | f + 1,l,r,h1,h2,h3,hl,hr,q=>by
  unfold kas_place
  by_cases e:l ≥ r
  ·rw [if_pos e]
   have:l=r:=by omega
   subst this
   exact q l h2 hl hr
  ·rw [if_neg e]
   refine hc _ _ _ (hp.lt hk) (hp.lt (by omega)) (hp.inj hk (by omega) (by omega)) ?_
   by_cases c:lt (gp p k) (gp p ((l + r) / 2))=true
   ·show KasT.kasWp cmp (if lt (gp p k) (gp p ((l + r) / 2))=true then _ else _) Q s
    rw [if_pos c]
    refine iU hp hk ha f l ((l + r) / 2) (by omega) (by omega) (by omega) hl (fun i a b=>?_) q
    by_cases z:i=(l + r) / 2
    ·rw [z];exact c
    ·exact O.tr _ _ _ c (ha _ _ (by omega) b)
   ·show KasT.kasWp cmp (if lt (gp p k) (gp p ((l + r) / 2))=true then _ else _) Q s
    rw [if_neg c]
    have c':=O.other hp hk (show (l + r) / 2 < N by omega) (by omega) c
    refine iU hp hk ha f ((l + r) / 2 + 1) r (by omega) h2 (by omega) (fun i a=>?_) hr q
    by_cases z:i=(l + r) / 2
    ·rw [z];exact c'
    ·exact O.tr _ _ _ (ha i ((l + r) / 2) (by omega) (by omega)) c'
theorem mU {Q:Array Nat->Shared->Prop} (h0:∀q,Pm N q->Asc lt q N->Q q s):∀(f:Nat) (p:Array Nat) (k:Nat),k + f=N->Pm N p->Asc lt p k->(kas_bin f p k).kasWp cmp Q s
 | 0,p,k,hk,hp,ha=>h0 p hp (by rw [<- hk];exact ha)
 | f + 1,p,k,hk,hp,ha=>by
  unfold kas_bin
  rw [KasT.kasWp_bind]
  refine iU O hc hp (show k < N by omega) ha k 0 k (by omega) (Nat.le_refl _) (by omega) (fun i z=>by omega) (fun i a b=>by omega) fun l hl h1 h2=>?_
  refine mU h0 f _ (k + 1) (by omega) ((bubble_perm p k _).trans hp) fun i j hij hj=>?_
  have hs:k < p.size:=by rw [hp.size];omega
  have g:∀i,gp (bubble p k (k - l)) i=if i=l then gp p k else if l < i/\i<=k then gp p (i - 1) else gp p i:=fun i=>by
   have e:=getElem?_bubble hs (k - l) (by omega) i
   have e1:k - (k - l)=l:=by omega
   rw [e1] at e
   by_cases z1:i=l
   ·rw [if_pos z1] at e ⊢;exact gB e
   ·rw [if_neg z1] at e ⊢
    by_cases z2:l < i/\i<=k
    ·rw [if_pos z2] at e ⊢;exact gB e
    ·rw [if_neg z2] at e ⊢;exact gB e
  rw [g i,g j]
  by_cases a1:i=l
  ·rw [if_pos a1,if_neg (by omega),if_pos (by omega)]
   exact h2 _ (by omega) (by omega)
  ·rw [if_neg a1]
   by_cases a2:l < i/\i<=k
   ·rw [if_pos a2,if_neg (by omega),if_pos (by omega)]
    exact ha _ _ (by omega) (by omega)
   ·rw [if_neg a2]
    by_cases b1:j=l
    ·rw [if_pos b1];exact h1 i (by omega)
    ·rw [if_neg b1]
     by_cases b2:l < j/\j<=k
     ·rw [if_pos b2]
      exact ha _ _ (by omega) (by omega)
     ·rw [if_neg b2]
      exact ha _ _ hij (by omega)
theorem sO (h2:2<=N) {Q:Array Nat->Shared->Prop} (h0:∀q,Pm N q->Asc lt q N->Q q s):(kas_sort N).kasWp cmp Q s:=by
 unfold kas_sort
 rw [KasT.kasWp_bind]
 refine rg O hc (Array.Perm.refl _) h2 fun m q a b hp ha=>?_
 show KasT.kasWp cmp (if m < N then _ else _) Q s
 by_cases e:m < N
 ·rw [if_pos e]
  have em:max m 1=m:=by omega
  show KasT.kasWp cmp (kas_bin (N - max m 1) q (max m 1)) Q s
  rw [em]
  exact mU O hc h0 (N - m) q m (by omega) hp ha
 ·rw [if_neg e]
  have:m=N:=by omega
  subst this
  exact h0 q hp ha
end
end L2
namespace L2
open PySem PySem.Spec PyProof.Rows PySem.W PySem.Calls
section
variable {prog:Program}{w:World}{A:Around}{E:Value->Shared->Prop}{s:Shared}
noncomputable def jD (prog:Program) (w:World) (A:Around) (vs:List Value) (lt:Nat->Nat->Bool) (s:Shared):Prop :=
 ∃κ:SortKind,(∀Q:SortKind->Shared->Prop,Q κ s->wpAny (model prog w) A (keyKind' vs.toArray) Q (fun _ _=>False) s) /\
  ∀(i j:Nat) (C:Bool->Shared->Prop),i < vs.length->j < vs.length->i≠j->C (lt i j) s->kas_ask prog w A κ vs i j C s
noncomputable def eL (vs:List Value) (p:Array Nat):List Value:=p.toList.map fun i=>vs.getD i Value.none
theorem pQ {lt:Nat->Nat->Bool}{a:Addr}{vs:List Value}{n:Nat}{P:PySem.Fin->Shared->Prop} (ho:s.heap.get? a=some (seqObj "list" vs.toArray n)) (h64:vs.length < 64) (O:Ord vs.length lt)
  (hk:2<=vs.length->∀s':Shared,(∀b o,b≠a->s.heap.get? b=some o->s'.heap.get? b=some o)->jD prog w A vs lt s')
  (h:∀p,Pm vs.length p->Asc lt p vs.length->P (.done (.ret .none)) { s with heap:=sortedHeap s.heap a vs (eL vs p).toArray }) :
  wpAny (model prog w) A (Builtin.«list.sort» ⟨[.ref a],[]⟩) P E s:=by
 rw [list_sort_plain]
 have hlt:a < s.heap.objs.size:=Heap.lt_size ho
 have hfit:vs.length<=sizeLine:=by rw [sizeLine_eq];omega
 refine wpAny_bind (listItems_at ho rfl (wpAny_bind (listUpdate_at ho rfl ?_ (by rw [List.size_toArray];exact hfit) (Nat.zero_le _))))
 obtain⟨e1,ho1⟩:∃e1,(s.heap.update a (Obj.mapSeq fun _=>(#[]:Array Value))).get? a=some (seqObj "list" #[] e1):=⟨_,get?_update_seq ho fun _=>#[]⟩
 refine wpAny_bind (seqEpoch_at ho1 rfl (wpAny_bind (wpAny_newTuple (wpAny_bind (wpAny_newList (wpAny_holding ?_) (Nat.zero_le _))) (by show vs.length<=_;exact hfit))))
 have ho2:(((s.heap.update a (Obj.mapSeq fun _=>(#[]:Array Value))).push (seqObj "tuple" vs.toArray 0)).push (seqObj "list" #[] 0)).get? a=some (seqObj "list" #[] e1):=Heap.get?_push_of_some _ (Heap.get?_push_of_some _ ho1)
 show wpAny (model prog w) A _ P E { s with heap:=((s.heap.update a (Obj.mapSeq fun _=>(#[]:Array Value))).push (seqObj "tuple" vs.toArray 0)).push (seqObj "list" #[] 0) }
 dsimp only
 by_cases h2:vs.toArray.size < 2
 ·rw [if_pos h2,if_pos h2]
  refine wpAny_bind (wpAny_pure ?_)
  rw [StateT.run_pure]
  refine wpAny_bind (wpAny_pure ?_)
  dsimp only
  have hz:((vs.toArray.zip vs.toArray).map (·.2))=(eL vs (List.toArray (List.range vs.length))).toArray:=by
   unfold eL
   apply Array.ext
   ·simp
   ·intro i h1 h2
    simp only [Array.size_map,Array.size_zip,List.size_toArray,Nat.min_self] at h1
    simp [h1]
  have es:vs.toArray.size=vs.length:=by simp
  refine wpAny_bind (seqEpoch_at ho2 rfl (wpAny_bind (listUpdate_at ho2 rfl ?_ (Nat.zero_le _) ?_)))
  ·simp only [bne_self_eq_false,Bool.false_eq_true,if_false]
   have q:=h (List.toArray (List.range vs.length)) (Array.Perm.refl _) (fun i j hij hj=>by omega)
   unfold sortedHeap at q
   rw [<- hz] at q
   exact wpAny_pure q
  ·show ((vs.toArray.zip vs.toArray).map (·.2)).size<=sizeLine + 1
   simp only [Array.size_map,Array.size_zip,List.size_toArray,Nat.min_self]
   omega
 ·have h2':2<=vs.length:=by rw [List.size_toArray] at h2;omega
  rw [if_neg h2,if_neg h2]
  obtain⟨κ,kd,ask⟩:=hk h2' { s with heap:=((s.heap.update a (Obj.mapSeq fun _=>(#[]:Array Value))).push (seqObj "tuple" vs.toArray 0)).push (seqObj "list" #[] 0) } fun b o hb e =>
   Heap.get?_push_of_some _ (Heap.get?_push_of_some _ (by rw [Heap.get?_update_ne _ _ _ _ hb];exact e))
  refine wpAny_bind (wpAny_mono (E:=fun _ _=>False) (Q:=fun k s'=>k=κ/\s'={ s with heap:=((s.heap.update a (Obj.mapSeq fun _=>(#[]:Array Value))).push (seqObj "tuple" vs.toArray 0)).push (seqObj "list" #[] 0) }) (kd _ ⟨rfl,rfl⟩) ?_ fun _ _ f=>f.elim)
  rintro k s' ⟨rfl,rfl⟩
  refine wpAny_bind (wpAny_mono (kat_run (ks:=vs) (G:=fun p s'=>(Pm vs.length p/\Asc lt p vs.length)/\s'={ s with heap:=((s.heap.update a (Obj.mapSeq fun _=>(#[]:Array Value))).push (seqObj "tuple" vs.toArray 0)).push (seqObj "list" #[] 0) })
   (Q:=fun st' s'=>∃p:Array Nat,arrOf st'=p.map (kas_item (vs.toArray.zip vs.toArray))/\failedOf st'=none/\(Pm vs.length p/\Asc lt p vs.length)/\s'={ s with heap:=((s.heap.update a (Obj.mapSeq fun _=>(#[]:Array Value))).push (seqObj "tuple" vs.toArray 0)).push (seqObj "list" #[] 0) })
   rfl h2' h64 (fun p st' s' _ a2 a3 a4=>⟨p,a2,a3,a4⟩) (sO O ask h2' fun q hq ha=>⟨⟨hq,ha⟩,rfl⟩)) ?_ fun _ _ e=>e)
  rintro⟨⟨⟩,st'⟩ s' ⟨p,har,hf,⟨hp,ha⟩,rfl⟩
  dsimp only
  rw [kat_snds rfl har]
  have hsz:(List.toArray (p.toList.map fun i=>vs.getD i Value.none)).size<=sizeLine + 1:=by
   rw [List.size_toArray,List.length_map,Array.length_toList,hp.size];omega
  refine wpAny_bind (seqEpoch_at ho2 rfl (wpAny_bind (listUpdate_at ho2 rfl ?_ (Nat.zero_le _) hsz)))
  rw [hf]
  simp only [bne_self_eq_false,Bool.false_eq_true,if_false]
  exact wpAny_pure (h p hp ha)
theorem oV {l:Addr}{o:Obj}{vs:List Value}{n:Nat}{T:String}{Q:List Value->Shared->Prop} (hT:T="list"\/T="tuple") (ho:s.heap.get? l=some o) (hc:o.cls=.type T) (hd:o.data=.seq vs.toArray n)
  (h:Q vs { s with heap:=(s.heap.push (seqObj "list" #[] 0)).update s.heap.objs.size (Obj.mapSeq (·++vs.toArray)) }) (hsz:vs.length<=sizeLine):wpAny (model prog w) A (collect (.ref l)) Q E s:=by
 rcases hT with rfl | rfl
 ·exact collect_list ⟨o,ho,hc,n,hd⟩ h hsz
 ·unfold collect
  refine wpAny_bind (wpAny_runValue (codeAny_builtin entry_proto_collect' ?_))
  show wpAny _ _ (do again (.builtin "list.__iadd__" ⟨[<- newList [],.ref l],[]⟩)) _ _ s
  refine wpAny_bind (wpAny_newList (wpAny_pure ⟨Code.quiet_builtin _ (by decide +kernel),codeAny_builtin entry_list_iadd' ?_⟩))
  show wpAny _ _ (Builtin.List.listExtendWith (.ref s.heap.objs.size) (.ref l) (.ref s.heap.objs.size)) _ _ { s with heap:=s.heap.push (seqObj "list" #[] 0) }
  unfold Builtin.List.listExtendWith
  have ho':(s.heap.push (seqObj "list" #[] 0)).get? l=some o:=Heap.get?_push_of_some _ ho
  refine wpAny_bind (wpAny_typeOf (T:="tuple") ⟨o,ho',hc⟩ ?_)
  rw [if_pos (by rw [show (Value.type "tuple" == Value.type "tuple")=true from rfl];simp)]
  refine wpAny_bind (listItems_at ho' hd (wpAny_bind (listItems_at (xs:=#[]) (n:=0) (Heap.get?_push_size _ rfl) rfl ?_)))
  rw [if_neg (by simp)]
  refine wpAny_bind (listUpdate_at (xs:=#[]) (n:=0) (Heap.get?_push_size _ rfl) rfl (wpAny_pure ?_) (Nat.zero_le _) (by show (#[]++vs.toArray).size<=sizeLine + 1;simp only [Array.size_append,List.size_toArray,List.length_nil];omega))
  show wpAny (model prog w) A (do
    let o <- load s.heap.objs.size
    match o.data with
    | .seq xs _=>pure xs.toList
    | _=>unsupported "internal:collect") Q E { s with heap:=(s.heap.push (seqObj "list" #[] 0)).update s.heap.objs.size (Obj.mapSeq (·++vs.toArray)) }
  refine wpAny_bind (wpAny_load (get?_update_seq (Heap.get?_push_size _ rfl) _) ?_)
  show wpAny _ _ (pure ((#[]:Array Value)++vs.toArray).toList) Q E _
  rw [show ((#[]:Array Value)++vs.toArray).toList=vs by simp]
  exact wpAny_pure h
theorem sq {lt:Nat->Nat->Bool}{l:Addr}{o:Obj}{vs:List Value}{n:Nat}{T:String}{Q:Value->Shared->Prop} (hT:T="list"\/T="tuple") (ho:s.heap.get? l=some o) (hc:o.cls=.type T) (hd:o.data=.seq vs.toArray n) (h64:vs.length < 64) (O:Ord vs.length lt)
  (hk:2<=vs.length->∀s':Shared,(∀b o,s.heap.get? b=some o->s'.heap.get? b=some o)->jD prog w A.in1.in1 vs lt s')
  (h:∀p,Pm vs.length p->Asc lt p vs.length->Q (.ref (s.heap.objs.size + 1)) { s with heap:=sortedAll s.heap vs (eL vs p).toArray }):wpAny (model prog w) A (call (.builtin "sorted") [.ref l]) Q E s:=by
 refine Calls.call_function_entry kind_sorted plain_sorted entry_sorted (args_sorted1 _) ?_
 unfold Builtin.«sorted»
 refine wpAny_bind (m:=checkCount "sorted" 1 1 _) (wpAny_pure (wpAny_bind (oV hT ho hc hd (wpAny_bind (wpAny_newList ?_ (by rw [sizeLine_eq];omega))) (by rw [sizeLine_eq];omega))))
 have hsz:((s.heap.push (seqObj "list" #[] 0)).update s.heap.objs.size (Obj.mapSeq (·++vs.toArray))).objs.size=s.heap.objs.size + 1:=by rw [Heap.size_update,size_push']
 have hoL:(((s.heap.push (seqObj "list" #[] 0)).update s.heap.objs.size (Obj.mapSeq (·++vs.toArray))).push (seqObj "list" vs.toArray 0)).get? (s.heap.objs.size + 1)=some (seqObj "list" vs.toArray 0):=by
  rw [<- hsz]
  exact Heap.get?_push_size _ rfl
 show wpAny _ _ _ _ _ { s with heap:=((s.heap.push (seqObj "list" #[] 0)).update s.heap.objs.size (Obj.mapSeq (·++vs.toArray))).push (seqObj "list" vs.toArray 0) }
 rw [hsz]
 have kp:∀b o,s.heap.get? b=some o->(((s.heap.push (seqObj "list" #[] 0)).update s.heap.objs.size (Obj.mapSeq (·++vs.toArray))).push (seqObj "list" vs.toArray 0)).get? b=some o:=fun b ob e=>by
  have hb:=Heap.lt_size e
  refine Heap.get?_push_of_some _ ?_
  rw [Heap.get?_update_ne _ _ _ _ (Nat.ne_of_lt hb)]
  exact Heap.get?_push_of_some _ e
 refine wpAny_bind (wpAny_holding (wpAny_call_entry slot_list_sort ⟨_,hoL,rfl⟩ entry_list_sort (pQ hoL h64 O (fun z s' hs'=>hk z s' fun b ob e=>hs' b ob (by have:=Heap.lt_size e;exact Nat.ne_of_lt (Nat.lt_succ_of_lt this)) (kp b ob e)) fun p hp ha=>⟨_,rfl,?_⟩) (args_list_sort _)))
 exact wpAny_pure ⟨_,rfl,h p hp ha⟩
end
theorem jv {h:Heap}:∀{vs fs:List Value},KatTups h vs fs->∀(i:Nat),i < vs.length->∃a o xs n f,vs.getD i Value.none=.ref a/\h.get? a=some o/\o.data=.seq xs n/\xs[0]?=some f/\fs[i]?=some f
 | [],[],_,i,hi=>absurd hi (Nat.not_lt_zero _)
 | [],_::_,t,_,_=>t.elim
 | _::_,[],t,_,_=>t.elim
 | v::vs,f::fs,t,0,_=>by
  obtain⟨⟨a,o,xs,n,rfl,ho,hc,hd,hf⟩,_⟩:=t
  exact⟨a,o,xs,n,f,rfl,ho,hd,hf,rfl⟩
 | v::vs,f::fs,t,i + 1,hi=>by
  obtain⟨_,t⟩:=t
  obtain⟨a,o,xs,n,g,e1,e2,e3,e4,e5⟩:=jv t i (by simpa using hi)
  exact⟨a,o,xs,n,g,by simpa using e1,e2,e3,e4,by simpa using e5⟩
theorem ju:∀{fs:List Value}{ss:List Str},StrsAre fs ss->∀(i:Nat) (f:Value),fs[i]?=some f->∃t,f=.str (ss.getD i Str.empty) t/\i < ss.length
 | _,_,.nil,i,f,h=>by simp at h
 | _,_,.cons y t r,0,f,h=>by simp at h;exact⟨t,h.symm,by simp⟩
 | _,_,.cons y t r,i + 1,f,h=>by
  obtain⟨t',e1,e2⟩:=ju r i f (by simpa using h)
  exact⟨t',by simpa using e1,by simpa using e2⟩
theorem uF {prog:Program}{w:World}{A:Around}{s:Shared}{vs fs:List Value}{ss:List Str} (t:KatTups s.heap vs fs) (hS:StrsAre fs ss) (hne:0 < fs.length) (hnd:ss.Nodup) :
  jD prog w A vs (fun i j=>decide ((ss.getD i Str.empty).cps.toList < (ss.getD j Str.empty).cps.toList)) s:=by
 refine⟨tuples' (Value.type "str" != Value.type "tuple"),fun Q q=>kat_kind (T:=Value.type "str") t hne (fun v hv=>?_) (by decide) q,fun i j C hi hj hij q=>?_⟩
 ·obtain⟨x,u,rfl⟩:=hS.all v hv
  exact Looks.now
 ·obtain⟨a,o,xs,n,f,e1,e2,e3,e4,e5⟩:=jv t i hi
  obtain⟨b,o',ys,n',g,g1,g2,g3,g4,g5⟩:=jv t j hj
  obtain⟨tf,rfl,hil⟩:=ju hS i f e5
  obtain⟨tg,rfl,hjl⟩:=ju hS j g g5
  unfold kas_ask
  rw [e1,g1]
  refine kat_lt e2 e3 g2 g3 ?_
  obtain⟨xr,hx⟩:∃xr,xs.toList=.str (ss.getD i Str.empty) tf::xr:=by
   cases hq:xs.toList with
   | nil=>rw [<- Array.getElem?_toList,hq] at e4;simp at e4
   | cons z zr=>rw [<- Array.getElem?_toList,hq] at e4;simp at e4;rw [e4];exact⟨zr,rfl⟩
  obtain⟨yr,hy⟩:∃yr,ys.toList=.str (ss.getD j Str.empty) tg::yr:=by
   cases hq:ys.toList with
   | nil=>rw [<- Array.getElem?_toList,hq] at g4;simp at g4
   | cons z zr=>rw [<- Array.getElem?_toList,hq] at g4;simp at g4;rw [g4];exact⟨zr,rfl⟩
  rw [hx,hy]
  have hnE:ss.getD i Str.empty≠ss.getD j Str.empty:=by
   rw [List.getD_eq_getElem?_getD,List.getD_eq_getElem?_getD,List.getElem?_eq_getElem hil,List.getElem?_eq_getElem hjl]
   intro z
   have z':ss[i]=ss[j]:=z
   rcases Nat.lt_or_gt_of_ne hij with y | y
   ·exact List.pairwise_iff_getElem.mp hnd i j hil hjl y z'
   ·exact List.pairwise_iff_getElem.mp hnd j i hjl hil y z'.symm
  show KatLex prog w A _ _ C ((Value.str (ss.getD i Str.empty) tf,Value.str (ss.getD j Str.empty) tg)::xr.zip yr) 0 s
  refine kat_cons (wpAny_eqBool_str ?_)
  rw [decide_eq_false hnE]
  refine kat_no ?_
  show wpAny _ A (oneLt' true _ _) C _ s
  exact strKind_oneLt prog w A _ s _ _ _ _ rfl rfl q
theorem mx {x y:Str} (h:x≠y):x.cps.toList < y.cps.toList\/y.cps.toList < x.cps.toList:=by
 by_cases c:x.cps.toList < y.cps.toList
 ·exact .inl c
 ·rcases List.le_iff_lt_or_eq.mp (List.not_lt.mp c) with z | z
  ·exact .inr z
  ·refine absurd ?_ h
   obtain⟨a⟩:=x
   obtain⟨b⟩:=y
   have e:b=a:=Array.toList_inj.mp z
   rw [e]
noncomputable def nh (H:Hp) (rs:List (Addr×Str)):Prop:=∀r∈rs,∃rest,H r.1=some (.tup (.str r.2::rest))
noncomputable abbrev refs (rs:List (Addr×Str)):List V:=rs.map fun r=>V.ref r.1
noncomputable def nlt (x y:Str):Prop:=x.cps.toList < y.cps.toList
theorem ki {P:Program}{w:World}{H:Hp}{h:Heap} (ok:HOk P w H h):∀{rs:List (Addr×Str)}{us:List Value},nh H rs->ar (refs rs) us->∃fs,KatTups h us fs/\StrsAre fs (rs.map (·.2))
 | [],us,_,r=>by cases r;exact⟨[],trivial,.nil⟩
 | x::rs,us,hr,r=>by
  cases r with
  | @cons _ u _ us' r1 r2 =>
   obtain⟨fs,t,q⟩:=ki ok (rs:=rs) (fun y hy=>hr y (List.mem_cons_of_mem _ hy)) r2
   obtain⟨rest,e⟩:=hr x List.mem_cons_self
   cases (show u=Value.ref x.1 from r1)
   obtain⟨_,its,rv,o,ho,hc,n,hd⟩:=(show aQ P w H h x.1 (.tup (.str x.2::rest)) from ok x.1 _ e)
   cases rv with
   | @cons _ f _ its' rf _ =>
    obtain⟨tk,rfl⟩:=rf
    exact⟨.str x.2 tk::fs,KatTups.cons ho hc hd (by simp) t,.cons _ _ q⟩
theorem kE {xs:List V}{us:List Value} (r:ar xs us):∀{ps:List Nat},(∀i∈ps,i < xs.length)->ar (ps.map fun i=>xs.getD i .non) (ps.map fun i=>us.getD i Value.none)
 | [],_=>.nil
 | i::ps,h=>by
  have hi:=h i List.mem_cons_self
  obtain⟨u,e,ru⟩:=r.get (List.getElem?_eq_getElem hi)
  refine .cons ?_ (kE r fun j hj=>h j (List.mem_cons_of_mem _ hj))
  show RelV (xs.getD i .non) (us.getD i Value.none)
  rw [List.getD_eq_getElem?_getD,List.getD_eq_getElem?_getD,List.getElem?_eq_getElem hi,e]
  exact ru
theorem qG {α:Type} (d:α) (xs:List α) {p:Array Nat} (h:Pm xs.length p):(p.toList.map fun i=>xs.getD i d).Perm xs:=by
 have hp:p.toList.Perm (List.range xs.length):=by simpa using Array.perm_iff_toList_perm.mp h
 have e:(List.range xs.length).map (fun i=>xs.getD i d)=xs:=by
  apply List.ext_getElem
  ·simp
  ·intro i h1 h2
   simp [h2]
 exact (hp.map _).trans (by rw [e])
section
variable {X:Cx}
theorem oO:bz X (.builtin "sorted") (fun xs H Q=>∃(p:Addr) (rs:List (Addr×Str)),xs=[.ref p]/\(SqL X.K H p (refs rs)\/SqT X.K H p (refs rs))/\nh H rs/\rs.length < 64/\(rs.map (·.2)).Nodup /\
  ∀(rs':List (Addr×Str)) (q:Addr),rs'.Perm rs->(rs'.map (·.2)).Pairwise nlt->H q=none->Q (.ref q) (upd H q (.lst (refs rs')))):=by
 intro pins s σ H xs us Q I r h
 obtain⟨p,rs,rfl,hq,hR,h64,hnd,q⟩:=h
 obtain⟨u,rfl,rx⟩:=vals1 r
 cases rx
 have core:∀(T:String) (o:Obj) (its:List Value) (n:Nat),(T="list"\/T="tuple")->s.heap.get? p=some o->o.cls=.type T->o.data=.seq its.toArray n->ar (refs rs) its ->
   wpAny (model X.prog X.w) X.A (call (.builtin "sorted") [.ref p]) (EP X pins σ Q) X.xe s:=fun T o its n hT ho hc hd r'=>by
  have hl:=r'.length
  have hl':its.length=rs.length:=by rw [<- hl];simp
  have O:Ord its.length (fun i j=>decide (((rs.map (·.2)).getD i Str.empty).cps.toList < ((rs.map (·.2)).getD j Str.empty).cps.toList)):=by
   refine⟨fun i j k h1 h2=>?_,fun i=>?_,fun i j hi hj hij=>?_⟩
   ·exact decide_eq_true (List.lt_trans (of_decide_eq_true h1) (of_decide_eq_true h2))
   ·exact decide_eq_false (List.lt_irrefl _)
   ·have hil:i < (rs.map (·.2)).length:=by simpa [<- hl'] using hi
    have hjl:j < (rs.map (·.2)).length:=by simpa [<- hl'] using hj
    rw [List.getD_eq_getElem?_getD,List.getD_eq_getElem?_getD,List.getElem?_eq_getElem hil,List.getElem?_eq_getElem hjl]
    have ne:(rs.map (·.2))[i]≠(rs.map (·.2))[j]:=by
     rcases Nat.lt_or_gt_of_ne hij with y | y
     ·exact List.pairwise_iff_getElem.mp hnd i j hil hjl y
     ·exact fun z=>List.pairwise_iff_getElem.mp hnd j i hjl hil y z.symm
    exact (mx ne).imp decide_eq_true decide_eq_true
  refine sq hT ho hc hd (by omega) O (fun h2 s' hs'=>?_) fun pm hp ha=>?_
  ·obtain⟨fs,t,hS⟩:=ki (I.hok.kept hs') hR r'
   have hfl:0 < fs.length:=by
    have:=hS.length
    simp at this
    omega
   exact uF t hS hfl hnd
  ·obtain⟨e,he⟩:=sortedAll_at s.heap its (eL its pm).toArray
   have hpm:Pm rs.length pm:=by rw [<- hl'];exact hp
   have hlt:∀i∈pm.toList,i < rs.length:=fun i hi=>by
    have:i∈(List.toArray (List.range rs.length)):=hpm.mem_iff.mp (by simpa using hi)
    simpa using this
   have hv:ar ((pm.toList.map fun i=>(refs rs).getD i .non)) (eL its pm):=kE r' fun i hi=>by simpa using hlt i hi
   have he2:(pm.toList.map fun i=>(refs rs).getD i .non)=refs (pm.toList.map fun i=>rs.getD i (0,Str.empty)):=by
    unfold refs
    rw [List.map_map]
    exact List.map_congr_left fun i hi=>by simp [hlt i hi]
   rw [he2] at hv
   have hfr:H (s.heap.objs.size + 1)=none:=I.hok.fresh (Nat.le_succ _)
   have hpe:=qG (0,Str.empty) rs hpm
   refine⟨.ref (s.heap.objs.size + 1),_,I.laid (t':=s.toks) (o:=.lst (refs (pm.toList.map fun i=>rs.getD i (0,Str.empty)))) (fun b o z=>sortedAll_old z) (Nat.le_succ _) ⟨?_,eL its pm,e,hv,?_⟩,rfl,q _ _ hpe ?_ hfr⟩
   ·unfold refs
    rw [List.length_map,hpe.length_eq,sizeLine_eq];omega
   ·simpa [seqObj] using he
   ·rw [List.map_map,List.pairwise_map]
    refine List.pairwise_iff_getElem.mpr fun i j hi hj hij=>?_
    have hps:=hp.size
    have hi':i < pm.size:=by simpa using hi
    have hj':j < pm.size:=by simpa using hj
    have z:=of_decide_eq_true (ha i j hij (by omega))
    rw [fX hi',fX hj'] at z
    show ((rs.getD pm.toList[i] (0,Str.empty)).2).cps.toList < ((rs.getD pm.toList[j] (0,Str.empty)).2).cps.toList
    have b1:=hlt pm.toList[i] (List.getElem_mem _)
    have b2:=hlt pm.toList[j] (List.getElem_mem _)
    simp only [Array.getElem_toList] at b1 b2 ⊢
    simpa [b1,b2] using z
 rcases hq with hq | hq
 ·obtain⟨its,r',pl,hz⟩:=I.list hq
  obtain⟨o,ho,hc,n,hd⟩:=pl.isList
  exact core "list" o its n (.inl rfl) ho hc hd r'
 ·obtain⟨its,r',pl,hz⟩:=I.tuple hq
  obtain⟨o,ho,hc,n,hd⟩:=pl
  exact core "tuple" o its n (.inr rfl) ho hc hd r'
end
end L2
namespace L2
open PySem PySem.Spec PyProof.Rows
noncomputable def Its (x:Str):It:=⟨fun i _=>i < x.length,fun i H v H'=>H'=H/\∃c,x.cps[i]?=some c/\v=.str ⟨#[c]⟩,fun i _=>x.length<=i⟩
theorem rT {P:Program}{w:World}{K:PySem.W.Frag}{tg:Expr} (x:Str) (t:Tok) (it:Addr):Turn P w K tg (Its x) [it] it (fun i h=>h.IsStrIter it "str_ascii_iterator" x t i) where
 mem:=by simp
 obj:=fun i h st b hb=>by
  have e:b=it:=by simpa using hb
  subst e
  obtain⟨o,e,c,d⟩:=st
  exact⟨o,e,fun v z=>by rw [d] at z;cases z⟩
 keep:=fun i h h' st k=>by
  obtain⟨o,e,r⟩:=st
  exact⟨o,k it (by simp) o e,r⟩
 item:=by
  intro X hP hw hK hc i pins s σ H E I hf st hg
  subst hP hw hK
  have hg':i < x.cps.size:=hg
  obtain⟨f0,f1,f2,f3,f4,f5⟩:=hf it (by simp)
  refine wpAny_pyNext_ascii_item st (Array.getElem?_eq_getElem hg') fun h' st' sb=>?_
  have I1:Inv X pins σ H { s with heap:=h',toks:=s.toks + 1 }:=I.turned (fun b o hb e=>(sb.2 b hb).trans e) f0 f1 f3 f4 f5
  obtain⟨o,e,c,d⟩:=id st'
  exact⟨_,rfl,gW (s:={ s with heap:=h',toks:=s.toks + 1 }) e c d (by decide) ⟨.str ⟨#[x.cps[i]]⟩,H,I1,⟨_,rfl⟩,⟨rfl,_,Array.getElem?_eq_getElem hg',rfl⟩,st',fun b hb=>(hf b hb).1⟩⟩
 done:=by
  intro X hP hw hK hc i pins s σ H E I hf st hg
  subst hP hw hK
  have hg':x.cps.size<=i:=hg
  obtain⟨f0,f1,f2,f3,f4,f5⟩:=hf it (by simp)
  exact wpAny_pyNext_ascii_end (I.ok.hd hc) st (Array.getElem?_eq_none hg') fun h' eb=>⟨rfl,I.turned (t':=s.toks) (fun b o hb e=>eb b o hb e) f0 f1 f3 f4 f5⟩
 self:=fun A i s Q E st h=>wpAny_pyIter_striter_ascii st h
section
variable {X:Cx}{tg:Expr}
noncomputable def vB (tl:TE):TI:=fun σ H R=>tl σ H fun v H1=>∃x:Str,v=.str x/\x.cps.all (· < 128)=true/\R (Its x) H1
theorem ur {l:Expr}{tl:TE} (hl:PE X l tl):PI X tg l (vB tl):=by
 intro pins s σ H R I h
 refine thn (hl pins s σ H _ I h) fun v s1 ⟨x,H1,I1,r1,q1⟩=>?_
 obtain⟨y,rfl,ha,q⟩:=q1
 obtain⟨t,rfl⟩:=r1
 refine wpAny_pyIter_ascii ha ?_
 refine⟨s1.heap.objs.size,[s1.heap.objs.size],_,_,H1,rfl,I1.kept (t':=s1.toks) fun b o e=>Heap.get?_push_of_some _ e,rT y t _,⟨_,Heap.get?_push_size _ rfl,rfl,rfl⟩,fun b hb=>?_,q⟩
 have e:b=s1.heap.objs.size:=by simpa using hb
 subst e
 exact I1.fpOk (Nat.le_refl _) (I1.hok.fresh (Nat.le_refl _))
theorem eE:SlR X (fun x lo hi H Q=>∃z,x=.str z/\z.length<=sizeLine/\Q (.str (Txt.slice z lo hi)) H):=by
 intro pins s σ H x v vl vu lo hi sl Q I rx hs pl pu h
 obtain⟨z,rfl,hz,q⟩:=h
 obtain⟨t,rfl⟩:=rx
 have fin:∀(t':Tok) (k:Nat),EP X pins σ Q (.str (Txt.slice z lo hi) t') { s with toks:=k }:=fun t' k=>⟨.str (Txt.slice z lo hi),H,I.tok k,⟨_,rfl⟩,q⟩
 refine⟨"str",_,F.slot_str_getitem.lookup,typeIs_str _ _ _,?_⟩
 obtain⟨o,ho,hc,hd⟩:=hs
 cases pl with
 | none =>
  cases pu with
  | none=>exact wpAny_getItem_str_slice (l:=none) (u:=none) (st:=none) ⟨o,ho,hc,hd⟩ rfl (post_val_or_str ⟨Nat.le_trans (Txt.slice_le z _ _) hz,fun t' k=>fin t' k⟩)
  | int j uj=>exact wpAny_getItem_str_slice (l:=none) (u:=some (j,uj)) (st:=none) ⟨o,ho,hc,hd⟩ rfl (post_val_or_str ⟨Nat.le_trans (Txt.slice_le z _ _) hz,fun t' k=>fin t' k⟩)
 | int i ui =>
  cases pu with
  | none=>exact wpAny_getItem_str_slice (l:=some (i,ui)) (u:=none) (st:=none) ⟨o,ho,hc,hd⟩ rfl (post_val_or_str ⟨Nat.le_trans (Txt.slice_le z _ _) hz,fun t' k=>fin t' k⟩)
  | int j uj=>exact wpAny_getItem_str_slice (l:=some (i,ui)) (u:=some (j,uj)) (st:=none) ⟨o,ho,hc,hd⟩ rfl (post_val_or_str ⟨Nat.le_trans (Txt.slice_le z _ _) hz,fun t' k=>fin t' k⟩)
end
section
variable {K:PySem.W.Frag}{g:TG}{tt:TT}{te:TE}{σ':St}{fin:List V->Hp->Prop}{H1:Hp}
theorem gH {J:It}{n:Nat} (hn:n < sizeLine) (Pv:Nat->List V->St->Hp->Prop) (Yd:Nat->V->Prop) (h0:Pv 0 [] σ' H1) (hl:∀i ys σ H,i<=n->Pv i ys σ H->ys.length<=i)
  (hgo:∀i ys σ H,i < n->Pv i ys σ H->J.go i H) (hst:∀ys σ H,Pv n ys σ H->J.stop n H) (hy:∀i ys σ H x H',i < n->Pv i ys σ H->J.yld i H x H'->H'=H/\Yd i x)
  (hs:∀i x ys σ H,i < n->Yd i x->Pv i ys σ H->g x σ H fun σ2 H2=>tt σ2 H2 fun b H3=>if b=true then te σ2 H3 (fun v H4=>Pv (i + 1) (ys++[v]) σ2 H4) else Pv (i + 1) ys σ2 H3) (hd:∀ys σ H,Pv n ys σ H->fin ys H) :
  LcW J g tt te σ' fin H1:=by
 refine⟨fun i m ys σ H=>m=n - i/\i<=n/\Pv i ys σ H,⟨n,by simp,Nat.zero_le _,h0⟩,?_⟩
 rintro i m ys σ H ⟨rfl,hi,p⟩
 have hly:=hl i ys σ H hi p
 by_cases hlt:i < n
 ·refine .inr ⟨hgo i ys σ H hlt p,by omega,fun ys' σ2 H2=>Pv (i + 1) ys' σ2 H2,fun ys' σ2 H2 q=>⟨n - (i + 1),by omega,rfl,hlt,q⟩,fun x H' y=>?_⟩
  obtain⟨e,yd⟩:=hy i ys σ H x H' hlt p y
  subst e
  exact hs i x ys σ H' hlt yd p
 ·have e:i=n:=by omega
  subst e
  exact .inl ⟨hst ys σ H p,by omega,hd ys σ H p⟩
theorem sZ {a:Addr}{xs:List V} (hn:xs.length < sizeLine) (Pv:Nat->List V->St->Hp->Prop) (h0:Pv 0 [] σ' H1) (hl:∀i ys σ H,i<=xs.length->Pv i ys σ H->ys.length<=i/\SqT K H a xs)
  (hs:∀i x ys σ H,xs[i]?=some x->Pv i ys σ H->g x σ H fun σ2 H2=>tt σ2 H2 fun b H3=>if b=true then te σ2 H3 (fun v H4=>Pv (i + 1) (ys++[v]) σ2 H4) else Pv (i + 1) ys σ2 H3) (hd:∀ys σ H,Pv xs.length ys σ H->fin ys H) :
  LcW (Itt K a) g tt te σ' fin H1 :=
 gH hn Pv (fun i x=>xs[i]?=some x) h0 (fun i ys σ H hi p=>(hl i ys σ H hi p).1) (fun i ys σ H hi p=>⟨xs,xs[i],(hl i ys σ H (Nat.le_of_lt hi) p).2,by simp [hi]⟩) (fun ys σ H p=>⟨xs,(hl _ ys σ H (Nat.le_refl _) p).2,Nat.le_refl _⟩)
  (fun i ys σ H x H' hi p y=>⟨y.1,y.2 xs (hl i ys σ H (Nat.le_of_lt hi) p).2⟩) (fun i x ys σ H _ yd p=>hs i x ys σ H yd p) hd
theorem lu {a:Addr}{xs:List V} (hn:xs.length < sizeLine) (Pv:Nat->List V->St->Hp->Prop) (h0:Pv 0 [] σ' H1) (hl:∀i ys σ H,i<=xs.length->Pv i ys σ H->ys.length<=i/\SqL K H a xs)
  (hs:∀i x ys σ H,xs[i]?=some x->Pv i ys σ H->g x σ H fun σ2 H2=>tt σ2 H2 fun b H3=>if b=true then te σ2 H3 (fun v H4=>Pv (i + 1) (ys++[v]) σ2 H4) else Pv (i + 1) ys σ2 H3) (hd:∀ys σ H,Pv xs.length ys σ H->fin ys H) :
  LcW (Itl K a) g tt te σ' fin H1 :=
 gH hn Pv (fun i x=>xs[i]?=some x) h0 (fun i ys σ H hi p=>(hl i ys σ H hi p).1) (fun i ys σ H hi p=>⟨xs,xs[i],(hl i ys σ H (Nat.le_of_lt hi) p).2,by simp [hi]⟩) (fun ys σ H p=>⟨xs,(hl _ ys σ H (Nat.le_refl _) p).2,Nat.le_refl _⟩)
  (fun i ys σ H x H' hi p y=>⟨y.1,y.2 xs (hl i ys σ H (Nat.le_of_lt hi) p).2⟩) (fun i x ys σ H _ yd p=>hs i x ys σ H yd p) hd
theorem qk {lo:Int}{n:Nat} (hn:n < sizeLine) (Pv:Nat->List V->St->Hp->Prop) (h0:Pv 0 [] σ' H1) (hl:∀i ys σ H,i<=n->Pv i ys σ H->ys.length<=i)
  (hs:∀i ys σ H,i < n->Pv i ys σ H->g (.int (lo + i)) σ H fun σ2 H2=>tt σ2 H2 fun b H3=>if b=true then te σ2 H3 (fun v H4=>Pv (i + 1) (ys++[v]) σ2 H4) else Pv (i + 1) ys σ2 H3) (hd:∀ys σ H,Pv n ys σ H->fin ys H) :
  LcW (Itr lo n) g tt te σ' fin H1 :=
 gH hn Pv (fun i x=>x=.int (lo + i)) h0 hl (fun i ys σ H hi p=>hi) (fun ys σ H p=>Nat.le_refl _) (fun i ys σ H x H' hi p y=>y) (fun i x ys σ H hi yd p=>by subst yd;exact hs i ys σ H hi p) hd
theorem sS {x:Str} (hn:x.length < sizeLine) (Pv:Nat->List V->St->Hp->Prop) (h0:Pv 0 [] σ' H1) (hl:∀i ys σ H,i<=x.length->Pv i ys σ H->ys.length<=i)
  (hs:∀i c ys σ H,x.cps[i]?=some c->Pv i ys σ H->g (.str ⟨#[c]⟩) σ H fun σ2 H2=>tt σ2 H2 fun b H3=>if b=true then te σ2 H3 (fun v H4=>Pv (i + 1) (ys++[v]) σ2 H4) else Pv (i + 1) ys σ2 H3) (hd:∀ys σ H,Pv x.length ys σ H->fin ys H) :
  LcW (Its x) g tt te σ' fin H1 :=
 gH hn Pv (fun i v=>∃c,x.cps[i]?=some c/\v=.str ⟨#[c]⟩) h0 hl (fun i ys σ H hi p=>hi) (fun ys σ H p=>Nat.le_refl _) (fun i ys σ H v H' hi p y=>y) (fun i v ys σ H hi yd p=>by obtain⟨c,e,rfl⟩:=yd;exact hs i c ys σ H e p) hd
end
section
variable {K:PySem.W.Frag}{tt:TT}{te:TE}{σ':St}{fin:List V->Hp->Prop}{H1:Hp}{j:Nat}
theorem iZ {a:Addr}{xs:List V} (hn:xs.length < sizeLine) (Pv:Nat->List V->St->Hp->Prop) (h0:Pv 0 [] σ' H1) (hl:∀i ys σ H,i<=xs.length->Pv i ys σ H->ys.length<=i/\SqT K H a xs)
  (hs:∀i x ys σ H,xs[i]?=some x->Pv i ys σ H->te (σ.set j (some x)) H fun v H4=>Pv (i + 1) (ys++[v]) (σ.set j (some x)) H4) (hd:∀ys σ H,Pv xs.length ys σ H->fin ys H):LcW (Itt K a) (b8 j) dC te σ' fin H1 :=
 sZ hn Pv h0 hl (fun i x ys σ H hx p=>by unfold b8 dC;exact am (hs i x ys σ H hx p)) hd
theorem dZ {a:Addr}{xs:List V} (hn:xs.length < sizeLine) (Pv:Nat->List V->St->Hp->Prop) (h0:Pv 0 [] σ' H1) (hl:∀i ys σ H,i<=xs.length->Pv i ys σ H->ys.length<=i/\SqL K H a xs)
  (hs:∀i x ys σ H,xs[i]?=some x->Pv i ys σ H->te (σ.set j (some x)) H fun v H4=>Pv (i + 1) (ys++[v]) (σ.set j (some x)) H4) (hd:∀ys σ H,Pv xs.length ys σ H->fin ys H):LcW (Itl K a) (b8 j) dC te σ' fin H1 :=
 lu hn Pv h0 hl (fun i x ys σ H hx p=>by unfold b8 dC;exact am (hs i x ys σ H hx p)) hd
theorem eP {lo:Int}{n:Nat} (hn:n < sizeLine) (Pv:Nat->List V->St->Hp->Prop) (h0:Pv 0 [] σ' H1) (hl:∀i ys σ H,i<=n->Pv i ys σ H->ys.length<=i)
  (hs:∀i ys σ H,i < n->Pv i ys σ H->te (σ.set j (some (.int (lo + i)))) H fun v H4=>Pv (i + 1) (ys++[v]) (σ.set j (some (.int (lo + i)))) H4) (hd:∀ys σ H,Pv n ys σ H->fin ys H):LcW (Itr lo n) (b8 j) dC te σ' fin H1 :=
 qk hn Pv h0 hl (fun i ys σ H hx p=>by unfold b8 dC;exact am (hs i ys σ H hx p)) hd
theorem rM {x:Str} (hn:x.length < sizeLine) (Pv:Nat->List V->St->Hp->Prop) (h0:Pv 0 [] σ' H1) (hl:∀i ys σ H,i<=x.length->Pv i ys σ H->ys.length<=i)
  (hs:∀i c ys σ H,x.cps[i]?=some c->Pv i ys σ H->te (σ.set j (some (.str ⟨#[c]⟩))) H fun v H4=>Pv (i + 1) (ys++[v]) (σ.set j (some (.str ⟨#[c]⟩))) H4) (hd:∀ys σ H,Pv x.length ys σ H->fin ys H):LcW (Its x) (b8 j) dC te σ' fin H1 :=
 sS hn Pv h0 hl (fun i c ys σ H hx p=>by unfold b8 dC;exact am (hs i c ys σ H hx p)) hd
theorem gq {a:Addr}{xs:List V} (hn:xs.length < sizeLine) (Pv:Nat->List V->St->Hp->Prop) (h0:Pv 0 [] σ' H1) (hl:∀i ys σ H,i<=xs.length->Pv i ys σ H->ys.length<=i/\SqL K H a xs)
  (hs:∀i x ys σ H,xs[i]?=some x->Pv i ys σ H->tt (σ.set j (some x)) H fun b H3=>if b=true then te (σ.set j (some x)) H3 (fun v H4=>Pv (i + 1) (ys++[v]) (σ.set j (some x)) H4) else Pv (i + 1) ys (σ.set j (some x)) H3)
  (hd:∀ys σ H,Pv xs.length ys σ H->fin ys H):LcW (Itl K a) (b8 j) tt te σ' fin H1:=lu hn Pv h0 hl hs hd
end
section
variable {X:Cx}{pins:List (Addr×Obj)}{σ:St}{H:Hp}{s:Shared}{h':Heap}
end
section
variable {X:Cx}
end
section
variable {prog:Program}{w:World}{A:Around}{E:Value->Shared->Prop}{s:Shared}
end
section
variable {X:Cx}
end
section
variable {κ:Type} [DecidableEq κ]
noncomputable def nS (kvs:List (κ×V)) (k:κ):Option V:=(kvs.find? fun kv=>decide (kv.1=k)).map (·.2)
noncomputable def putK (kvs:List (κ×V)) (k:κ) (v:V):List (κ×V) :=
 if (kvs.any fun kv=>decide (kv.1=k))=true then kvs.map (fun kv=>if kv.1=k then (kv.1,v) else kv) else kvs++[(k,v)]
noncomputable def vI (kvs:List (κ×V)) (k:κ):List (κ×V):=kvs.filter fun kv=>decide (kv.1≠k)
end
noncomputable abbrev KT (H:Hp):List (List Key×V)->List (List Key×Addr×Value)->Prop:=Paired fun p q=>p.1=q.1/\H q.2.1=some (.tup (p.1.map kV))/\RelV p.2 q.2.2
section
variable {P:Program}{w:World}{H:Hp}{h:Heap}{a:Addr}
end
noncomputable def vM (H:Hp) (a:Addr) (y:V) (r:Option V):Prop :=
 (∃kvs k,Rd H a (.dK kvs)/\y=kV k/\r=nS kvs k)\/∃kvs k b,Rd H a (.dT kvs)/\y=.ref b/\H b=some (.tup (k.map kV))/\r=nS kvs k
noncomputable def vO (H:Hp) (a:Addr) (y v:V) (H':Hp):Prop :=
 (∃kvs k,H a=some (.dK kvs)/\y=kV k/\kvs.length < sizeLine/\H'=upd H a (.dK (putK kvs k v))) \/
 ∃kvs k b,H a=some (.dT kvs)/\y=.ref b/\H b=some (.tup (k.map kV))/\kvs.length < sizeLine/\H'=upd H a (.dT (putK kvs k v))
section
variable {X:Cx}{pins:List (Addr×Obj)}{σ:St}{H:Hp}{s:Shared}{a:Addr}{y v:V}{u r:Value}{o:Option V}{A:Around}{E:Value->Shared->Prop}
theorem Inv.big (I:Inv X pins σ H s):sysModules < s.heap.objs.size:=by
 have h:mainGlobals < s.heap.objs.size:=(I.mod.glob.keeps I.bk).lt
 exact Nat.lt_trans (by decide) h
end
section
variable {X:Cx}{pins:List (Addr×Obj)}{σ:St}{H:Hp}{s:Shared}{a:Addr}{kvs:List (Key×V)}{k:Key}{u:Value}{A:Around}{E:Value->Shared->Prop}
end
section
variable {X:Cx}{o i e value:Expr}{pos pos' tpos:Pos}{td ty tv:TE}
end
theorem rh {P:Program}{w:World}{H:Hp} (h:Heap) (hb:sysModules < h.objs.size):aQ P w H (h.push { cls:=.type "dict",data:=.dict #[] }) h.objs.size (.dK []) :=
 ⟨Nat.zero_le _,beq_eq_false_iff_ne.mpr (Ne.symm (Nat.ne_of_lt hb)),[],.nil,Heap.DictOf.new h⟩
noncomputable def mG:TE:=fun _ H Q=>∀p,H p=none->Q (.ref p) (upd H p (.dK []))
section
variable {X:Cx}{pos:Pos}
theorem qY:PE X (.Dict [] [] pos) mG:=fun pins s σ H Q I h =>
 wpAny_Dict_empty ⟨.ref s.heap.objs.size,_,I.laid (a:=s.heap.objs.size) (o:=.dK []) (t':=s.toks) (fun _ _ q=>Heap.get?_push_of_some _ q) (Nat.le_refl _) (rh s.heap I.big),rfl,h _ (I.hok.fresh (Nat.le_refl _))⟩
end
section
variable {prog:Program}{w:World}{A:Around}{R:Result->Shared->Prop}{s:Shared}
end
section
variable {X:Cx}{scope:Scope}{N:List Str}{ix:List (Option Nat)}
variable {tg iter kx vx:Expr}{ifs:List Expr}{pos:Pos}{g:TG}{tt:TT}{tk tv:TE}
end
section
variable {X:Cx}
end
section
variable {prog:Program}{w:World}{A:Around}{E:Value->Shared->Prop}{s:Shared}
end
section
variable {prog:Program}{w:World}{A:Around}{E:Value->Shared->Prop}{s:Shared}
end
section
variable {X:Cx}
end
section
variable {prog:Program}{w:World}{A:Around}{E:Value->Shared->Prop}{s:Shared}
end
section
variable {X:Cx}{tg:Expr}
end
section
variable {X:Cx}{scope:Scope}{N:List Str}{ix:List (Option Nat)}
variable {tg iter kx vx:Expr}{ifs:List Expr}{pos:Pos}{g:TG}{tt:TT}{tk tv:TE}
end
structure M1 (X:Cx) (o:Expr) (m:Str) (apos:Pos) (e:Expr) (cpos:Pos):Prop where
 base:attributeBase o m X.env (eval o X.env)=eval o X.env
 few:((backTo cpos (starEach [e] X.env)).all (fun x=>!x.1) && (backToKw cpos (keywordEach [] X.env)).all (fun x=>x.1.isSome)
  && decide (([e]:List Expr).length + ([]:List Keyword).length + (if ([]:List Keyword).isEmpty then 0 else 1) < 30))=true
 line:(apos.endLine == cpos.line)=true
 trees:backTo cpos (starEach [e] X.env)=[(false,eval e X.env)]
structure M2 (X:Cx) (o:Expr) (m:Str) (apos:Pos) (e f:Expr) (cpos:Pos):Prop where
 base:attributeBase o m X.env (eval o X.env)=eval o X.env
 few:((backTo cpos (starEach [e,f] X.env)).all (fun x=>!x.1) && (backToKw cpos (keywordEach [] X.env)).all (fun x=>x.1.isSome)
  && decide (([e,f]:List Expr).length + ([]:List Keyword).length + (if ([]:List Keyword).isEmpty then 0 else 1) < 30))=true
 line:(apos.endLine == cpos.line)=true
 trees:backTo cpos (starEach [e,f] X.env)=[(false,eval e X.env),(false,eval f X.env)]
section
variable {X:Cx}{pins:List (Addr×Obj)}{σ:St}{H:Hp}{s:Shared}{a:Addr}{y d:V}{u r:Value}{o:Option V}{A:Around}{E:Value->Shared->Prop}
end
section
variable {X:Cx}{o e f:Expr}{apos cpos:Pos}{td ty tx:TE}
end
section
variable {X:Cx}{pins:List (Addr×Obj)}{σ:St}{H:Hp}{s:Shared}{a:Addr}{kvs:List (Key×V)}{A:Around}{E:Value->Shared->Prop}
end
section
variable {X:Cx}{pins:List (Addr×Obj)}{σ:St}{H:Hp}{s:Shared}{a:Addr}{y:V}{u:Value}{A:Around}{E:Value->Shared->Prop}
end
section
variable {X:Cx}
end
section
variable {κ:Type} [DecidableEq κ]
end
end L2
namespace L2
open PySem PySem.Spec PyProof.Rows PySem.W PySem.Calls
theorem aQ.get {P:Program}{w:World}{H:Hp}{h:Heap}{a:Addr}{o:HO} (x:aQ P w H h a o):∃ob,h.get? a=some ob:=by
 cases o with
 | lst xs=>obtain⟨_,_,_,_,e⟩:=x;exact⟨_,e⟩
 | tup xs=>obtain⟨_,_,_,ob,e,_⟩:=x;exact⟨_,e⟩
 | dK kvs=>obtain⟨_,_,_,_,o,_,_,e,_⟩:=x;exact⟨_,e⟩
 | dT kvs=>obtain⟨_,_,_,_,o,_,_,e,_⟩:=x;exact⟨_,e⟩
 | set S n=>obtain⟨o,_,_,_,e,_⟩:=x;exact⟨_,e⟩
 | ins C dx fs=>obtain⟨_,_,_,e,_⟩:=x;exact⟨_,e⟩
 | own y=>obtain⟨_,e⟩:=x;exact⟨_,e⟩
 | xd fs=>obtain⟨_,⟨_,_,_,e,_⟩,_⟩:=x;exact⟨_,e⟩
 | rng lo hi=>obtain⟨_,_,_,e⟩:=x;exact⟨_,e⟩
 | frz ob u=>obtain⟨e,_⟩:=x;exact⟨_,e⟩
 | tbl ps=>exact⟨_,(show h.get? a=some _ from x)⟩
 | met f y=>exact⟨_,(show h.get? a=some _ from x)⟩
 | ext φ=>obtain⟨_,⟨_,e⟩,_⟩:=x;exact⟨_,e⟩
theorem HOk.freeN {P:Program}{w:World}{H:Hp}{h:Heap}{a:Addr} (x:HOk P w H h) (e:h.get? a=none):H a=none:=by
 cases q:H a with
 | none=>rfl
 | some u=>obtain⟨ob,e'⟩:=(x a u q).get;rw [e] at e';cases e'
theorem Inv.laidN {X:Cx}{pins:List (Addr×Obj)}{σ:St}{H:Hp}{s:Shared}{h':Heap}{a:Addr}{o:HO}{t':Nat} (I:Inv X pins σ H s) (k:∀b u,s.heap.get? b=some u->h'.get? b=some u) (hp:s.heap.get? a=none) (new:aQ X.prog X.w (upd H a o) h' a o) :
  Inv X pins σ (upd H a o) { s with heap:=h',toks:=t' }:=by
 have hn:=I.hok.freeN hp
 refine I.un ⟨fun b ob e _ _ _=>k b ob e,fun b ob e _ _ _=>⟨ob.slots,k b ob e⟩,fun b ob e n _=>?_,fun b ob e _=>⟨ob,k b ob e⟩,fun b xs e=>?_,fun b ob u e=>?_,fun b ps e=>⟨#[],?_⟩⟩ fun b u e=>?_
 ·rw [ai (fun z=>by rw [z,hp] at e;cases e)];exact n
 ·rw [ai (au e hn)];exact e
 ·rw [ai (au e hn)];exact e
 ·rw [ai (au e hn)];simpa using e
 ·by_cases hb:b=a
  ·subst hb;rw [ah] at e;cases e;exact new
  ·rw [ai hb] at e
   exact (I.hok b u e).stay (fun c v _ q=>k c v q) (fun c q=>by rw [ai (au q hn)];exact q) fun c xs q=>by rw [ai (au q hn)];exact q
section
variable {X:Cx}
end
section
variable {prog:Program}{w:World}{A:Around}{E:Value->Shared->Prop}{s:Shared}
end
section
variable {prog:Program}{w:World}{A:Around}{R:Result->Shared->Prop}{K:Type} [DecidableEq K] {knd:PySem.KeyKind prog w K}
end
section
variable {X:Cx}
end
end L2
namespace L2
open PySem PySem.Spec PyProof.Rows
section
variable {X:Cx}
end
end L2
namespace L2
open PySem PySem.Spec PyProof.Rows PySem.W PySem.Calls
section
variable {X:Cx}
end
noncomputable def b7:Value->Str
 | .str x _=>x
 | _=>default
structure aW (w:World) (o:Obj) (ss:List Str) (es:Array (Int×Value)) (ep:Nat) (t:SetTable):Prop where
 cls:o.cls=.type "set"
 dic:o.dict=none
 slo:o.slots=#[]
 dat:o.data=.set es ep t
 els:∀e∈es.toList,∃tk,e.2=.str (b7 e.2) tk/\e.1=hashStr w (b7 e.2)
 all:(es.toList.map fun e=>b7 e.2).Perm ss
 one:ss.Nodup
 few:ss.length < 4000
 fit:t.fits es.size=true
 led:t.led=!w.params.followText "set-order"
 pla:es.size=0\/t.plain=false
theorem aW.size {w:World}{o:Obj}{ss:List Str}{es:Array (Int×Value)}{ep:Nat}{t:SetTable} (x:aW w o ss es ep t):es.size=ss.length:=by
 have:=x.all.length_eq
 rw [List.length_map,Array.length_toList] at this;exact this
theorem aW.elems {P:Program}{w:World}{o:Obj}{ss:List Str}{es:Array (Int×Value)}{ep:Nat}{t:SetTable} (x:aW w o ss es ep t):ElemsOf (PySem.strKind P w) es.toList:=by
 intro e he
 obtain⟨tk,h1,h2⟩:=x.els e he
 refine⟨⟨b7 e.2,?_,h2⟩,?_⟩
 ·have z:=PySem.strKind_is P w (b7 e.2) tk
  rw [<- h1] at z;exact z
 ·rw [h1];rfl
theorem oy (t:SetTable) (n:Nat):(t.orStandIn n).led=t.led:=by
 unfold SetTable.orStandIn;split <;> rfl
theorem pO (t:SetTable) (es:Array (Int×Value)) (h:Int) (x:Value):(layNew t es h x).2.1.led=t.led:=by
 unfold layNew
 split
 ·exact oy _ _
 ·rfl
theorem oK (t:SetTable) (es:Array (Int×Value)) (n:Nat):(relayAll t es n).2.1.led=t.led/\(t.plain=false->(relayAll t es n).2.1.plain=false):=by
 unfold relayAll
 split
 ·rename_i t' order he
  have hz:t'.led=t.led/\t'.plain=t.plain:=by
   unfold SetTable.relaid SetTable.laid at he
   revert he
   cases SetTable.layClean (SetTable.sizeAbove n - 1) (es.map (·.1)) with
   | none=>intro he;cases he
   | some ow=>intro he;cases he;exact⟨rfl,rfl⟩
  dsimp only
  split
  ·exact⟨hz.1,fun e=>hz.2.trans e⟩
  ·exact⟨rfl,fun _=>rfl⟩
 ·exact⟨rfl,fun _=>rfl⟩
theorem kW {h:Heap}{a:Addr}{o:Obj}{es es':Array (Int×Value)}{ep:Nat}{t t':SetTable} (ho:h.get? a=some o) (hd:o.data=.set es ep t) :
  (h.update a (Obj.putSet es' t')).get? a=some { o with data:=.set es' (ep + 1) t' }:=by
 have q:=Heap.get?_update_self (Obj.putSet es' t') ho (by rw [putSet_of es' t' hd];rfl)
 rw [putSet_of es' t' hd] at q
 exact q
section
variable {prog:Program}{w:World}{A:Around}{E:Value->Shared->Prop}{s:Shared}
theorem qQ {a:Addr}{o:Obj}{ss:List Str}{k:Str}{tk:Tok}{es:Array (Int×Value)}{ep:Nat}{t:SetTable}{R:Option Bool->Shared->Prop}
  (ho:s.heap.get? a=some o) (x:aW w o ss es ep t) (hk:k∉ss) (few:ss.length + 1 < 4000)
  {L:Array (Int×Value)×SetTable×Bool×Bool} (hL:layNew t es (hashStr w k) (.str k tk)=L)
  (h:∀(h':Heap) (o':Obj) es' ep' t',Heap.SameBut a s.heap h'->h'.get? a=some o'->aW w o' (k::ss) es' ep' t'->R (some true) { s with heap:=h' }) (g:Bool->Sem Unit) (hg:∀(b:Bool) (s₁:Shared) (Q':Unit->Shared->Prop),Q' () s₁->wpAny (model prog w) A (g b) Q' E s₁) :
  wpAny (model prog w) A (do
   storeSet a L.1 { L.2.1 with plain:=false }
   if (!L.2.2.1 && ({ L.2.1 with plain:=false }:SetTable).tooFull)=true then do
    g (relayAll { L.2.1 with plain:=false } L.1 (SetTable.grown L.1.size)).2.2
    storeSet a (relayAll { L.2.1 with plain:=false } L.1 (SetTable.grown L.1.size)).1 (relayAll { L.2.1 with plain:=false } L.1 (SetTable.grown L.1.size)).2.1
    pure (some true)
   else pure (some true)) R E s:=by
 have pm:=layNew_perm t es (hashStr w k) (.str k tk)
 have pf:=layNew_fits t es (hashStr w k) (.str k tk)
 have pl:=pO t es (hashStr w k) (.str k tk)
 rw [hL] at pm pf pl
 obtain⟨e1,t1,b1,b2⟩:=L
 dsimp only at pm pf pl ⊢
 rw [Array.toList_push] at pm
 have hsz:=x.size
 have z1:e1.size=ss.length + 1:=by
  have:=pm.length_eq
  rw [List.length_append,Array.length_toList,Array.length_toList] at this
  rw [this,hsz];rfl
 have mk:∀{e2:Array (Int×Value)}{t2:SetTable}{o2:Obj}{ep2:Nat},e2.toList.Perm e1.toList->o2.cls=.type "set"->o2.dict=none->o2.slots=#[]->o2.data=.set e2 ep2 t2->t2.fits e2.size=true->t2.led=t.led->t2.plain=false->aW w o2 (k::ss) e2 ep2 t2:=by
  intro e2 t2 o2 ep2 p1 c1 c2 c3 c4 c5 c6 c7
  have p2:=p1.trans pm
  refine⟨c1,c2,c3,c4,fun e he=>?_,?_,?_,?_,c5,c6.trans x.led,.inr c7⟩
  ·rcases List.mem_append.mp (p2.mem_iff.mp he) with q | q
   ·exact x.els e q
   ·rw [List.mem_singleton.mp q];exact⟨tk,rfl,rfl⟩
  ·refine (p2.map _).trans ?_
   rw [List.map_append]
   exact (List.perm_append_comm).trans (List.Perm.cons k x.all)
  ·exact List.nodup_cons.mpr ⟨hk,x.one⟩
  ·rw [List.length_cons];exact few
 have fz:({ t1 with plain:=false }:SetTable).fits e1.size=true:=SetTable.fits_plain_off pf
 refine wpAny_bind (wpAny_storeSet_of ho x.dat ?_ (by rw [z1,sizeLine_eq];omega))
 have g1:=kW (es':=e1) (t':={ t1 with plain:=false }) ho x.dat
 have sb:=Heap.SameBut.update s.heap a (Obj.putSet e1 { t1 with plain:=false })
 split
 ·have rp:=relayAll_perm { t1 with plain:=false } e1 (SetTable.grown e1.size)
  have rf:=relayAll_fits { t1 with plain:=false } e1 (SetTable.grown e1.size)
  have rl:=oK { t1 with plain:=false } e1 (SetTable.grown e1.size)
  generalize relayAll { t1 with plain:=false } e1 (SetTable.grown e1.size)=R2 at rp rf rl ⊢
  have z2:R2.1.size=ss.length + 1:=by
   have:=rp.length_eq
   rw [Array.length_toList,Array.length_toList] at this
   rw [this,z1]
  refine wpAny_bind (hg _ _ _ ?_)
  refine wpAny_bind (wpAny_storeSet_of g1 rfl ?_ (by rw [z2,sizeLine_eq];omega))
  have g2:=kW (es':=R2.1) (t':=R2.2.1) g1 rfl
  exact wpAny_pure (h _ _ R2.1 _ R2.2.1 (sb.trans (Heap.SameBut.update _ a _)) g2 (mk rp x.cls x.dic x.slo rfl rf (rl.1.trans pl) (rl.2 rfl)))
 ·exact wpAny_pure (h _ _ e1 _ _ sb g1 (mk (List.Perm.refl _) x.cls x.dic x.slo rfl fz pl rfl))
end
noncomputable def aJ:List Str->List Str
 | []=>[]
 | k::r=>if k∈aJ r then aJ r else k::aJ r
theorem qW (l:List Str) (k:Str):k∈aJ l ↔ k∈l:=by
 induction l with
 | nil=>exact Iff.rfl
 | cons a r ih =>
  unfold aJ
  split
  ·rename_i q
   rw [ih,List.mem_cons]
   exact⟨Or.inr,fun z=>z.elim (fun e=>by rw [e];exact ih' ih q e) id⟩
  ·rw [List.mem_cons,List.mem_cons,ih]
where ih' {r:List Str}{a k:Str} (ih:k∈aJ r ↔ k∈r) (q:a∈aJ r) (e:k=a):a∈r:=by subst e;exact ih.mp q
theorem gx (l:List Str):(aJ l).length<=l.length:=by
 induction l with
 | nil=>exact Nat.le_refl _
 | cons a r ih =>
  unfold aJ
  split
  ·rw [List.length_cons];omega
  ·rw [List.length_cons,List.length_cons];omega
theorem pJ (l:List Str):(aJ l).Nodup:=by
 induction l with
 | nil=>exact List.nodup_nil
 | cons a r ih =>
  unfold aJ
  split
  ·exact ih
  ·rename_i q;exact List.nodup_cons.mpr ⟨q,ih⟩
section
variable {prog:Program}{w:World}{A:Around}{E:Value->Shared->Prop}{s:Shared}
theorem rj {a:Addr}{o:Obj}{l:List Str}{k:Str}{tk:Tok}{es:Array (Int×Value)}{ep:Nat}{t:SetTable}{Q:Bool->Shared->Prop}
  (ho:s.heap.get? a=some o) (x:aW w o (aJ l) es ep t) (few:l.length + 1 < 4000)
  (h:∀(b:Bool) (h':Heap) (o':Obj) es' ep' t',Heap.SameBut a s.heap h'->h'.get? a=some o'->aW w o' (aJ (k::l)) es' ep' t'->Q b { s with heap:=h' }) :
  wpAny (model prog w) A (setAddHashed a (.str k tk) (hashStr w k)) Q E s:=by
 have hl:=gx l
 have hsz:=x.size
 have hel:=x.elems (P:=prog)
 have hkey:=PySem.strKind_is prog w k tk
 unfold setAddHashed setAddHashedIn
 refine wpAny_holding (wpAny_bind (wpAny_setState_of ho x.dat x.fit ?_))
 dsimp only
 rw [byScan_of (knd:=PySem.strKind prog w) rfl (by rw [hsz];have:scanBound=4096:=rfl;omega) hel]
 rw [if_pos rfl]
 unfold setAddByScan
 refine wpAny_bind (wpAny_bind (wpAny_rule ?_))
 refine wpAny_bind (wpAny_setScan_of (knd:=PySem.strKind prog w) (k:=k) hkey ho x.dat x.fit hel ?_)
 have mem:∀e∈es.toList,(PySem.strKind prog w).is k e.2=true ↔ b7 e.2=k:=by
  intro e he
  obtain⟨t',h1,_⟩:=x.els e he
  rw [h1]
  show Value.isStrOf k (.str (b7 e.2) t')=true ↔ b7 (.str (b7 e.2) t')=k
  simp [Value.isStrOf,b7]
 cases hf:List.findIdx? (fun e=>(PySem.strKind prog w).is k e.2) es.toList with
 | some j =>
  dsimp only
  obtain⟨hj,hp,_⟩:=List.findIdx?_eq_some_iff_getElem.mp hf
  have hin:k∈aJ l:=x.all.mem_iff.mp (List.mem_map.mpr ⟨_,List.getElem_mem hj,(mem _ (List.getElem_mem hj)).mp hp⟩)
  refine wpAny_pure (wpAny_pure ?_)
  have e2:aJ (k::l)=aJ l:=by show (if k∈aJ l then _ else _)=_;rw [if_pos hin]
  exact h false s.heap o es ep t (Heap.SameBut.refl a s.heap) ho (by rw [e2];exact x)
 | none =>
  dsimp only
  have hin:k∉aJ l:=by
   intro hk
   obtain⟨e,he,ee⟩:=List.mem_map.mp (x.all.mem_iff.mpr hk)
   have:=List.findIdx?_eq_none_iff.mp hf e he
   rw [(mem e he).mpr ee] at this;cases this
  have e2:aJ (k::l)=k::aJ l:=by show (if k∈aJ l then _ else _)=_;rw [if_neg hin]
  have fin:∀(h':Heap) (o':Obj) es' ep' t',Heap.SameBut a s.heap h'->h'.get? a=some o'->aW w o' (k::aJ l) es' ep' t'->Q true { s with heap:=h' }:=fun h' o' es' ep' t' c1 c2 c3=>h true h' o' es' ep' t' c1 c2 (by rw [e2];exact c3)
  have hgw:∀(b:Bool) (s₁:Shared) (Q':Unit->Shared->Prop),Q' () s₁->wpAny (model prog w) A (match b with | true=>rule "set.scan.the-table-gave-way" | false=>pure ()) Q' E s₁:=fun b s₁ Q' q=>by
   cases b
   ·exact wpAny_pure q
   ·exact wpAny_rule q
  generalize hL:layNew t es (hashStr w k) (.str k tk)=L
  obtain⟨e1,t1,b1,b2⟩:=L
  dsimp only
  refine wpAny_bind (hgw _ _ _ ?_)
  have tail:=fun (g:Bool->Sem Unit) hg=>qQ (A:=A) (E:=E) (prog:=prog) (R:=fun r s'=>wpAny (model prog w) A (match r with | some added=>pure added | none=>setAddHashedIn a (.str k tk) (hashStr w k) 99999) Q E s') ho x hin (by omega) hL (fun h' o' es' ep' t' c1 c2 c3=>wpAny_pure (fin h' o' es' ep' t' c1 c2 c3)) g hg
  dsimp only at tail
  split
  ·refine wpAny_bind ?_
   rw [hashByValue_scannable 8 rfl]
   refine wpAny_pure ?_
   exact tail _ hgw
  ·rename_i hpl
   refine wpAny_bind (wpAny_pure ?_)
   have hp:t1.plain=false:=by cases q:t1.plain with | false=>rfl | true=>exact absurd q hpl
   have et:t1={ t1 with plain:=false }:=by cases t1;cases hp;rfl
   rw [if_pos rfl]
   rw [et]
   exact tail _ hgw
end
section
variable {prog:Program}{w:World}{A:Around}{E:Value->Shared->Prop}{s:Shared}
theorem j9 {I S:Addr}{fp:List Addr}{its:List Value}{ss:List Str}{St:Nat->Heap->Prop}{R:Result->Shared->Prop}{m:Nat} (hm:m=its.length)
  (W:Walks prog w A.in1 I fp [I] m (fun i v=>its[i]?=some v) St) (hS:S∉fp) (hv:ar (ss.map V.str) its) (few:ss.length + 1 < 4000) :
  ∀(k i:Nat) (s:Shared) (o:Obj) (es:Array (Int×Value)) (ep:Nat) (t:SetTable),its.length - i=k->i<=its.length->St i s.heap->s.heap.get? S=some o->aW w o (aJ (ss.take i).reverse) es ep t ->
   (∀(h':Heap) (tk:Nat) (o':Obj) es' ep' t',(∀b ob,b≠S->b≠I->s.heap.get? b=some ob->h'.get? b=some ob)->h'.get? S=some o'->aW w o' (aJ ss.reverse) es' ep' t'->R (.ok (.ret .none)) { s with heap:=h',toks:=tk }) ->
   codeAny (model prog w) A (.builtin "set.update.loop" ⟨[.ref S,.ref I],[]⟩) R s:=by
 have hlen:ss.length=its.length:=by have:=hv.length;rwa [List.length_map] at this
 subst hm
 have hIS:S≠I:=fun e=>hS (by rw [e];exact W.sub I (List.mem_singleton.mpr rfl))
 intro k
 induction k with
 | zero =>
  intro i s o es ep t hk hi st ho x q
  have e:i=its.length:=by omega
  subst e
  refine codeAny_builtin F.entry_set_update_loop ?_
  rw [Around.under_plainId F.plain_set_update_loop _]
  show wpAny _ A.in1 (pyNext (.ref I) >>= _) _ _ s
  refine wpAny_bind (W.done s _ _ st fun h' tk kp=>?_)
  show wpAny _ A.in1 (ret Value.none) _ _ _
  rw [<- hlen,List.take_length] at x
  exact wpAny_pure (q h' tk o es ep t (fun b ob _ hb e=>kp b ob (by simpa using hb) e) (kp S o (by simpa using hIS) ho) x)
 | succ k ih =>
  intro i s o es ep t hk hi st ho x q
  have hlt:i < its.length:=by omega
  have hls:i < ss.length:=by omega
  refine codeAny_builtin F.entry_set_update_loop ?_
  rw [Around.under_plainId F.plain_set_update_loop _]
  show wpAny _ A.in1 (pyNext (.ref I) >>= _) _ _ s
  refine wpAny_bind (W.item i s _ _ hlt st fun v h1 tk1 hP st1 kp=>?_)
  obtain⟨u,hu,ru⟩:=hv.get (i:=i) (x:=.str ss[i]) (by rw [List.getElem?_map,List.getElem?_eq_getElem hls];rfl)
  have ev:v=u:=by rw [hP] at hu;cases hu;rfl
  subst ev
  obtain⟨tv,rfl⟩:=ru
  have ho1:h1.get? S=some o:=kp S o (by simpa using hIS) ho
  show wpAny _ A.in1 (holding [Value.str ss[i] tv] (setAdd S (.str ss[i] tv)) >>= _) _ _ _
  refine wpAny_bind (wpAny_holding ?_)
  unfold setAdd
  refine wpAny_holding ?_
  refine wpAny_bind ((PySem.strKind prog w).pyHash (k:=ss[i]) (PySem.strKind_is prog w _ _) ?_)
  have htl:(ss.take i).reverse.length + 1 < 4000:=by rw [List.length_reverse,List.length_take];omega
  refine rj (s:={ s with heap:=h1,toks:=tk1 + 1 }) ho1 x htl fun b h2 o2 es2 ep2 t2 sb ho2 x2=>?_
  have e3:ss[i]::(ss.take i).reverse=(ss.take (i + 1)).reverse:=by
   rw [List.take_add_one,List.getElem?_eq_getElem hls,List.reverse_append];rfl
  rw [e3] at x2
  refine wpAny_pure ⟨plainId_quiet F.plain_set_update_loop _,ih (i + 1) _ o2 es2 ep2 t2 (by omega) hlt (W.frame _ h1 _ st1 fun b hb ob e=>?_) ho2 x2 fun h' tk o' es' ep' t' kp' c1 c2=>?_⟩
  ·rw [sb.2 b (fun z=>hS (by rw [<- z];exact hb))];exact e
  ·refine q h' tk o' es' ep' t' (fun b ob b1 b2 e=>kp' b ob b1 b2 ?_) c1 c2
   show h2.get? b=some ob
   rw [sb.2 b b1]
   exact kp b ob (by simpa using b2) e
theorem lF (a:Value) {Q₁:Value->Shared->Prop}
  (h:Q₁ (.ref s.heap.objs.size) { s with heap:=s.heap.push { cls:=.type "set",dict:=none,data:=.set #[] 0 (.fresh 0 0 (!w.params.followText "set-order")) } }) :
  codeAny (model prog w) A (.call (.builtin "set.__new__") ⟨[.type "set",a],[]⟩) (wants Q₁ E) s:=by
 refine codeAny_of_tree ?_
 show wpAny _ A.in1 (checkBuiltinCall "set.__new__" ⟨[.type "set",a],[]⟩ >>= fun _=>again (.builtin "set.__new__" ⟨[.type "set",a],[]⟩)) _ _ s
 refine wpAny_bind (wpAny_of_eq (PySem.F.newCall_set_1 a) (wpAny_pure ⟨plainId_quiet PySem.F.plain_set_new _,codeAny_builtin PySem.F.entry_set_new ?_⟩))
 rw [Around.under_plainId PySem.F.plain_set_new _]
 unfold Builtin.«set.__new__» Builtin.Frozenset.newClass
 have known:=sub_set_self
 obtain⟨h0,g0,d0,tk0,os0⟩:=s
 dsimp only
 wp_walk
 refine wpAny_askSetting (wpAny_pure ?_)
 dsimp only
 simp only [newObj]
 exact wpAny_bind (wpAny_alloc (wpAny_pure (wpAny_pure h)))
theorem j4 (w:World):aW w { cls:=.type "set",dict:=none,data:=.set #[] 0 (.fresh 0 0 (!w.params.followText "set-order")) } [] #[] 0 (.fresh 0 0 (!w.params.followText "set-order")) :=
 ⟨rfl,rfl,rfl,rfl,fun e he=>(by cases he),List.Perm.nil,List.nodup_nil,(by decide),rfl,rfl,.inl rfl⟩
end
end L2
set_option maxHeartbeats 8000000
namespace L2
open PySem PySem.Spec PyProof.Rows PySem.W PySem.Calls
section
variable {prog:Program}{w:World}{A:Around}{E:Value->Shared->Prop}{s:Shared}
theorem sub_tuple_set:isSubtype (.type "tuple") (.type "set")=pure false:=by rw [isSubtype_type];kernel_rfl
theorem oz:isSubtype (.type "tuple") (.type "frozenset")=pure false:=by rw [isSubtype_type];kernel_rfl
theorem oa {l:Addr}{its:List Value}{ss:List Str}{Q:Value->Shared->Prop}
  (hh:A.handled=none) (hl:s.heap.IsTuple l its.toArray) (hv:ar (ss.map V.str) its) (few:ss.length + 1 < 4000)
  (h:∀(h':Heap) (tk:Nat) (o':Obj) es' ep' t',(∀b ob,s.heap.get? b=some ob->h'.get? b=some ob)->h'.get? s.heap.objs.size=some o'->aW w o' (aJ ss.reverse) es' ep' t'->Q (.ref s.heap.objs.size) { s with heap:=h',toks:=tk }) :
  wpAny (model prog w) A (call (.type "set") [.ref l]) Q E s:=by
 obtain⟨mro0,mrot,hmro⟩:=PySem.F.called_set.mro
 have made:=PySem.F.called_set.made
 have subs:=PySem.F.called_set.sub
 have nt:=PySem.F.called_set.notType
 have cc:=PySem.F.called_set.canCreate
 have ct:=PySem.F.typeCall_set_1 (.ref l)
 refine wpAny_call (codeAny_of_tree ?_)
 show wpAny _ _ (callAny (.type "set") _) _ _ _
 refine wpAny_pure ⟨Code.quiet_builtin _ (by decide +kernel),codeAny_builtin PySem.F.entry_type_call ?_⟩
 rw [Around.under_plain (weight_type_call_type "set" [.ref l] []) rfl]
 repeat (any_goals (first | assumption | wp_step))
 refine codeAny_mono (lF (.ref l) (E:=E) (Q₁:=fun obj s₁=>obj=.ref s.heap.objs.size/\s₁={ s with heap:=s.heap.push { cls:=.type "set",dict:=none,data:=.set #[] 0 (.fresh 0 0 (!w.params.followText "set-order")) } }) ⟨rfl,rfl⟩) fun r s₁ hr=>?_
 generalize hbt:(!w.params.followText "set-order")=bt at hr
 cases r with
 | error e=>exact hr
 | ok fl =>
  cases fl with
  | ret obj =>
   obtain⟨rfl,rfl⟩:=hr
   have g0:(s.heap.push { cls:=.type "set",dict:=none,data:=.set #[] 0 (.fresh 0 0 bt) }).get? s.heap.objs.size=some { cls:=.type "set",dict:=none,data:=.set #[] 0 (.fresh 0 0 bt) }:=Heap.get?_push_size _ rfl
   have ty:Shared.TypeIs { s with heap:=s.heap.push { cls:=.type "set",dict:=none,data:=.set #[] 0 (.fresh 0 0 bt) } } (.ref s.heap.objs.size) "set":=⟨_,g0,rfl⟩
   have ini:=PySem.F.called_set.init.lookup
   have inb:=PySem.F.called_set.init.bind (.ref s.heap.objs.size)
   repeat (any_goals (first | assumption | wp_step))
   refine codeAny_mono (codeAny_call_builtin (R:=wants (fun r s₂=>r=.none/\∃h' tk o' es' ep' t',s₂={ s with heap:=h',toks:=tk }/\(∀b ob,s.heap.get? b=some ob->h'.get? b=some ob)/\h'.get? s.heap.objs.size=some o'/\aW w o' (aJ ss.reverse) es' ep' t') E)
    PySem.F.called_set.init.plain PySem.F.entry_set_init (check_set_init_1 ty ?_)) fun r₂ s₂ hr₂=>?_
   ·obtain⟨ol,hol,cl,nl,dl⟩:=hl
    obtain⟨c1,c2,c3,c4⟩:=ol
    simp only at cl dl
    subst cl;subst dl
    have hol1:(s.heap.push { cls:=.type "set",dict:=none,data:=.set #[] 0 (.fresh 0 0 bt) }).get? l=some { cls:=.type "tuple",dict:=c2,data:=.seq its.toArray nl,slots:=c4 }:=Heap.get?_push_of_some _ hol
    have n1:=sub_tuple_set
    have n2:=oz
    have n3:(Value.type "tuple" == Value.type "dict")=false:=by decide
    have hl1:(s.heap.push { cls:=.type "set",dict:=none,data:=.set #[] 0 (.fresh 0 0 bt) }).IsTuple l its.toArray:=⟨_,hol1,rfl,nl,rfl⟩
    unfold Builtin.«set.__init__» noKeywords Builtin.Frozenset.updateFrom
    generalize hpi:pyIter=pit
    wp_walk
    subst hpi
    refine wpAny_pyIter_tuple hl1 ?_
    refine wpAny_bind (wpAny_runValue ?_)
    have lt0:l < s.heap.objs.size:=Heap.lt_size hol
    have h3:A.in1.in1.in1.handled=none:=by simp [hh]
    have ne1:l≠(s.heap.push { cls:=.type "set",dict:=none,data:=.set #[] 0 (.fresh 0 0 bt) }).objs.size:=by
     rw [Heap.size_push];exact Nat.ne_of_lt (Nat.lt_succ_of_lt lt0)
    have out:s.heap.objs.size∉[(s.heap.push { cls:=.type "set",dict:=none,data:=.set #[] 0 (.fresh 0 0 bt) }).objs.size,l]:=by
     rw [Heap.size_push]
     intro z
     rcases List.mem_cons.mp z with z | z
     ·exact absurd z (Nat.ne_of_lt (Nat.lt_succ_self _))
     ·exact absurd (List.mem_singleton.mp z) (Nat.ne_of_gt lt0)
    have W:=Walks.tuple (prog:=prog) (w:=w) h3 (s.heap.push { cls:=.type "set",dict:=none,data:=.set #[] 0 (.fresh 0 0 bt) }).objs.size l ne1 its.toArray
    have hW:(fun (i:Nat) (v:Value)=>its.toArray[i]?=some v)=fun i v=>its[i]?=some v:=by funext i v;rw [List.getElem?_toArray]
    rw [hW] at W
    have g1:((s.heap.push { cls:=.type "set",dict:=none,data:=.set #[] 0 (.fresh 0 0 bt) }).push { cls:=.type "tuple_iterator",data:=.fields #[.ref l,.int 0 0] }).get? s.heap.objs.size=some { cls:=.type "set",dict:=none,data:=.set #[] 0 (.fresh 0 0 bt) }:=Heap.get?_push_of_some _ g0
    refine j9 (List.size_toArray) W out hv few (its.length - 0) 0 _ _ #[] 0 (.fresh 0 0 bt) rfl (Nat.zero_le _)
     ⟨⟨_,Heap.get?_push_size _ rfl,rfl,rfl⟩,hl1.push _⟩ g1 (by subst hbt;exact j4 w) fun h' tk o' es' ep' t' kp c1 c2=>?_
    show wpAny _ _ _ _ _ _
    refine wpAny_pure ?_
    show wpAny _ _ (ret Value.none) _ _ _
    refine wpAny_pure ⟨rfl,h',tk,o',es',ep',t',rfl,fun b ob e=>kp b ob (Nat.ne_of_lt (Heap.lt_size e)) ?_ (Heap.get?_push_of_some _ (Heap.get?_push_of_some _ e)),c1,c2⟩
    rw [Heap.size_push];exact Nat.ne_of_lt (Nat.lt_succ_of_lt (Heap.lt_size e))
   ·cases r₂ with
    | error e=>exact hr₂
    | ok fl₂ =>
     cases fl₂ with
     | ret r =>
      obtain⟨rfl,h',tk,o',es',ep',t',rfl,kp,c1,c2⟩:=hr₂
      repeat (any_goals (first | assumption | wp_step))
      exact h h' tk o' es' ep' t' kp c1 c2
     | _=>exact hr₂.elim
  | _=>exact hr.elim
theorem sub_list_set:isSubtype (.type "list") (.type "set")=pure false:=by rw [isSubtype_type];kernel_rfl
theorem oF:isSubtype (.type "list") (.type "frozenset")=pure false:=by rw [isSubtype_type];kernel_rfl
theorem oB {l:Addr}{its:List Value}{ss:List Str}{Q:Value->Shared->Prop}
  (hh:A.handled=none) (hl:s.heap.IsList l its.toArray) (hv:ar (ss.map V.str) its) (few:ss.length + 1 < 4000)
  (h:∀(h':Heap) (tk:Nat) (o':Obj) es' ep' t',(∀b ob,s.heap.get? b=some ob->h'.get? b=some ob)->h'.get? s.heap.objs.size=some o'->aW w o' (aJ ss.reverse) es' ep' t'->Q (.ref s.heap.objs.size) { s with heap:=h',toks:=tk }) :
  wpAny (model prog w) A (call (.type "set") [.ref l]) Q E s:=by
 obtain⟨mro0,mrot,hmro⟩:=PySem.F.called_set.mro
 have made:=PySem.F.called_set.made
 have subs:=PySem.F.called_set.sub
 have nt:=PySem.F.called_set.notType
 have cc:=PySem.F.called_set.canCreate
 have ct:=PySem.F.typeCall_set_1 (.ref l)
 refine wpAny_call (codeAny_of_tree ?_)
 show wpAny _ _ (callAny (.type "set") _) _ _ _
 refine wpAny_pure ⟨Code.quiet_builtin _ (by decide +kernel),codeAny_builtin PySem.F.entry_type_call ?_⟩
 rw [Around.under_plain (weight_type_call_type "set" [.ref l] []) rfl]
 repeat (any_goals (first | assumption | wp_step))
 refine codeAny_mono (lF (.ref l) (E:=E) (Q₁:=fun obj s₁=>obj=.ref s.heap.objs.size/\s₁={ s with heap:=s.heap.push { cls:=.type "set",dict:=none,data:=.set #[] 0 (.fresh 0 0 (!w.params.followText "set-order")) } }) ⟨rfl,rfl⟩) fun r s₁ hr=>?_
 generalize hbt:(!w.params.followText "set-order")=bt at hr
 cases r with
 | error e=>exact hr
 | ok fl =>
  cases fl with
  | ret obj =>
   obtain⟨rfl,rfl⟩:=hr
   have g0:(s.heap.push { cls:=.type "set",dict:=none,data:=.set #[] 0 (.fresh 0 0 bt) }).get? s.heap.objs.size=some { cls:=.type "set",dict:=none,data:=.set #[] 0 (.fresh 0 0 bt) }:=Heap.get?_push_size _ rfl
   have ty:Shared.TypeIs { s with heap:=s.heap.push { cls:=.type "set",dict:=none,data:=.set #[] 0 (.fresh 0 0 bt) } } (.ref s.heap.objs.size) "set":=⟨_,g0,rfl⟩
   have ini:=PySem.F.called_set.init.lookup
   have inb:=PySem.F.called_set.init.bind (.ref s.heap.objs.size)
   repeat (any_goals (first | assumption | wp_step))
   refine codeAny_mono (codeAny_call_builtin (R:=wants (fun r s₂=>r=.none/\∃h' tk o' es' ep' t',s₂={ s with heap:=h',toks:=tk }/\(∀b ob,s.heap.get? b=some ob->h'.get? b=some ob)/\h'.get? s.heap.objs.size=some o'/\aW w o' (aJ ss.reverse) es' ep' t') E)
    PySem.F.called_set.init.plain PySem.F.entry_set_init (check_set_init_1 ty ?_)) fun r₂ s₂ hr₂=>?_
   ·obtain⟨ol,hol,cl,nl,dl⟩:=hl
    obtain⟨c1,c2,c3,c4⟩:=ol
    simp only at cl dl
    subst cl;subst dl
    have hol1:(s.heap.push { cls:=.type "set",dict:=none,data:=.set #[] 0 (.fresh 0 0 bt) }).get? l=some { cls:=.type "list",dict:=c2,data:=.seq its.toArray nl,slots:=c4 }:=Heap.get?_push_of_some _ hol
    have n1:=sub_list_set
    have n2:=oF
    have n3:(Value.type "list" == Value.type "dict")=false:=by decide
    have hl1:(s.heap.push { cls:=.type "set",dict:=none,data:=.set #[] 0 (.fresh 0 0 bt) }).IsList l its.toArray:=⟨_,hol1,rfl,nl,rfl⟩
    unfold Builtin.«set.__init__» noKeywords Builtin.Frozenset.updateFrom
    generalize hpi:pyIter=pit
    wp_walk
    subst hpi
    refine wpAny_pyIter_list hl1 ?_
    refine wpAny_bind (wpAny_runValue ?_)
    have lt0:l < s.heap.objs.size:=Heap.lt_size hol
    have h3:A.in1.in1.in1.handled=none:=by simp [hh]
    have ne1:l≠(s.heap.push { cls:=.type "set",dict:=none,data:=.set #[] 0 (.fresh 0 0 bt) }).objs.size:=by
     rw [Heap.size_push];exact Nat.ne_of_lt (Nat.lt_succ_of_lt lt0)
    have out:s.heap.objs.size∉[(s.heap.push { cls:=.type "set",dict:=none,data:=.set #[] 0 (.fresh 0 0 bt) }).objs.size,l]:=by
     rw [Heap.size_push]
     intro z
     rcases List.mem_cons.mp z with z | z
     ·exact absurd z (Nat.ne_of_lt (Nat.lt_succ_self _))
     ·exact absurd (List.mem_singleton.mp z) (Nat.ne_of_gt lt0)
    have W:=Walks.list (prog:=prog) (w:=w) h3 (s.heap.push { cls:=.type "set",dict:=none,data:=.set #[] 0 (.fresh 0 0 bt) }).objs.size l ne1 its.toArray
    have hW:(fun (i:Nat) (v:Value)=>its.toArray[i]?=some v)=fun i v=>its[i]?=some v:=by funext i v;rw [List.getElem?_toArray]
    rw [hW] at W
    have g1:((s.heap.push { cls:=.type "set",dict:=none,data:=.set #[] 0 (.fresh 0 0 bt) }).push { cls:=.type "list_iterator",data:=.fields #[.ref l,.int 0 0] }).get? s.heap.objs.size=some { cls:=.type "set",dict:=none,data:=.set #[] 0 (.fresh 0 0 bt) }:=Heap.get?_push_of_some _ g0
    refine j9 (List.size_toArray) W out hv few (its.length - 0) 0 _ _ #[] 0 (.fresh 0 0 bt) rfl (Nat.zero_le _)
     ⟨⟨_,Heap.get?_push_size _ rfl,rfl,rfl⟩,hl1.push _⟩ g1 (by subst hbt;exact j4 w) fun h' tk o' es' ep' t' kp c1 c2=>?_
    show wpAny _ _ _ _ _ _
    refine wpAny_pure ?_
    show wpAny _ _ (ret Value.none) _ _ _
    refine wpAny_pure ⟨rfl,h',tk,o',es',ep',t',rfl,fun b ob e=>kp b ob (Nat.ne_of_lt (Heap.lt_size e)) ?_ (Heap.get?_push_of_some _ (Heap.get?_push_of_some _ e)),c1,c2⟩
    rw [Heap.size_push];exact Nat.ne_of_lt (Nat.lt_succ_of_lt (Heap.lt_size e))
   ·cases r₂ with
    | error e=>exact hr₂
    | ok fl₂ =>
     cases fl₂ with
     | ret r =>
      obtain⟨rfl,h',tk,o',es',ep',t',rfl,kp,c1,c2⟩:=hr₂
      repeat (any_goals (first | assumption | wp_step))
      exact h h' tk o' es' ep' t' kp c1 c2
     | _=>exact hr₂.elim
  | _=>exact hr.elim
end
theorem cL:Slot "set_iterator" "__next__" "set_iterator.__next__" :=
 .of (owner:="set_iterator") (n:="__next__") (by rw [typeLookup_type,builtinLookup_eq_fast];kernel_rfl) (by decide +kernel) (by decide +kernel) (by decide +kernel) (by first | exact .inl (by decide +kernel) | exact .inr (by decide +kernel)) (by rw [isSubtype_type];kernel_rfl)
theorem gf:entryFor table "set_iterator.__next__"=some Builtin.«set_iterator.__next__»:=entryFor_of_tree (by kernel_rfl)
theorem kM:Manifest.owners.lookup (String.ofList ['r','o','t','a','r','e','t','i','_','t','e','s'].reverse)=some Manifest.sig_set_iterator:=by kernel_rfl
theorem gg (a:Value):argsOk "set_iterator.__next__" ⟨[a],[]⟩:=by
 unfold argsOk
 rw [signature?_of (id:="set_iterator.__next__") (n:=['_','_','t','x','e','n','_','_']) (o:=['r','o','t','a','r','e','t','i','_','t','e','s']) (by kernel_rfl) kM]
 kernel_rfl
theorem jV:Slot "set_iterator" "__iter__" "set_iterator.__iter__" :=
 .of (owner:="set_iterator") (n:="__iter__") (by rw [typeLookup_type,builtinLookup_eq_fast];kernel_rfl) (by decide +kernel) (by decide +kernel) (by decide +kernel) (by first | exact .inl (by decide +kernel) | exact .inr (by decide +kernel)) (by rw [isSubtype_type];kernel_rfl)
theorem oA (a:Value):argsOk "set_iterator.__iter__" ⟨[a],[]⟩:=by
 unfold argsOk
 rw [signature?_of (id:="set_iterator.__iter__") (n:=['_','_','r','e','t','i','_','_']) (o:=['r','o','t','a','r','e','t','i','_','t','e','s']) (by kernel_rfl) kM]
 kernel_rfl
theorem om:entryFor table "set_iterator.__iter__"=some Builtin.«dict_keyiterator.__iter__» :=
 entryFor_alias (id':="dict_keyiterator.__iter__") (by kernel_rfl) (by first | rfl | decide +kernel | (unfold String.splitOn;simp +decide [String.splitOnAux])) (by decide +kernel) (by kernel_rfl)
theorem oh:entryFor table "set.__iter__"=some Builtin.«frozenset.__iter__» :=
 entryFor_alias (id':="frozenset.__iter__") (by kernel_rfl) (by first | rfl | decide +kernel | (unfold String.splitOn;simp +decide [String.splitOnAux])) (by decide +kernel) (by kernel_rfl)
noncomputable def bY (first:Value) (i:Nat) (a:Addr) (n ep:Nat):Array Value:=#[first,rawInt (i:Int),.ref a,rawInt (n:Int),rawInt (ep:Int)]
noncomputable def bX (h:Heap) (I:Addr) (first:Value) (i:Nat) (a:Addr) (n ep:Nat):Prop:=∃o,h.get? I=some o/\o.cls=.type "set_iterator"/\o.data=.fields (bY first i a n ep)
theorem bX.typ {s:Shared}{I:Addr}{first:Value}{i:Nat}{a:Addr}{n ep:Nat} (x:bX s.heap I first i a n ep):s.TypeIs (.ref I) "set_iterator":=let ⟨o,h1,h2,_⟩:=x;⟨o,h1,h2⟩
theorem bX.stay {h h':Heap}{I:Addr}{first:Value}{i:Nat}{a:Addr}{n ep:Nat} (x:bX h I first i a n ep) (e:∀o,h.get? I=some o->h'.get? I=some o):bX h' I first i a n ep:=let ⟨o,h1,h2⟩:=x;⟨o,e o h1,h2⟩
theorem iB {α:Type}:∀(l:List α) (i:Nat) (h:i < l.length),(l[i]::l.eraseIdx i).Perm l
 | [],_,h=>absurd h (Nat.not_lt_zero _)
 | a::r,0,_=>List.Perm.refl _
 | a::r,i + 1,h=>by
  show (r[i]'(Nat.lt_of_succ_lt_succ h)::a::r.eraseIdx i).Perm (a::r)
  exact (List.Perm.swap _ _ _).trans (List.Perm.cons a (iB r i (Nat.lt_of_succ_lt_succ h)))
section
variable {prog:Program}{w:World}{A:Around}{E:Value->Shared->Prop}{s:Shared}
theorem pw {src:Source}{n:Nat}{Q:Nat->Shared->Prop} (hn:n≠0) (h:∀i d,i < n->Q i { s with drawn:=d }):wpAny (model prog w) A (choose src n) Q E s:=by
 intro Γ p hΓ
 show Sem.wp _ _ (.choose src n .pure) _ _ _ _
 rw [Sem.wp_choose]
 refine⟨hn,?_⟩
 rw [Sem.wp_pure]
 exact h _ _ (Nat.mod_lt _ (Nat.pos_of_ne_zero hn))
theorem pd {α:Type}:∀(n:Nat) (xs:List α) (s:Shared) (Q:List α->Shared->Prop),n=xs.length->(∀ys d,ys.Perm xs->Q ys { s with drawn:=d })->wpAny (model prog w) A (drawOrder n xs) Q E s:=by
 intro n
 induction n with
 | zero =>
  intro xs s Q hn h
  have:xs=[]:=List.length_eq_zero_iff.mp hn.symm
  subst this
  unfold drawOrder
  exact wpAny_pure (h [] s.drawn (List.Perm.refl _))
 | succ n ih =>
  intro xs s Q hn h
  cases xs with
  | nil=>cases hn
  | cons x r =>
   unfold drawOrder
   refine wpAny_bind (pw (by rw [List.length_cons];exact Nat.succ_ne_zero _) fun i d hi=>?_)
   rw [List.getElem?_eq_getElem hi]
   dsimp only
   have hlen:n=((x::r).eraseIdx i).length:=by
    have:=List.length_eraseIdx (l:=x::r) (i:=i)
    rw [if_pos hi] at this
    rw [this];omega
   refine wpAny_bind (ih _ _ _ hlen fun ys d' pm=>wpAny_pure ?_)
   refine h _ d' ?_
   exact (List.Perm.cons _ pm).trans (iB (x::r) i hi)
theorem i5 {I:Addr}{first:Value}{i:Nat}{a:Addr}{n ep:Nat}{Q:Value->Shared->Prop} (x:bX s.heap I first i a n ep) (h:Q (.ref I) s):wpAny (model prog w) A (pyIter (.ref I)) Q E s:=by
 refine wpAny_pyIter_slot x.typ jV (wpAny_call_entry jV x.typ om ?_ (oA _))
 show wpAny _ _ (ret (.ref I)) _ _ s
 exact wpAny_pure ⟨_,rfl,"set_iterator",_,x.typ,cL.lookup,h⟩
theorem kY {Q:Option Value->Shared->Prop}{R:Fin->Shared->Prop} (hh:A.handled=none)
  (hQ:∀h',(∀b o,s.heap.get? b=some o->h'.get? b=some o)->Q none { s with heap:=h' }) :
  wpAny (model prog w) A.in1 (newExc (.type "StopIteration") [] >>= raiseNew) R (fun e s'=>wpAny (model prog w) A (do if <- isInstance e (.type "StopIteration") then pure none else throw e) Q E s') s:=by
 refine wpAny_bind ?_
 simp only [newExc,newTuple]
 refine wpAny_bind (wpAny_newObj_type ?_ (by size_fits))
 refine wpAny_bind (m:=firstArgMember _ _) (wpAny_of_eq (a:=Value.none) (by first | rfl | (simp only [firstArgMember];rfl)) ?_)
 refine wpAny_newObj_type ?_ (by size_fits)
 simp only [raiseNew]
 refine wpAny_bind (wpAny_handled ?_)
 rw [show A.in1.handled=none from hh]
 refine wpAny_bind (wpAny_pure (wpAny_throw ?_))
 refine wpAny_bind (wpAny_isInstance (T:="StopIteration") (b:=true) ⟨_,Heap.get?_push_size _ rfl,rfl⟩ isSubtype_stop ?_)
 exact wpAny_pure (hQ _ fun b o e=>Heap.get?_push_of_some _ (Heap.get?_push_of_some _ e))
end
theorem lb (first:Value) (i:Nat) (a:Addr) (n ep:Nat) (x:Value):(bY first i a n ep).setIfInBounds 0 x=bY x i a n ep:=by simp [bY]
theorem lB (first:Value) (i:Nat) (a:Addr) (n ep:Nat):(bY first i a n ep).setIfInBounds 1 (rawInt ((i:Int) + 1))=bY first (i + 1) a n ep:=by simp [bY]
section
variable {prog:Program}{w:World}{A:Around}{E:Value->Shared->Prop}{s:Shared}
theorem gI {h:Heap}{I:Addr}{first:Value}{i:Nat}{a:Addr}{n ep:Nat}{o:Obj} (ho:h.get? I=some o) (hc:o.cls=.type "set_iterator") (hd:o.data=.fields (bY first i a n ep)) (j:Nat) (y:Value) :
  ∃o',(h.update I (Obj.mapFields (·.setIfInBounds j y))).get? I=some o'/\o'.cls=.type "set_iterator"/\o'.data=.fields ((bY first i a n ep).setIfInBounds j y) :=
 ⟨_,Heap.get?_update_self _ ho (Obj.isFreed_of_fields (Obj.data_mapFields hd _)),(Obj.cls_mapFields ..).trans hc,Obj.data_mapFields hd _⟩
theorem lg {I a:Addr}{o:Obj}{ss:List Str}{es:Array (Int×Value)}{ep:Nat}{t:SetTable}{slot next i:Nat}{v:Value}{Q:Option Value->Shared->Prop}
  (hit:bX s.heap I (rawInt (slot:Int)) i a es.size ep) (hne:a≠I) (ho:s.heap.get? a=some o) (x:aW w o ss es ep t)
  (nx:∀(A:Around) (E:Value->Shared->Prop) (Q:Option (Value×Nat)->Shared->Prop),Q (some (v,next)) s->wpAny (model prog w) A (setNext a slot i ep) Q E s)
  (hQ:∀h',bX h' I (rawInt (next:Int)) (i + 1) a es.size ep->Heap.SameBut I s.heap h'->Q (some v) { s with heap:=h' }):wpAny (model prog w) A (pyNext (.ref I)) Q E s:=by
 obtain⟨oi,hoi,hci,hdi⟩:=id hit
 unfold pyNext
 refine wpAny_bind (wpAny_attempt (wpAny_callSpecial?_slot (name:=Str.ofString "__next__") hit.typ cL (wpAny_call_entry cL hit.typ gf ?_ (gg _))))
 unfold Builtin.«set_iterator.__next__»
 refine wpAny_bind (wpAny_of_eq (a:=(Value.ref I,[])) rfl ?_)
 dsimp only
 refine wpAny_bind (wpAny_fieldsOf hoi hdi ?_)
 show wpAny _ _ (setEntries a >>= _) _ _ s
 refine wpAny_bind (wpAny_setEntries_of ho x.dat x.fit ?_)
 show wpAny _ _ (if ((es.size:Int) != (es.size:Int))=true then _ else _) _ _ s
 rw [if_neg (by simp)]
 show wpAny _ _ (setNext a slot i ep >>= _) _ _ s
 refine wpAny_bind (nx _ _ _ ?_)
 show wpAny _ _ (setField (.ref I) 0 (rawInt (next:Int)) >>= _) _ _ s
 refine wpAny_bind (wpAny_setField hoi hdi (by simp [bY]) ?_)
 obtain⟨o1,g1,c1,d1⟩:=gI hoi hci hdi 0 (rawInt (next:Int))
 rw [lb] at d1
 show wpAny _ _ (setField (.ref I) 1 (rawInt ((i:Int) + 1)) >>= _) _ _ _
 refine wpAny_bind (wpAny_setField g1 d1 (by simp [bY]) ?_)
 obtain⟨o2,g2,c2,d2⟩:=gI g1 c1 d1 1 (rawInt ((i:Int) + 1))
 rw [lB] at d2
 exact wpAny_pure ⟨v,rfl,wpAny_pure (hQ _ ⟨o2,g2,c2,d2⟩ ((Heap.SameBut.update ..).trans (Heap.SameBut.update ..)))⟩
theorem i8 {I a:Addr}{o:Obj}{ss:List Str}{es:Array (Int×Value)}{ep:Nat}{t:SetTable}{slot i:Nat}{Q:Option Value->Shared->Prop} (hh:A.handled=none)
  (hit:bX s.heap I (rawInt (slot:Int)) i a es.size ep) (hne:a≠I) (ho:s.heap.get? a=some o) (x:aW w o ss es ep t)
  (nx:∀(A:Around) (E:Value->Shared->Prop) (Q:Option (Value×Nat)->Shared->Prop),Q none s->wpAny (model prog w) A (setNext a slot i ep) Q E s)
  (hQ:∀h',(∀b o,b≠I->s.heap.get? b=some o->h'.get? b=some o)->Q none { s with heap:=h' }):wpAny (model prog w) A (pyNext (.ref I)) Q E s:=by
 obtain⟨oi,hoi,hci,hdi⟩:=id hit
 unfold pyNext
 refine wpAny_bind (wpAny_attempt (wpAny_callSpecial?_slot (name:=Str.ofString "__next__") hit.typ cL (wpAny_call_entry cL hit.typ gf ?_ (gg _))))
 unfold Builtin.«set_iterator.__next__»
 refine wpAny_bind (wpAny_of_eq (a:=(Value.ref I,[])) rfl ?_)
 dsimp only
 refine wpAny_bind (wpAny_fieldsOf hoi hdi ?_)
 show wpAny _ _ (setEntries a >>= _) _ _ s
 refine wpAny_bind (wpAny_setEntries_of ho x.dat x.fit ?_)
 show wpAny _ _ (if ((es.size:Int) != (es.size:Int))=true then _ else _) _ _ s
 rw [if_neg (by simp)]
 show wpAny _ _ (setNext a slot i ep >>= _) _ _ s
 refine wpAny_bind (nx _ _ _ ?_)
 show wpAny _ _ (setField (.ref I) 2 .none >>= _) _ _ s
 refine wpAny_bind (wpAny_setField hoi hdi (by simp [bY]) ?_)
 refine kY hh fun h' kp=>hQ h' fun b ob hb e=>kp b ob ?_
 exact (Heap.get?_update_other _ _ (Ne.symm hb)).trans e
theorem qe {I a tp:Addr}{o:Obj}{ss:List Str}{es:Array (Int×Value)}{ep:Nat}{t:SetTable}{i p:Nat}{v:Value}{ps:Array Value}{Q:Option Value->Shared->Prop}
  (hit:bX s.heap I (.ref tp) i a es.size ep) (ho:s.heap.get? a=some o) (x:aW w o ss es ep t) (htp:s.heap.IsTuple tp ps) (hp:ps[i]?=some (rawInt (p:Int))) (hv:(es[p]?).map (·.2)=some v)
  (hQ:∀h',bX h' I (.ref tp) (i + 1) a es.size ep->Heap.SameBut I s.heap h'->Q (some v) { s with heap:=h' }):wpAny (model prog w) A (pyNext (.ref I)) Q E s:=by
 obtain⟨oi,hoi,hci,hdi⟩:=id hit
 obtain⟨ot,hot,_,nt,hdt⟩:=htp
 unfold pyNext
 refine wpAny_bind (wpAny_attempt (wpAny_callSpecial?_slot (name:=Str.ofString "__next__") hit.typ cL (wpAny_call_entry cL hit.typ gf ?_ (gg _))))
 unfold Builtin.«set_iterator.__next__»
 refine wpAny_bind (wpAny_of_eq (a:=(Value.ref I,[])) rfl ?_)
 dsimp only
 refine wpAny_bind (wpAny_fieldsOf hoi hdi ?_)
 show wpAny _ _ (setEntries a >>= _) _ _ s
 refine wpAny_bind (wpAny_setEntries_of ho x.dat x.fit ?_)
 show wpAny _ _ (if ((es.size:Int) != (es.size:Int))=true then _ else _) _ _ s
 rw [if_neg (by simp)]
 show wpAny _ _ (seqItems? (.ref tp) >>= _) _ _ s
 refine wpAny_bind (wpAny_seqItems hot hdt ?_)
 dsimp only [Int.toNat_natCast]
 rw [hp]
 dsimp only [rawInt]
 refine wpAny_bind ?_
 unfold setNextDrawn
 refine wpAny_bind (wpAny_setState_of ho x.dat x.fit ?_)
 dsimp only
 rw [if_neg (by simp)]
 try rw [Int.toNat_natCast]
 cases he:es[p]? with
 | none=>rw [he] at hv;cases hv
 | some ev =>
  rw [he] at hv
  cases hv
  refine wpAny_pure ?_
  show wpAny _ _ (setField (.ref I) 1 (rawInt ((i:Int) + 1)) >>= _) _ _ _
  refine wpAny_bind (wpAny_setField hoi hdi (by simp [bY]) ?_)
  obtain⟨o2,g2,c2,d2⟩:=gI hoi hci hdi 1 (rawInt ((i:Int) + 1))
  rw [lB] at d2
  exact wpAny_pure ⟨_,rfl,wpAny_pure (hQ _ ⟨o2,g2,c2,d2⟩ (Heap.SameBut.update ..))⟩
theorem rJ {I a tp:Addr}{o:Obj}{ss:List Str}{es:Array (Int×Value)}{ep:Nat}{t:SetTable}{i:Nat}{ps:Array Value}{Q:Option Value->Shared->Prop} (hh:A.handled=none)
  (hit:bX s.heap I (.ref tp) i a es.size ep) (ho:s.heap.get? a=some o) (x:aW w o ss es ep t) (htp:s.heap.IsTuple tp ps) (hp:ps[i]?=none)
  (hQ:∀h',(∀b o,b≠I->s.heap.get? b=some o->h'.get? b=some o)->Q none { s with heap:=h' }):wpAny (model prog w) A (pyNext (.ref I)) Q E s:=by
 obtain⟨oi,hoi,hci,hdi⟩:=id hit
 obtain⟨ot,hot,_,nt,hdt⟩:=htp
 unfold pyNext
 refine wpAny_bind (wpAny_attempt (wpAny_callSpecial?_slot (name:=Str.ofString "__next__") hit.typ cL (wpAny_call_entry cL hit.typ gf ?_ (gg _))))
 unfold Builtin.«set_iterator.__next__»
 refine wpAny_bind (wpAny_of_eq (a:=(Value.ref I,[])) rfl ?_)
 dsimp only
 refine wpAny_bind (wpAny_fieldsOf hoi hdi ?_)
 show wpAny _ _ (setEntries a >>= _) _ _ s
 refine wpAny_bind (wpAny_setEntries_of ho x.dat x.fit ?_)
 show wpAny _ _ (if ((es.size:Int) != (es.size:Int))=true then _ else _) _ _ s
 rw [if_neg (by simp)]
 show wpAny _ _ (seqItems? (.ref tp) >>= _) _ _ s
 refine wpAny_bind (wpAny_seqItems hot hdt ?_)
 dsimp only [Int.toNat_natCast]
 rw [hp]
 dsimp only
 refine wpAny_bind (wpAny_setField hoi hdi (by simp [bY]) ?_)
 obtain⟨o1,g1,c1,d1⟩:=gI hoi hci hdi 0 (rawInt 0)
 rw [lb] at d1
 refine wpAny_bind (wpAny_setField g1 d1 (by simp [bY]) ?_)
 refine kY hh fun h' kp=>hQ h' fun b ob hb e=>kp b ob ?_
 exact (Heap.get?_update_other _ _ (Ne.symm hb)).trans ((Heap.get?_update_other _ _ (Ne.symm hb)).trans e)
end
theorem tE {α:Type} (next:Nat->Nat):∀(n k:Nat) (left:List α) (out:Array α),n=left.length->(pickOrder.go next n k left out).toList.Perm (out.toList++left):=by
 intro n
 induction n with
 | zero =>
  intro k left out hn
  have:left=[]:=List.length_eq_zero_iff.mp hn.symm
  subst this
  unfold pickOrder.go
  rw [List.append_nil]
 | succ n ih =>
  intro k left out hn
  unfold pickOrder.go
  have hi:next k % left.length < left.length:=Nat.mod_lt _ (by omega)
  rw [List.getElem?_eq_getElem hi]
  dsimp only
  have hl:n=(left.eraseIdx (next k % left.length)).length:=by
   have:=List.length_eraseIdx (l:=left) (i:=next k % left.length)
   rw [if_pos hi] at this
   rw [this];omega
  refine (ih _ _ _ hl).trans ?_
  rw [Array.toList_push,List.append_assoc]
  exact List.Perm.append_left _ (iB left _ hi)
theorem iA {α:Type} (next:Nat->Nat) (xs:Array α):(pickOrder next xs).toList.Perm xs.toList:=by
 unfold pickOrder
 have:=tE next xs.size 0 xs.toList #[] (Array.length_toList).symm
 simpa using this
section
variable {prog:Program}{w:World}{A:Around}{E:Value->Shared->Prop}{s:Shared}
theorem me {a:Addr}{o:Obj}{ss:List Str}{es:Array (Int×Value)}{ep slot i:Nat}{t:SetTable} (hb:w.params.followText "set-order"=true) (ho:s.heap.get? a=some o) (x:aW w o ss es ep t) {Q:Option (Value×Nat)->Shared->Prop}
  (h:Q (((pickOrder (w.params.setOrder a ep) es)[i]?).map fun e=>(e.2,slot)) s):wpAny (model prog w) A (setNext a slot i ep) Q E s:=by
 unfold setNext
 refine wpAny_bind (wpAny_setState_of ho x.dat x.fit ?_)
 dsimp only
 unfold setsByText
 refine wpAny_bind (wpAny_bind (wpAny_askSetting (wpAny_pure ?_)))
 show wpAny _ _ (if w.params.followText "set-order"=true then _ else _) _ _ s
 rw [if_pos hb,if_neg (by simp)]
 unfold setWalk
 refine wpAny_bind ?_
 refine wpAny_bind (wpAny_setState_of ho x.dat x.fit ?_)
 dsimp only
 unfold setsByText
 refine wpAny_bind (wpAny_bind (wpAny_askSetting (wpAny_pure ?_)))
 show wpAny _ _ (if w.params.followText "set-order"=true then _ else _) _ _ s
 rw [if_pos hb]
 exact wpAny_bind (wpAny_askSetting (wpAny_pure (wpAny_pure h)))
theorem jn {a:Addr}{o:Obj}{ss:List Str}{es:Array (Int×Value)}{ep slot i:Nat}{t:SetTable} (hb:w.params.followText "set-order"=false) (ho:s.heap.get? a=some o) (x:aW w o ss es ep t) (h1:es.size<=1) {Q:Option (Value×Nat)->Shared->Prop}
  (h:Q (match es[SetTable.below t.place slot]?,t.place[SetTable.below t.place slot]? with | some (_,x),some j=>some (x,j + 1) | _,_=>none) s):wpAny (model prog w) A (setNext a slot i ep) Q E s:=by
 have hl:t.led=true:=by rw [x.led,hb];rfl
 unfold setNext
 refine wpAny_bind (wpAny_setState_of ho x.dat x.fit ?_)
 dsimp only
 unfold setsByText
 refine wpAny_bind (wpAny_bind (wpAny_askSetting (wpAny_pure ?_)))
 show wpAny _ _ (if w.params.followText "set-order"=true then _ else if (!t.plain && decide (es.size > 1))=true then _ else _) _ _ s
 rw [if_neg (by rw [hb];exact Bool.false_ne_true),if_neg (by rw [decide_eq_false (Nat.not_lt.mpr h1),Bool.and_false];exact Bool.false_ne_true)]
 refine wpAny_bind (show wpAny _ _ (if (!t.led && !es.isEmpty)=true then unsupported "set:maker-not-led" else pure ()) _ _ s from ?_)
 rw [if_neg (by rw [hl];exact Bool.false_ne_true)]
 exact wpAny_pure (wpAny_pure h)
structure sC (prog:Program) (w:World) (A:Around) (s s₁:Shared) (a I:Addr) (ss:List Str) (fp:List Addr) (ws:List Value) (St:Nat->Heap->Prop):Prop where
 os:s₁.os=s.os
 gens:s₁.gens=s.gens
 toks:s₁.toks=s.toks
 keep:∀b o,s.heap.get? b=some o->s₁.heap.get? b=some o
 new:∀b∈fp,b=a\/s.heap.objs.size<=b
 newI:s.heap.objs.size<=I
 wk:Walks prog w A I fp [I] ss.length (fun i v=>ws[i]?=some v) St
 st:St 0 s₁.heap
 txt:∃ss',StrsAre ws ss'/\ss'.Perm ss
theorem iH {o:Obj}{ss:List Str}{es:Array (Int×Value)}{ep:Nat}{t:SetTable} (x:aW w o ss es ep t) {L:List (Int×Value)} (p:L.Perm es.toList):∃ss',StrsAre (L.map (·.2)) ss'/\ss'.Perm ss:=by
 refine⟨L.map fun e=>b7 e.2,?_,(p.map _).trans x.all⟩
 have:∀e∈L,∃tk,e.2=.str (b7 e.2) tk:=fun e he=>let ⟨tk,h,_⟩:=x.els e (p.mem_iff.mp he);⟨tk,h⟩
 clear p
 induction L with
 | nil=>exact .nil
 | cons e r ih =>
  obtain⟨tk,h⟩:=this e (.head _)
  have q:=ih fun e he=>this e (.tail _ he)
  show StrsAre (e.2::r.map (·.2)) (b7 e.2::r.map fun e=>b7 e.2)
  rw [h]
  exact .cons _ tk q
end
section
variable {prog:Program}{w:World}{A:Around}{E:Value->Shared->Prop}{s:Shared}
theorem qB {a I:Addr}{o:Obj}{ss:List Str}{es:Array (Int×Value)}{ep:Nat}{t:SetTable} (hh:A.handled=none) (hb:w.params.followText "set-order"=true) (x:aW w o ss es ep t) (hne:a≠I) :
  Walks prog w A I [I,a] [I] ss.length (fun i v=>((pickOrder (w.params.setOrder a ep) es).toList.map (·.2))[i]?=some v) (fun i h=>bX h I (rawInt 0) i a es.size ep/\h.get? a=some o) where
 sub:=fun b hb=>by rw [List.mem_singleton.mp hb];exact .head _
 frame:=fun i h h' st kp=>⟨st.1.stay fun o e=>kp I (.head _) o e,kp a (.tail _ (.head _)) o st.2⟩
 item:=fun i s Q E hi st hQ=>by
  have hl:(pickOrder (w.params.setOrder a ep) es).size=ss.length:=by
   have:=(iA (w.params.setOrder a ep) es).length_eq
   rw [Array.length_toList,Array.length_toList,x.size] at this;exact this
  have hi':i < (pickOrder (w.params.setOrder a ep) es).size:=by omega
  have e1:(pickOrder (w.params.setOrder a ep) es)[i]?=some (pickOrder (w.params.setOrder a ep) es)[i]:=Array.getElem?_eq_getElem hi'
  refine lg (slot:=0) (next:=0) (v:=((pickOrder (w.params.setOrder a ep) es)[i]).2) st.1 hne st.2 x (fun A E Q q=>me hb st.2 x (by rw [e1];exact q)) fun h' hit' sb=>?_
  refine hQ _ h' s.toks (by rw [List.getElem?_map,Array.getElem?_toList,e1];rfl) ⟨hit',(sb.2 a hne).trans st.2⟩ fun b ob hb e=>(sb.2 b (by simpa using hb)).trans e
 done:=fun s Q E st hQ=>by
  have hl:(pickOrder (w.params.setOrder a ep) es).size=ss.length:=by
   have:=(iA (w.params.setOrder a ep) es).length_eq
   rw [Array.length_toList,Array.length_toList,x.size] at this;exact this
  have e1:(pickOrder (w.params.setOrder a ep) es)[ss.length]?=none:=by rw [<- hl];simp
  exact i8 (slot:=0) hh st.1 hne st.2 x (fun A E Q q=>me hb st.2 x (by rw [e1];exact q)) fun h' kp=>hQ h' s.toks fun b ob hb e=>kp b ob (by simpa using hb) e
 self:=fun i s Q E st hQ=>i5 st.1 hQ
theorem pL {a I tp:Addr}{o:Obj}{ss:List Str}{es:Array (Int×Value)}{ep:Nat}{t:SetTable}{ps:List Nat} (hh:A.handled=none) (x:aW w o ss es ep t) (hne:a≠I) (hnt:tp≠I) (hps:ps.Perm (List.range es.size)) :
  Walks prog w A I [I,a,tp] [I] ss.length (fun i v=>(ps.map fun p=>(es.getD p (0,.none)).2)[i]?=some v) (fun i h=>bX h I (.ref tp) i a es.size ep/\h.get? a=some o/\h.IsTuple tp (ps.map fun (p:Nat)=>rawInt (p:Int)).toArray) where
 sub:=fun b hb=>by rw [List.mem_singleton.mp hb];exact .head _
 frame:=fun i h h' st kp=>⟨st.1.stay fun o e=>kp I (.head _) o e,kp a (.tail _ (.head _)) o st.2.1,st.2.2.at fun o e=>kp tp (.tail _ (.tail _ (.head _))) o e⟩
 item:=fun i s Q E hi st hQ=>by
  have hl:ps.length=ss.length:=by have:=hps.length_eq;rw [List.length_range,x.size] at this;exact this
  have hi':i < ps.length:=by omega
  have hp:ps[i] < es.size:=List.mem_range.mp (hps.mem_iff.mp (List.getElem_mem hi'))
  have e1:(ps.map fun (p:Nat)=>rawInt (p:Int)).toArray[i]?=some (rawInt (ps[i]:Int)):=by rw [List.getElem?_toArray,List.getElem?_map,List.getElem?_eq_getElem hi'];rfl
  have e2:es[ps[i]]?=some es[ps[i]]:=Array.getElem?_eq_getElem hp
  refine qe (p:=ps[i]) (v:=(es[ps[i]]).2) st.1 st.2.1 x st.2.2 e1 (by rw [e2];rfl) fun h' hit' sb=>?_
  refine hQ _ h' s.toks ?_ ⟨hit',(sb.2 a hne).trans st.2.1,st.2.2.at fun o e=>(sb.2 tp hnt).trans e⟩ fun b ob hb e=>(sb.2 b (by simpa using hb)).trans e
  rw [List.getElem?_map,List.getElem?_eq_getElem hi']
  show some (es.getD ps[i] (0,.none)).2=_
  rw [Array.getD_eq_getD_getElem?,e2];rfl
 done:=fun s Q E st hQ=>by
  have hl:ps.length=ss.length:=by have:=hps.length_eq;rw [List.length_range,x.size] at this;exact this
  have e1:(ps.map fun (p:Nat)=>rawInt (p:Int)).toArray[ss.length]?=none:=by rw [<- hl];simp
  exact rJ hh st.1 st.2.1 x st.2.2 e1 fun h' kp=>hQ h' s.toks fun b ob hb e=>kp b ob (by simpa using hb) e
 self:=fun i s Q E st hQ=>i5 st.1 hQ
theorem pE {p:Array Nat} (h:p.size=1):SetTable.below p 0=0:=by
 unfold SetTable.below
 rw [h]
 show (if 0 < 1 then if p.getD 0 0 < 0 then _ else _ else _)=0
 rw [if_pos (by decide),if_neg (Nat.not_lt_zero _)]
 rfl
theorem pB {p:Array Nat}{j:Nat} (h:p.size=1) (hj:p[0]?=some j):SetTable.below p (j + 1)=1:=by
 unfold SetTable.below
 rw [h]
 show (if 0 < 1 then if p.getD 0 (j + 1) < j + 1 then _ else _ else _)=1
 rw [if_pos (by decide),if_pos (by rw [Array.getD_eq_getD_getElem?,hj];exact Nat.lt_succ_self j)]
 rfl
theorem qw {p:Array Nat} (j:Nat) (h:p.size=0):SetTable.below p j=0:=by
 unfold SetTable.below
 rw [h];rfl
theorem rZ {a I:Addr}{o:Obj}{ss:List Str}{es:Array (Int×Value)}{ep:Nat}{t:SetTable} (hh:A.handled=none) (hb:w.params.followText "set-order"=false) (x:aW w o ss es ep t) (h1:es.size<=1) (hne:a≠I) :
  Walks prog w A I [I,a] [I] ss.length (fun i v=>(es.toList.map (·.2))[i]?=some v) (fun i h=>bX h I (rawInt ((if i=0 then 0 else t.place.getD 0 0 + 1:Nat):Int)) i a es.size ep/\h.get? a=some o) where
 sub:=fun b hb=>by rw [List.mem_singleton.mp hb];exact .head _
 frame:=fun i h h' st kp=>⟨st.1.stay fun o e=>kp I (.head _) o e,kp a (.tail _ (.head _)) o st.2⟩
 item:=fun i s Q E hi st hQ=>by
  have hs:=x.size
  have hi0:i=0:=by omega
  subst hi0
  have hz:es.size=1:=by omega
  have hpz:t.place.size=1:=by
   have:=x.fit
   unfold SetTable.fits at this
   rw [hz] at this
   simp at this;exact this.1
  have hp0:t.place[0]?=some t.place[0]:=Array.getElem?_eq_getElem (by omega)
  have he0:es[0]?=some es[0]:=Array.getElem?_eq_getElem (by omega)
  have hd0:t.place.getD 0 0=t.place[0]:=by rw [Array.getD_eq_getD_getElem?,hp0];rfl
  refine lg (slot:=0) (next:=t.place[0] + 1) (v:=(es[0]).2) st.1 hne st.2 x (fun A E Q q=>jn hb st.2 x h1 (by rw [pE hpz,hp0,he0];exact q)) fun h' hit' sb=>?_
  refine hQ _ h' s.toks (by rw [List.getElem?_map,Array.getElem?_toList,he0];rfl) ⟨?_,(sb.2 a hne).trans st.2⟩ fun b ob hb e=>(sb.2 b (by simpa using hb)).trans e
  rw [if_neg (Nat.succ_ne_zero _),hd0]
  exact hit'
 done:=fun s Q E st hQ=>by
  have hs:=x.size
  have hpz:t.place.size=es.size:=by
   have:=x.fit
   unfold SetTable.fits at this
   simp at this;exact this.1
  by_cases hz:es.size=0
  ·have e0:ss.length=0:=by omega
   rw [e0,if_pos rfl] at st
   have:es[0]?=none:=Array.getElem?_eq_none (by omega)
   exact i8 (slot:=0) hh st.1 hne st.2 x (fun A E Q q=>jn hb st.2 x h1 (by rw [qw 0 (by omega),this];exact q)) fun h' kp=>hQ h' s.toks fun b ob hb e=>kp b ob (by simpa using hb) e
  ·have hz1:es.size=1:=by omega
   have e0:ss.length=1:=by omega
   rw [e0,if_neg (by decide)] at st
   have hp0:t.place[0]?=some t.place[0]:=Array.getElem?_eq_getElem (by omega)
   have hd0:t.place.getD 0 0=t.place[0]:=by rw [Array.getD_eq_getD_getElem?,hp0];rfl
   rw [hd0] at st
   have:es[1]?=none:=Array.getElem?_eq_none (by omega)
   exact i8 (slot:=t.place[0] + 1) hh st.1 hne st.2 x (fun A E Q q=>jn hb st.2 x h1 (by rw [pB (by omega) hp0,this];exact q)) fun h' kp=>hQ h' s.toks fun b ob hb e=>kp b ob (by simpa using hb) e
 self:=fun i s Q E st hQ=>i5 st.1 hQ
end
theorem pk (es:Array (Int×Value)):(List.range es.size).map (fun p=>es.getD p (0,.none))=es.toList:=by
 apply List.ext_getElem
 ·simp
 ·intro i h1 h2
  simp at h1
  simp [h1]
section
variable {prog:Program}{w:World}{A:Around}{E:Value->Shared->Prop}{s:Shared}
theorem pD {a:Addr}{o:Obj}{ss:List Str}{es:Array (Int×Value)}{ep:Nat}{t:SetTable}{Q:Value->Shared->Prop} (hh:A.handled=none) (ho:s.heap.get? a=some o) (x:aW w o ss es ep t)
  (h:∀(s₁:Shared) (I:Addr) (fp:List Addr) (ws:List Value) (St:Nat->Heap->Prop),sC prog w A s s₁ a I ss fp ws St->Q (.ref I) s₁):wpAny (model prog w) A (pyIter (.ref a)) Q E s:=by
 have hT:s.TypeIs (.ref a) "set":=⟨o,ho,x.cls⟩
 have hla:a < s.heap.objs.size:=Heap.lt_size ho
 refine wpAny_pyIter_slot hT PySem.F.slot_set_iter (wpAny_call_entry PySem.F.slot_set_iter hT oh ?_ (PySem.F.args_set_iter_1 _))
 unfold Builtin.«frozenset.__iter__» Builtin.Frozenset.slot0
 refine wpAny_bind (wpAny_bind (wpAny_of_eq (a:=(Value.ref a,[])) rfl (wpAny_pure ?_)))
 unfold Builtin.Frozenset.sizeOf
 refine wpAny_bind (wpAny_bind (wpAny_setEntries_of ho x.dat x.fit (wpAny_pure ?_)))
 unfold setDrawn
 refine wpAny_bind ?_
 refine wpAny_bind (wpAny_setState_of ho x.dat x.fit ?_)
 dsimp only
 unfold setsByText
 refine wpAny_bind (wpAny_bind (wpAny_askSetting (wpAny_pure (wpAny_pure ?_))))
 show wpAny _ _ (if (!w.params.followText "set-order" && (!t.plain && decide (es.size > 1)))=true then _ else _) _ _ s
 by_cases hc:(!w.params.followText "set-order" && (!t.plain && decide (es.size > 1)))=true
 ·rw [if_pos hc]
  refine wpAny_bind (pd es.size (List.range es.size) s _ (List.length_range).symm fun ps d hps=>?_)
  have hpl:ps.length=ss.length:=by have:=hps.length_eq;rw [List.length_range,x.size] at this;exact this
  have hfew:=x.few
  refine wpAny_bind (wpAny_newTuple (items:=ps.map fun (i:Nat)=>rawInt (i:Int)) ?_ (by rw [List.length_map,sizeLine_eq];omega))
  have ho1:(s.heap.push { cls:=.type "tuple",data:=.seq (ps.map fun (i:Nat)=>rawInt (i:Int)).toArray }).get? a=some o:=Heap.get?_push_of_some _ ho
  refine wpAny_bind (wpAny_setEpoch_of (s:={ s with heap:=s.heap.push { cls:=.type "tuple",data:=.seq (ps.map fun (i:Nat)=>rawInt (i:Int)).toArray },drawn:=d }) ho1 x.dat x.fit ?_)
  refine wpAny_bind (wpAny_newObj_type (wpAny_pure ⟨_,rfl,"set_iterator",_,⟨_,Heap.get?_push_size _ rfl,rfl⟩,cL.lookup,?_⟩))
  have hsz:(s.heap.push { cls:=.type "tuple",data:=.seq (ps.map fun (i:Nat)=>rawInt (i:Int)).toArray }).objs.size=s.heap.objs.size + 1:=size_push' ..
  have hI:a≠(s.heap.push { cls:=.type "tuple",data:=.seq (ps.map fun (i:Nat)=>rawInt (i:Int)).toArray }).objs.size:=by rw [hsz];exact Nat.ne_of_lt (Nat.lt_succ_of_lt hla)
  have hI2:s.heap.objs.size≠(s.heap.push { cls:=.type "tuple",data:=.seq (ps.map fun (i:Nat)=>rawInt (i:Int)).toArray }).objs.size:=by rw [hsz];exact Nat.ne_of_lt (Nat.lt_succ_self _)
  have W:=pL (prog:=prog) (A:=A) hh x hI hI2 hps
  refine h _ _ _ _ _ ⟨rfl,rfl,rfl,fun b ob e=>Heap.get?_push_of_some _ (Heap.get?_push_of_some _ e),fun b hb=>?_,?_,W,?_,?_⟩
  ·rcases List.mem_cons.mp hb with e | hb
   ·rw [e,hsz];exact .inr (Nat.le_succ _)
   ·rcases List.mem_cons.mp hb with e | hb
    ·exact .inl e
    ·rw [List.mem_singleton.mp hb];exact .inr (Nat.le_refl _)
  ·rw [hsz];exact Nat.le_succ _
  ·exact⟨⟨_,Heap.get?_push_size _ rfl,rfl,rfl⟩,Heap.get?_push_of_some _ ho1,⟨_,Heap.get?_push_of_some _ (Heap.get?_push_size _ rfl),rfl,_,rfl⟩⟩
  ·have e1:(ps.map fun p=>(es.getD p (0,.none)).2)=(ps.map fun p=>es.getD p (0,.none)).map (·.2):=by rw [List.map_map];rfl
   rw [e1]
   refine iH x ?_
   have:=hps.map fun p=>es.getD p ((0:Int),Value.none)
   rw [pk] at this;exact this
 ·rw [if_neg hc]
  refine wpAny_bind (wpAny_pure ?_)
  refine wpAny_bind (wpAny_setEpoch_of ho x.dat x.fit ?_)
  refine wpAny_bind (wpAny_newObj_type (wpAny_pure ⟨_,rfl,"set_iterator",_,⟨_,Heap.get?_push_size _ rfl,rfl⟩,cL.lookup,?_⟩))
  have hI:a≠s.heap.objs.size:=Nat.ne_of_lt hla
  have nw:∀b∈[s.heap.objs.size,a],b=a\/s.heap.objs.size<=b:=fun b hb=>by
   rcases List.mem_cons.mp hb with e | hb
   ·rw [e];exact .inr (Nat.le_refl _)
   ·exact .inl (List.mem_singleton.mp hb)
  cases hb:w.params.followText "set-order" with
  | true=>exact h _ _ _ _ _ ⟨rfl,rfl,rfl,fun b ob e=>Heap.get?_push_of_some _ e,nw,Nat.le_refl _,qB hh hb x hI,⟨⟨_,Heap.get?_push_size _ rfl,rfl,rfl⟩,Heap.get?_push_of_some _ ho⟩,iH x (iA _ es)⟩
  | false =>
   have h1:es.size<=1:=by
    rcases x.pla with z | z
    ·omega
    ·rw [hb,z] at hc
     simp at hc;omega
   exact h _ _ _ _ _ ⟨rfl,rfl,rfl,fun b ob e=>Heap.get?_push_of_some _ e,nw,Nat.le_refl _,rZ hh hb x h1 hI,⟨⟨_,Heap.get?_push_size _ rfl,rfl,rfl⟩,Heap.get?_push_of_some _ ho⟩,iH x (List.Perm.refl _)⟩
theorem oM:typeLookup (.type "set") "__len__"=pure (some (.builtin "set.__len__")):=by rw [typeLookup_type,builtinLookup_eq_fast];kernel_rfl
theorem qU {r:Addr}{Q:Bool->Shared->Prop} (hT:s.TypeIs (.ref r) "set") (h:∀b,Q b s):wpAny (model prog w) A (Builtin.List.listLengthHint (.ref r)) Q E s:=by
 unfold Builtin.List.listLengthHint
 refine wpAny_bind (wpAny_specialOf hT oM ?_)
 generalize hid:("set.__len__":String)=id0
 wp_delta
 rw [show splitId id0=some ("set","__len__") from by subst hid;decide +kernel]
 subst hid
 refine wpAny_bind (wpAny_isInstance (T:="set") (b:=true) hT (by rw [isSubtype_type];kernel_rfl) ?_)
 refine wpAny_ite_split (fun z=>absurd z (by decide)) (fun _=>?_)
 refine wpAny_ite_split (fun _=>?_) (fun z=>absurd (by decide +kernel) z)
 refine wpAny_bind (wpAny_typeOf hT ?_)
 exact wpAny_pure (h _)
end
section
variable {prog:Program}{w:World}{A:Around}{E:Value->Shared->Prop}{s:Shared}
theorem rX {ws:List Value}{n:Nat}{acc:Array Value} (hw:ws.length=n) (h:ItemsOf (fun i v=>ws[i]?=some v) acc n):acc.toList=ws:=by
 apply List.ext_getElem?
 intro i
 by_cases hi:i < acc.size
 ·have e:acc.toList[i]?=some acc[i]:=by rw [Array.getElem?_toList];exact Array.getElem?_eq_getElem hi
  rw [e]
  exact (h.2 i acc[i] (Array.getElem?_eq_getElem hi)).symm
 ·have h1:=h.1
  rw [List.getElem?_eq_none (by rw [Array.length_toList];omega),List.getElem?_eq_none (by omega)]
theorem oP {R:Result->Shared->Prop}{a S:Addr}{o:Obj}{ss:List Str}{es:Array (Int×Value)}{ep:Nat}{t:SetTable} (hh:A.handled=none) (ho:s.heap.get? a=some o) (x:aW w o ss es ep t) (res:Value) (c₀:Nat)
  (hSa:S≠a) (hS:s.heap.get? S=some { cls:=.type "list",data:=.seq #[] c₀ })
  (hR:∀(s':Shared) acc c' ss',s'.os=s.os->s'.gens=s.gens->(∀b o,b≠S->s.heap.get? b=some o->s'.heap.get? b=some o)->s'.heap.get? S=some { cls:=.type "list",dict:=none,data:=.seq acc c',slots:=#[] }->StrsAre acc.toList ss'->ss'.Perm ss->R (.ok (.ret res)) s') :
  wpAny (model prog w) A.in1 (Builtin.List.listExtendWith (.ref S) (.ref a) res)
   (fun fin s'=>match fin with | .done f=>R (.ok f) s' | .again c'=>c'.quiet=true/\codeAny (model prog w) A c' R s') (fun e s'=>R (.error e) s') s:=by
 have hT:s.TypeIs (.ref a) "set":=⟨o,ho,x.cls⟩
 have hSlt:S < s.heap.objs.size:=Heap.lt_size hS
 have hfew:=x.few
 unfold Builtin.List.listExtendWith
 refine wpAny_bind (wpAny_typeOf (T:="set") hT ?_)
 have n1:Builtin.List.listSameRef (.ref S) (.ref a)=false:=by simp [Builtin.List.listSameRef,hSa]
 have n2:(Value.type "set" == Value.type "list")=false:=by decide
 have n3:(Value.type "set" == Value.type "tuple")=false:=by decide
 simp only [n1,n2,n3,Bool.or_false,Bool.false_eq_true,if_false]
 refine wpAny_bind (pD (A:=A.in1) hh ho x fun s₁ I fp ws St K=>?_)
 obtain⟨ss',hw1,hw2⟩:=K.txt
 have hws:ws.length=ss.length:=by rw [StrsAre.length hw1];exact hw2.length_eq
 have hSf:S∉fp:=fun z=>(K.new S z).elim hSa fun q=>Nat.lt_irrefl _ (Nat.lt_of_lt_of_le hSlt q)
 have hSI:S≠I:=fun e=>Nat.lt_irrefl _ (Nat.lt_of_lt_of_le hSlt (e ▸ K.newI))
 have hn:ss.length<=sizeLine:=by rw [sizeLine_eq];omega
 have key:∀(h:Heap) (c₁:Nat),St 0 h->(∀b o,b≠S->s₁.heap.get? b=some o->h.get? b=some o)->h.get? S=some { cls:=.type "list",data:=.seq #[] c₁ } ->
   codeAny (model prog w) A (.builtin "list.extend.loop" ⟨[.ref S,.ref I,res],[]⟩) R { s₁ with heap:=h }:=by
  intro h c₁ st hk hS1
  refine codeAny_extend_loopS K.wk.toS hn S hSf res ss.length 0 _ #[] c₁ rfl (Nat.zero_le _) st hS1 (ItemsOf.nil _) fun s' acc c' hm hS' hacc=>?_
  rw [<- rX hws hacc] at hw1
  refine hR s' acc c' ss' (hm.os.trans K.os) ((show s'.gens=s₁.gens from hm.gens).trans K.gens) (fun b ob hb e=>hm.heap b ob (fun z=>?_) (hk b ob hb (K.keep b ob e))) hS' hw1 hw2
  rcases List.mem_cons.mp z with z | z
  ·exact hb z
  ·exact absurd (Heap.lt_size e) (by rw [List.mem_singleton.mp z];exact Nat.not_lt.mpr K.newI)
 have hS1:=K.keep _ _ hS
 have hT1:s₁.TypeIs (.ref a) "set":=⟨o,K.keep _ _ ho,x.cls⟩
 refine wpAny_bind (wpAny_holding (qU hT1 fun hb=>?_))
 refine wpAny_ite_split (fun _=>?_) (fun _=>wpAny_pure ⟨plainId_quiet PySem.F.plain_extend_loop _,key _ c₀ K.st (fun b ob _ e=>e) hS1⟩)
 refine wpAny_bind (wpAny_rule ?_)
 refine wpAny_bind ?_
 show wpAny _ _ (updateSeq S (·.push .none) >>= fun _=>updateSeq S (·.pop)) _ _ _
 refine wpAny_bind (wpAny_updateSeq hS1 rfl ?_)
 have hS2:=Heap.get?_update_self (Obj.mapSeq (·.push Value.none)) hS1 rfl
 refine wpAny_updateSeq (hz:=by seq_fits) hS2 rfl ?_
 have hS3:=Heap.get?_update_self (Obj.mapSeq (·.pop)) hS2 rfl
 refine wpAny_pure ⟨plainId_quiet PySem.F.plain_extend_loop _,key _ _ (K.wk.frame 0 _ _ K.st fun b hb ob e=>?_) (fun b ob hb e=>?_) hS3⟩
 ·have hbS:b≠S:=fun z=>hSf (z ▸ hb)
  exact (Heap.get?_update_other _ _ (Ne.symm hbS)).trans ((Heap.get?_update_other _ _ (Ne.symm hbS)).trans e)
 ·exact (Heap.get?_update_other _ _ (Ne.symm hb)).trans ((Heap.get?_update_other _ _ (Ne.symm hb)).trans e)
theorem oq {R:List Value->Shared->Prop}{a:Addr}{o:Obj}{ss:List Str}{es:Array (Int×Value)}{ep:Nat}{t:SetTable} (hh:A.handled=none) (ho:s.heap.get? a=some o) (x:aW w o ss es ep t)
  (h:∀(s':Shared) (acc:List Value) ss',s'.os=s.os->s'.gens=s.gens->(∀b o,s.heap.get? b=some o->s'.heap.get? b=some o)->StrsAre acc ss'->ss'.Perm ss->R acc s') :
  wpAny (model prog w) A (collect (.ref a)) R E s:=by
 unfold collect
 refine wpAny_bind (wpAny_runValue (codeAny_builtin entry_proto_collect' ?_))
 rw [Around.under_plainId PySem.F.plain_proto_collect _]
 show wpAny _ A.in1 (newList [] >>= fun l=>again (.builtin "list.__iadd__" ⟨[l,.ref a],[]⟩)) _ _ s
 refine wpAny_bind (wpAny_newObj_type ?_)
 refine wpAny_pure ⟨plainId_quiet PySem.F.plain_list_iadd _,codeAny_builtin entry_list_iadd' ?_⟩
 rw [Around.under_plainId PySem.F.plain_list_iadd _]
 have hS1:(s.heap.push { cls:=.type "list",data:=.seq ([]:List Value).toArray }).get? s.heap.objs.size=some { cls:=.type "list",data:=.seq #[] }:=Heap.get?_push_size _ rfl
 have hla:s.heap.objs.size≠a:=Nat.ne_of_gt (Heap.lt_size ho)
 show wpAny _ A.in1 (Builtin.List.listExtendWith (.ref s.heap.objs.size) (.ref a) (.ref s.heap.objs.size)) _ _ _
 have key:=oP (prog:=prog) (A:=A) (s:={ s with heap:=s.heap.push { cls:=.type "list",data:=.seq ([]:List Value).toArray } })
  (R:=fun (q:Result) (s':Shared)=>∃(acc:Array Value) (c':Nat) (ss':List Str),q=.ok (.ret (.ref s.heap.objs.size))/\s'.os=s.os/\s'.gens=s.gens /\
   (∀b o,s.heap.get? b=some o->s'.heap.get? b=some o)/\s'.heap.get? s.heap.objs.size=some { cls:=.type "list",dict:=none,data:=.seq acc c',slots:=#[] }/\StrsAre acc.toList ss'/\ss'.Perm ss)
  hh (Heap.get?_push_of_some _ ho) x (.ref s.heap.objs.size) 0 hla hS1
  (fun s' acc c' ss' z1 z2 z3 z4 z5 z6=>⟨acc,c',ss',rfl,z1,z2,fun b ob e=>z3 b ob (Nat.ne_of_lt (Heap.lt_size e)) (Heap.get?_push_of_some _ e),z4,z5,z6⟩)
 refine wpAny_mono key (fun fin s' y=>?_) fun e s' y=>?_
 ·cases fin with
  | done f =>
   obtain⟨acc,c',ss',e,z1,z2,z3,z4,z5,z6⟩:=y
   cases e
   show wpAny _ A (load s.heap.objs.size >>= _) _ _ _
   exact wpAny_bind (wpAny_load z4 (wpAny_pure (h s' acc.toList ss' z1 z2 z3 z5 z6)))
  | again c₁ =>
   refine⟨y.1,codeAny_mono y.2 fun q s₂ y=>?_⟩
   obtain⟨acc,c',ss',rfl,z1,z2,z3,z4,z5,z6⟩:=y
   show wpAny _ A (load s.heap.objs.size >>= _) _ _ _
   exact wpAny_bind (wpAny_load z4 (wpAny_pure (h s₂ acc.toList ss' z1 z2 z3 z5 z6)))
 ·obtain⟨_,_,_,e',_⟩:=y
  cases e'
end
noncomputable def bD (w:World) (a:Addr) (ss:List Str):HO:=.ext fun h=>∃o es ep t,h.get? a=some o/\aW w o ss es ep t
section
variable {X:Cx}
theorem lQ {P:Program}{w:World}{H:Hp}{h:Heap}{a:Addr}{ss:List Str}{o:Obj}{es:Array (Int×Value)}{ep:Nat}{t:SetTable} (ho:h.get? a=some o) (x:aW w o ss es ep t):aQ P w H h a (bD w a ss) :=
 ⟨⟨o,es,ep,t,ho,x⟩,⟨o,ho⟩,fun h1 h2 ⟨o,es,ep,t,q,y⟩ k=>⟨o,es,ep,t,k o q,y⟩⟩
theorem Inv.draw {pins:List (Addr×Obj)}{σ:List (Option V)}{H:Hp}{s s':Shared} (I:Inv X pins σ H s) (h1:s'.os=s.os) (h2:s'.gens=s.gens) (h3:s'.heap=s.heap):Inv X pins σ H s':=by
 obtain⟨a1,a2,a3,a4,a5,a6,a7,a8,a9,a10,a11⟩:=I
 exact⟨a1,h1.trans a2,by rw [h2];exact a3,by rw [h3];exact a4,by rw [h3];exact a5,by rw [h3];exact a6,a7,a8,by rw [h3];exact a9,by rw [h3];exact a10,a11⟩
theorem pj (hc:X.calm=true):bz X (.type "set") (fun xs H Q=>∃(p:Addr) (ss:List Str),xs=[.ref p]/\SqT X.K H p (ss.map V.str)/\ss.length < 3000 /\
  ∀(a:Addr),H a=none->Q (.ref a) (upd H a (bD X.w a (aJ ss.reverse)))):=by
 intro pins s σ H xs us Q I r h
 obtain⟨p,ss,rfl,hq,h3,q⟩:=h
 obtain⟨u,rfl,rx⟩:=vals1 r
 cases rx
 obtain⟨its,r',hp,hz⟩:=I.tuple hq
 refine oa (I.ok.hd hc) hp r' (by omega) fun h' tk o' es' ep' t' kp ho x=>?_
 exact⟨.ref s.heap.objs.size,_,I.laid (h':=h') (t':=tk) (o:=bD X.w s.heap.objs.size (aJ ss.reverse)) kp (Nat.le_refl _) (lQ ho x),rfl,q _ (I.hok.fresh (Nat.le_refl _))⟩
theorem o8 (hc:X.calm=true):bz X (.type "set") (fun xs H Q=>∃(p:Addr) (ss:List Str),xs=[.ref p]/\SqL X.K H p (ss.map V.str)/\ss.length < 3000 /\
  ∀(a:Addr),H a=none->Q (.ref a) (upd H a (bD X.w a (aJ ss.reverse)))):=by
 intro pins s σ H xs us Q I r h
 obtain⟨p,ss,rfl,hq,h3,q⟩:=h
 obtain⟨u,rfl,rx⟩:=vals1 r
 cases rx
 obtain⟨its,r',hp,hz⟩:=I.list hq
 refine oB (I.ok.hd hc) hp.isList r' (by omega) fun h' tk o' es' ep' t' kp ho x=>?_
 exact⟨.ref s.heap.objs.size,_,I.laid (h':=h') (t':=tk) (o:=bD X.w s.heap.objs.size (aJ ss.reverse)) kp (Nat.le_refl _) (lQ ho x),rfl,q _ (I.hok.fresh (Nat.le_refl _))⟩
theorem og (hc:X.calm=true):bz X (.builtin "sorted") (fun xs H Q=>∃(a:Addr) (ss:List Str),xs=[.ref a]/\H a=some (bD X.w a ss)/\ss.length < 64 /\
  ∀(ss':List Str) (q:Addr),ss'.Perm ss->sortedS ss'=true->H q=none->Q (.ref q) (upd H q (.lst (ss'.map V.str)))):=by
 intro pins s σ H xs us Q I r h
 obtain⟨a,ss,rfl,ha,h64,q⟩:=h
 obtain⟨u,rfl,rx⟩:=vals1 r
 cases rx
 obtain⟨⟨o,es,ep,t,ho,x⟩,_,_⟩:=I.hok a _ ha
 refine call_function_entry kind_sorted plain_sorted entry_sorted (args_sorted1 _) ?_
 unfold Builtin.«sorted»
 refine wpAny_bind (m:=checkCount "sorted" 1 1 _) (wpAny_pure ?_)
 refine wpAny_bind (oq (A:=X.A.in1) (I.ok.hd hc) ho x fun s1 acc ss1 z1 z2 kp hS hpm=>?_)
 have hl1:acc.length=ss.length:=by rw [StrsAre.length hS];exact hpm.length_eq
 refine wpAny_bind (wpAny_newList ?_ (by rw [hl1,sizeLine_eq];omega))
 have hoL:(s1.heap.push (seqObj "list" acc.toArray 0)).get? s1.heap.objs.size=some (seqObj "list" acc.toArray 0):=Heap.get?_push_size _ rfl
 show wpAny _ _ _ _ _ { s1 with heap:=s1.heap.push (seqObj "list" acc.toArray 0) }
 refine wpAny_bind (wpAny_holding (wpAny_call_entry slot_list_sort ⟨_,hoL,rfl⟩ entry_list_sort (list_sort_treeK (s:={ s1 with heap:=s1.heap.push (seqObj "list" acc.toArray 0) }) strKind_oneLt hoL hS.keysOf (fun v₁ v₂ rest e=>keyKind_strs (by rw [<- e];exact hS)) (by rw [hl1];omega) fun st' a1 a2=>⟨_,rfl,?_⟩) (args_list_sort _)))
 obtain⟨ss',h1,h2,h3⟩:=sorted_out_str hS a1 a2
 refine wpAny_pure ⟨_,rfl,?_⟩
 obtain⟨e,he⟩:=sortedHeap_at (h:=s1.heap.push (seqObj "list" acc.toArray 0)) (out:=(arrOf st').map (·.2)) hoL
 have hnone:s.heap.get? s1.heap.objs.size=none:=by
  cases e0:s.heap.get? s1.heap.objs.size with
  | none=>rfl
  | some o=>exact absurd (Heap.lt_size (kp _ _ e0)) (Nat.lt_irrefl _)
 have hold:∀b o,s.heap.get? b=some o->(sortedHeap (s1.heap.push (seqObj "list" acc.toArray 0)) s1.heap.objs.size acc ((arrOf st').map (·.2))).get? b=some o:=fun b o eb=>by
  have l1:=Heap.lt_size (kp b o eb)
  rw [sortedHeap_old (Nat.ne_of_lt l1) (by rw [size_push'];exact Nat.lt_succ_of_lt l1)]
  exact Heap.get?_push_of_some _ (kp b o eb)
 have hfr:H s1.heap.objs.size=none:=I.hok.freeN hnone
 have hv':ar (ss'.map V.str) ((arrOf st').map (·.2)).toList:=gu h1
 have I2:=I.laidN (h':=sortedHeap (s1.heap.push (seqObj "list" acc.toArray 0)) s1.heap.objs.size acc ((arrOf st').map (·.2))) (t':=s1.toks) (o:=.lst (ss'.map V.str)) hold hnone ⟨(by rw [List.length_map,(h2.trans hpm).length_eq,sizeLine_eq];omega),((arrOf st').map (·.2)).toList,e,hv',(by rw [Array.toArray_toList];exact he)⟩
 exact⟨.ref s1.heap.objs.size,_,I2.draw z1 z2 rfl,rfl,q ss' _ (h2.trans hpm) h3 hfr⟩
end
section
variable {X:Cx}{tg:Expr}
end
noncomputable def Hd0 (vs:Array Value) (a0:Value):Prop:=vs[0]?=some a0/\vs[2]?=some Value.none
noncomputable def bB (fl:Value) (h:Heap) (e T:Addr) (cls a0:Value) (dx:Option Addr):Prop:=∃oe vs oT ts,h.get? e=some oe/\oe.cls=cls/\Hd0 vs a0/\oe.data=Data.fields vs/\vs[1]?=some (Value.ref T)/\T≠e/\h.get? T=some oT/\oT.data=Data.fields ts/\ts[3]?=some fl/\oe.dict=dx
noncomputable abbrev Trc:Heap->Addr->Addr->Value->Value->Option Addr->Prop:=bB .none
noncomputable def CXE (P:Program) (w:World):CXT:=fun outer H s E e s'=>∃(ea T:Addr) (cls a0:Value) (dx:Option Addr) (H':Hp),e=.ref ea/\s'.os=s.os/\AllBare s'.gens/\Un (frs outer) [] H H' s.heap s'.heap/\HOk P w H' s'.heap/\s.heap.get? ea=none/\s.heap.get? T=none/\H' ea=none/\H' T=none/\Trc s'.heap ea T cls a0 dx/\E cls dx H'
theorem dQ {h base:Heap}:∀{l:List Env},h.FunFrames base l->∀b∈frs l,∃o,h.get? b=some o/\∀vs:Array Value,o.data≠Data.fields vs
 | [],_,b,hb=>by simp [frs] at hb
 | e::l,k,b,hb=>by
  simp only [Heap.FunFrames] at k
  obtain⟨k1,⟨L,o,k2,k3,k4,k5⟩,k6⟩:=k
  unfold frs at hb
  rw [List.filterMap_cons,k2] at hb
  rcases List.mem_cons.mp hb with z | z
  ·rw [z];exact⟨o,k4,k5⟩
  ·exact dQ k6 b z
theorem pS (o:Obj) (f:Array Value->Array Value):(o.mapFields f).dict=o.dict:=by
 obtain⟨c,d,dt,sl⟩:=o
 cases dt <;> rfl
structure Moved (fr:List Addr) (g:List Addr) (h h':Heap):Prop where
 keep:∀b o,h.get? b=some o->b∉fr->b∉g->h'.get? b=some o
 slot:∀b o,h.get? b=some o->b∈fr->∃sl,h'.get? b=some { o with slots:=sl }
section
variable {M:Model}{A:Around}{E:Value->Shared->Prop}{s:Shared}{env:Env}{outer:List Env}{L e T:Addr}{base:Heap}{cls a0:Value}{dx:Option Addr}{Q:Unit->Shared->Prop}
theorem jg {oe:Obj}{vs:Array Value}{head:Value}{had:Bool}
  (hf:A.frames=some (env::outer)) (ff:s.heap.FunFrames base (env::outer)) (hL:env.frame=some L) (he:s.heap.get? e=some oe) (hd:oe.data=Data.fields vs) (hz:1 < vs.size) (h0:Hd0 vs a0)
  (k:∀(h':Heap) (T':Addr),Moved (frs (env::outer)) [e] s.heap h'->s.heap.get? T'=none->bB (rawInt L) h' e T' oe.cls a0 oe.dict->Q () { s with heap:=h' }) :
  wpAny M A (do let a <- frameOf env;let pl <- entryPlaceOf L had;let b <- EntryCells.newEntry head a .none (rawInt L) .none pl;setField (.ref e) 1 b) Q E s:=by
 have efr:e∉frs (env::outer):=fun hm=>by
  obtain⟨o,q,nf⟩:=dQ ff e hm
  rw [he] at q;cases q
  exact nf _ hd
 refine wpAny_bind (wpAny_frameOf_fun hf ff hL fun g1 so=>wpAny_bind (wpAny_entryPlaceOf fun pl hpl=>?_))
 unfold EntryCells.newEntry newFields
 refine wpAny_bind (wpAny_newObj_type ?_ (hpl.sizeOk5 _ _ _ _ _))
 generalize hob:({ cls:=.type "traceback",dict:=none,data:=.fields ([head,.ref L,.none,rawInt L,.none]++(if pl.isEmpty then List.replicate 6 Value.none else pl)).toArray }:Obj)=ob
 have obf:ob.isFreed=false:=by rw [<- hob];rfl
 have e1:g1.get? e=some oe:=(so.2.1 e efr).trans he
 have nz:g1.objs.size≠e:=Nat.ne_of_gt (Heap.lt_size e1)
 have e2:=Heap.get?_push_of_some (h:=g1) ob e1
 refine wpAny_setField e2 hd hz ?_
 have hd3:=Obj.data_mapFields hd (fun z=>z.setIfInBounds 1 (Value.ref g1.objs.size))
 have e3:=Heap.get?_update_self (Obj.mapFields fun z=>z.setIfInBounds 1 (Value.ref g1.objs.size)) e2 (Obj.isFreed_of_fields hd3)
 have fresh:s.heap.get? g1.objs.size=none:=by
  cases hc:s.heap.get? g1.objs.size with
  | none=>rfl
  | some o =>
   obtain⟨sl,q⟩:=so.2.2 _ o hc
   exact absurd (Heap.lt_size q) (Nat.lt_irrefl _)
 have up:∀b o,b≠e->g1.get? b=some o->((g1.push ob).update e (Obj.mapFields fun z=>z.setIfInBounds 1 (Value.ref g1.objs.size))).get? b=some o:=fun b o n q=>by
  rw [Heap.get?_update_other _ _ (Ne.symm n)]
  exact Heap.get?_push_of_some _ q
 refine k _ g1.objs.size ⟨fun b o q hb hg=>up b o (fun z=>hg (by simp [z])) ((so.2.1 b hb).trans q),fun b o q hb=>?_⟩ fresh ⟨_,_,ob,_,e3,Obj.cls_mapFields _ _,?_,hd3,?_,nz,?_,by rw [<- hob],?_,pS _ _⟩
 ·obtain⟨sl,q1⟩:=so.2.2 b o q
  exact⟨sl,up b _ (fun z=>efr (z ▸ hb)) q1⟩
 ·exact⟨by rw [Array.getElem?_setIfInBounds_ne (by decide)];exact h0.1,by rw [Array.getElem?_setIfInBounds_ne (by decide)];exact h0.2⟩
 ·simp [hz]
 ·rw [Heap.get?_update_other _ _ (Ne.symm nz)]
  exact Heap.get?_push_size g1 obf
 ·first | (simp;done) | (rcases hpl with rfl | ⟨_,_,_,_,_,_,_,rfl⟩ <;> simp)
theorem ground {fl:Value} (ht:bB fl s.heap e T cls a0 dx)
  (k:∀h':Heap,(∀b,b≠T->h'.get? b=s.heap.get? b)->Trc h' e T cls a0 dx->Q () { s with heap:=h' }) :
  wpAny M A (setFlight (.ref e) none) Q E s:=by
 obtain⟨oe,vs,oT,ts,h1,h2,h3,h4,h5,h6,h7,h8,h9,h10⟩:=ht
 have z3:3 < ts.size:=(Array.getElem?_eq_some_iff.mp h9).1
 unfold setFlight
 refine wpAny_bind (wpAny_field h1 h4 h5 ?_)
 rw [if_pos (show (Value.ref T != Value.none)=true from by simp)]
 refine wpAny_setField h7 h8 z3 (k _ (fun b n=>Heap.get?_update_other _ _ (Ne.symm n)) ?_)
 have d8:=Obj.data_mapFields h8 (fun z=>z.setIfInBounds 3 ((none:Option Addr).elim Value.none fun f=>rawInt f))
 exact⟨oe,vs,_,_,(Heap.get?_update_other _ _ h6).trans h1,h2,h3,h4,h5,h6,Heap.get?_update_self _ h7 (Obj.isFreed_of_fields d8),d8,by simp [z3],h10⟩
theorem rb {oe:Obj}{vs:Array Value} (hf:A.frames=some (env::outer)) (hL:env.frame=some L) (ff:s.heap.FunFrames base (env::outer)) (h1:s.heap.get? e=some oe) (h2:oe.data=Data.fields vs) (h3:vs[1]?=some Value.none) (h4:Hd0 vs a0)
  (k:∀(h':Heap) (T':Addr),Moved (frs (env::outer)) [e] s.heap h'->s.heap.get? T'=none->bB (rawInt L) h' e T' oe.cls a0 oe.dict->Q () { s with heap:=h' }) :
  wpAny M A (noteFrame (.ref e) env) Q E s:=by
 unfold noteFrame
 simp only [hL]
 refine wpAny_bind (wpAny_field h1 h2 h3 ?_)
 rw [if_neg (by decide)]
 exact jg hf ff hL h1 h2 (Array.getElem?_eq_some_iff.mp h3).1 h4 k
theorem kH (hf:A.frames=some (env::outer)) (hL:env.frame=some L) (ff:s.heap.FunFrames base (env::outer)) (ht:Trc s.heap e T cls a0 dx)
  (k:∀(h':Heap) (T':Addr),Moved (frs (env::outer)) [e,T] s.heap h'->s.heap.get? T'=none->bB (rawInt L) h' e T' cls a0 dx->Q () { s with heap:=h' }) :
  wpAny M A (noteFrame (.ref e) env) Q E s:=by
 obtain⟨oe,vs,oT,ts,h1,rfl,h3,h4,h5,h6,h7,h8,h9,rfl⟩:=ht
 unfold noteFrame
 simp only [hL]
 refine wpAny_bind (wpAny_field h1 h4 h5 ?_)
 rw [if_pos (show (Value.ref T != Value.none)=true from by simp)]
 refine wpAny_bind (wpAny_field h7 h8 h9 ?_)
 rw [if_neg (show ¬ ((Value.none == rawInt L)=true) from by simp [rawInt])]
 refine wpAny_bind (wpAny_setField h7 h8 (Array.getElem?_eq_some_iff.mp h9).1 ?_)
 have oth:∀b,b≠T->(s.heap.update T (Obj.mapFields fun z=>z.setIfInBounds 3 Value.none)).get? b=s.heap.get? b:=fun b n=>Heap.get?_update_other _ _ (Ne.symm n)
 have nT:∀b,b∈frs (env::outer)->b≠T:=fun b hb z=>by
  obtain⟨o,q,nf⟩:=dQ ff b hb
  rw [z,h7] at q;cases q
  exact nf _ h8
 refine jg (s:={ s with heap:=s.heap.update T (Obj.mapFields fun z=>z.setIfInBounds 3 Value.none) }) hf (ff.of_keeps fun b o q nf=>⟨o,(oth b fun z=>?_).trans q,rfl⟩) hL ((oth e (Ne.symm h6)).trans h1) h4 (Array.getElem?_eq_some_iff.mp h5).1 h3 fun h' T' mv nw tr=>k h' T' ⟨fun b o q hb hg=>?_,fun b o q hb=>?_⟩ ?_ tr
 ·rw [z,h7] at q;cases q
  exact nf _ h8
 ·exact mv.keep b o ((oth b fun z=>hg (by simp [z])).trans q) hb fun z=>hg (by simp at z;simp [z])
 ·exact mv.slot b o ((oth b (nT b hb)).trans q) hb
 ·have z:T'≠T:=fun z=>by
   have d8:=Obj.data_mapFields h8 (fun z=>z.setIfInBounds 3 Value.none)
   have g7:=Heap.get?_update_self (Obj.mapFields fun z=>z.setIfInBounds 3 Value.none) h7 (Obj.isFreed_of_fields d8)
   have nw':(s.heap.update T (Obj.mapFields fun z=>z.setIfInBounds 3 Value.none)).get? T'=none:=nw
   rw [z,g7] at nw'
   cases nw'
  exact (oth T' z).symm.trans nw
theorem Moved.ground {fr g:List Addr}{h h' h'':Heap} (m:Moved fr g h h') (nT:h.get? T=none) (nf:∀b∈fr,∃o,h.get? b=some o) (k:∀b,b≠T->h''.get? b=h'.get? b):Moved fr g h h'' :=
 ⟨fun b o q hb hg=>(k b fun z=>by rw [z,nT] at q;cases q).trans (m.keep b o q hb hg),fun b o q hb=>by
  obtain⟨sl,e⟩:=m.slot b o q hb
  exact⟨sl,(k b fun z=>by rw [z,nT] at q;cases q).trans e⟩⟩
theorem oG (hf:A.frames=some (env::outer)) (hL:env.frame=some L) (ff:s.heap.FunFrames base (env::outer)) (ht:Trc s.heap e T cls a0 dx)
  (k:∀(h':Heap) (T':Addr),Moved (frs (env::outer)) [e,T] s.heap h'->s.heap.get? T'=none->Trc h' e T' cls a0 dx->Q () { s with heap:=h' }) :
  wpAny M A (leaving env (.ref e)) Q E s:=by
 unfold leaving
 refine wpAny_bind (kH hf hL ff ht fun h1 T1 mv nw tr=>ground tr fun h2 same tr2=>k h2 T1 (mv.ground nw (fun b hb=>let ⟨o,q,_⟩:=dQ ff b hb;⟨o,q⟩) same) nw tr2)
theorem leave_new {oe:Obj}{vs:Array Value} (hf:A.frames=some (env::outer)) (hL:env.frame=some L) (ff:s.heap.FunFrames base (env::outer)) (h1:s.heap.get? e=some oe) (h2:oe.data=Data.fields vs) (h3:vs[1]?=some Value.none) (h4:Hd0 vs a0)
  (k:∀(h':Heap) (T':Addr),Moved (frs (env::outer)) [e] s.heap h'->s.heap.get? T'=none->Trc h' e T' oe.cls a0 oe.dict->Q () { s with heap:=h' }) :
  wpAny M A (leaving env (.ref e)) Q E s:=by
 unfold leaving
 refine wpAny_bind (rb hf hL ff h1 h2 h3 h4 fun g1 T1 mv nw tr=>ground tr fun g2 same tr2=>k g2 T1 (mv.ground nw (fun b hb=>let ⟨o,q,_⟩:=dQ ff b hb;⟨o,q⟩) same) nw tr2)
theorem o6 (hf:A.frames=some (env::outer)) (hL:env.frame=some L) (ff:s.heap.FunFrames base (env::outer)) (ht:Trc s.heap e T cls a0 dx)
  (k:∀(h':Heap) (T':Addr),Moved (frs (env::outer)) [e,T] s.heap h'->s.heap.get? T'=none->Trc h' e T' cls a0 dx->Q () { s with heap:=h' }) :
  wpAny M A (noteFrame (.ref e) env) (fun _ s2=>wpAny M A (setFlight (.ref e) none) (fun _ s3=>Q () s3) E s2) E s :=
 kH hf hL ff ht fun h1 T1 mv nw tr=>ground tr fun h2 same tr2=>k h2 T1 (mv.ground nw (fun b hb=>let ⟨o,q,_⟩:=dQ ff b hb;⟨o,q⟩) same) nw tr2
end
theorem aQ.got {P:Program}{w:World}{H:Hp}{h:Heap}{a:Addr}{o:HO} (x:aQ P w H h a o):∃ob,h.get? a=some ob:=by
 cases o with
 | lst xs=>obtain⟨_,_,_,_,e⟩:=x;exact⟨_,e⟩
 | tup xs=>obtain⟨_,_,_,o,e,_⟩:=x;exact⟨_,e⟩
 | dK kvs=>obtain⟨_,_,_,_,o,_,_,e,_⟩:=x;exact⟨_,e⟩
 | dT kvs=>obtain⟨_,_,_,_,o,_,_,e,_⟩:=x;exact⟨_,e⟩
 | set S n=>obtain⟨o,_,_,_,e,_⟩:=x;exact⟨_,e⟩
 | ins C dx fs=>obtain⟨_,_,_,e,_⟩:=x;exact⟨_,e⟩
 | own y=>exact x
 | xd fs=>obtain⟨_,⟨_,_,_,e,_⟩,_⟩:=x;exact⟨_,e⟩
 | rng lo hi=>obtain⟨_,_,_,e⟩:=x;exact⟨_,e⟩
 | frz ob u=>obtain⟨e,_⟩:=x;exact⟨_,e⟩
 | tbl ps=>exact⟨_,(show h.get? a=some _ from x)⟩
 | met f y=>exact⟨_,(show h.get? a=some _ from x)⟩
 | ext φ=>obtain⟨_,e,_⟩:=x;exact e
theorem jk {CX:CXT}{P:Program}{w:World}{K:PySem.W.Frag}{mg:Str->Option Value}{base:Heap}{N:List Str}{qual:Str}{scope:Scope}{f:Addr}{cd:Value}{A:Around}{outer:List Env}{s0:Shared}{H0:Hp}{E0':XK}
  {pins:List (Addr×Obj)}{σ:St}{H':Hp}{s':Shared}{E:XK}{ea T':Addr}{cls a0:Value}{dx:Option Addr}{h':Heap}{G:List Addr}
  (I:Inv (aE CX P w K mg base N qual scope f cd A outer s0 H0 E0') pins σ H' s')
  (mv:Moved (frs (envOfC qual scope s0.heap.objs.size f cd::outer)) G s'.heap h')
  (hG:∀b∈G,s0.heap.get? b=none/\H' b=none) (tr:Trc h' ea T' cls a0 dx) (e1:s0.heap.get? ea=none) (e2:H' ea=none) (e3:T'∈G\/s'.heap.get? T'=none) (hE:E cls dx H') :
  CXE P w outer H0 s0 E (.ref ea) { s' with heap:=h' }:=by
 have kp:=mv.keep
 have sl:=mv.slot
 have base':=I.base
 have hok:=I.hok
 have nL:∀b o,s0.heap.get? b=some o->b∉frs outer->b∉frs (envOfC qual scope s0.heap.objs.size f cd::outer):=fun b o q hb hm=>by
  have hm':b∈s0.heap.objs.size::frs outer:=hm
  rcases List.mem_cons.mp hm' with z | z
  ·exact absurd (Heap.lt_size q) (by rw [z];exact Nat.lt_irrefl _)
  ·exact hb z
 have nG:∀b o,s0.heap.get? b=some o->b∉G:=fun b o q hb=>by rw [(hG b hb).1] at q;cases q
 have mO:∀b,b∈frs outer->b∈frs (envOfC qual scope s0.heap.objs.size f cd::outer):=fun b hb=>List.mem_cons_of_mem _ hb
 have T0:s0.heap.get? T'=none:=by
  rcases e3 with z | z
  ·exact (hG _ z).1
  ·cases hc:s0.heap.get? T' with
   | none=>rfl
   | some o =>
    obtain⟨o',q⟩:=base'.there T' o hc (by show T'∉[];simp)
    rw [z] at q;cases q
 have TH:H' T'=none:=by
  rcases e3 with z | z
  ·exact (hG _ z).2
  ·cases hc:H' T' with
   | none=>rfl
   | some o =>
    obtain⟨ob,q⟩:=aQ.got (hok T' o hc)
    rw [z] at q;cases q
 refine⟨ea,T',cls,a0,dx,H',rfl,I.os,I.bare,?_,?_,e1,T0,e2,TH,tr,hE⟩
 ·refine⟨fun b o q n hb hx=>?_,fun b o q n hb hx=>?_,fun b o q n hx=>base'.free b o q n hx,fun b o q hx=>?_,base'.tups,base'.frzs,base'.tbls⟩
  ·exact kp b o (base'.keep b o q n hb hx) (nL b o q hb) (nG b o q)
  ·obtain⟨s1,q1⟩:=base'.slot b o q n hb hx
   obtain⟨s2,q2⟩:=sl b _ q1 (mO b hb)
   exact⟨s2,q2⟩
  ·obtain⟨o',q'⟩:=base'.there b o q hx
   by_cases hb:b∈frs (envOfC qual scope s0.heap.objs.size f cd::outer)
   ·obtain⟨s2,q2⟩:=sl b _ q' hb
    exact⟨_,q2⟩
   ·exact⟨o',kp b o' q' hb (nG b o q)⟩
 ·intro a o hH
  have nf:∀b u,H' b=some u->b∉frs (envOfC qual scope s0.heap.objs.size f cd::outer)/\b∉G:=fun b u q=>⟨fun hm=>(by
   have:=I.stkFree b hm
   rw [q] at this;cases this),fun hm=>(by rw [(hG b hm).2] at q;cases q)⟩
  refine (hok a o hH).stay (fun b u hb q=>?_) (fun _ q=>q) fun _ _ q=>q
  rcases hb with z | z
  ·rw [z] at q ⊢;exact kp a u q (nf a o hH).1 (nf a o hH).2
  ·exact kp b u q (nf b _ z).1 (nf b _ z).2
theorem jF {P:Program}{w:World}{K:PySem.W.Frag}{mg:Str->Option Value}{base:Heap}{N:List Str}{qual:Str}{scope:Scope}{f:Addr}{cd:Value}{A:Around}{outer:List Env}{s0:Shared}{H0:Hp}{E:XK} :
  dP (CXE P w) (aE (CXE P w) P w K mg base N qual scope f cd A outer s0 H0 E) E:=by
 intro pins σ H s e s' I h
 obtain⟨ea,T,cls,a0,dx,H',rfl,os,bare,un,hok,n1,n2,m1,m2,trc,hE⟩:=h
 have I':Inv (aE (CXE P w) P w K mg base N qual scope f cd A outer s0 H0 E) pins σ H' s':=I.call' (ch:=[]) os un hok bare (by simp)
 have back:∀b,s.heap.get? b=none->s0.heap.get? b=none:=fun b q=>by
  cases hc:s0.heap.get? b with
  | none=>rfl
  | some o =>
   obtain⟨o',q'⟩:=I.base.there b o hc (by show b∉[];simp)
   rw [q] at q';cases q'
 show wpAny (model P w) (A.deeper (envOfC qual scope s0.heap.objs.size f cd)) (leaving (envOfC qual scope s0.heap.objs.size f cd) (.ref ea)) _ _ s'
 refine oG (outer:=outer) (L:=s0.heap.objs.size) I'.ok.frames rfl I'.stack trc fun h' T' mv nw tr'=>?_
 exact jk (G:=[ea,T]) I' mv (fun b hb=>by
  simp at hb
  rcases hb with z | z
  ·rw [z];exact⟨back _ n1,m1⟩
  ·rw [z];exact⟨back _ n2,m2⟩) tr' (back _ n1) m1 (.inr nw) hE
theorem uo {P:Program}{w:World}{K:PySem.W.Frag}{mg:Str->Option Value}{base:Heap}{N:List Str}{qual:Str}{scope:Scope}{f:Addr}{cd:Value}{A:Around}{outer:List Env}{s0:Shared}{H0:Hp}{E:XK}
  {pins:List (Addr×Obj)}{σ:St}{H:Hp}{s:Shared}{ea:Addr}{oe:Obj}{vs:Array Value}{a0:Value}
  (I:Inv (aE (CXE P w) P w K mg base N qual scope f cd A outer s0 H0 E) pins σ H s) (h1:s.heap.get? ea=some oe) (h2:oe.data=Data.fields vs) (h3:vs[1]?=some Value.none) (h4:Hd0 vs a0) (back:s0.heap.get? ea=none) (he:H ea=none) (hE:E oe.cls oe.dict H) :
  (aE (CXE P w) P w K mg base N qual scope f cd A outer s0 H0 E).xe (.ref ea) s:=by
 show wpAny (model P w) (A.deeper (envOfC qual scope s0.heap.objs.size f cd)) (leaving (envOfC qual scope s0.heap.objs.size f cd) (.ref ea)) _ _ s
 refine leave_new (outer:=outer) (L:=s0.heap.objs.size) I.ok.frames rfl I.stack h1 h2 h3 h4 fun h'' T' mv nT tr=>?_
 exact jk (G:=[ea]) I mv (fun b hb=>by
  have z:b=ea:=by simpa using hb
  rw [z];exact⟨back,he⟩) tr back he (.inr nT) hE
theorem fO {P:Program}{w:World}{K:PySem.W.Frag}{mg:Str->Option Value}{base:Heap}{N:List Str}{qual:Str}{scope:Scope}{f:Addr}{cd:Value}{A:Around}{outer:List Env}{s0:Shared}{H0:Hp}{E:XK}
  {pins:List (Addr×Obj)}{σ:St}{H:Hp}{s:Shared}{h':Heap}{ea:Addr}{cls:Value}{args:List Value}
  (I:Inv (aE (CXE P w) P w K mg base N qual scope f cd A outer s0 H0 E) pins σ H s) (m:s.heap.MadeExcOf h' ea cls args) (hE:E cls none H) :
  (aE (CXE P w) P w K mg base N qual scope f cd A outer s0 H0 E).xe (.ref ea) { s with heap:=h' }:=by
 obtain⟨keeps,new,t,there,tn,tt⟩:=m
 have I':Inv (aE (CXE P w) P w K mg base N qual scope f cd A outer s0 H0 E) pins σ H { s with heap:=h' }:=I.kept (t':=s.toks) keeps
 have back:s0.heap.get? ea=none:=by
  cases hc:s0.heap.get? ea with
  | none=>rfl
  | some o =>
   obtain⟨o',q'⟩:=I.base.there ea o hc (by show ea∉[];simp)
   rw [new] at q';cases q'
 have he:H ea=none:=by
  cases hc:H ea with
  | none=>rfl
  | some o =>
   obtain⟨ob,q⟩:=aQ.got (I.hok ea o hc)
   rw [new] at q;cases q
 exact uo I' there rfl rfl ⟨rfl,rfl⟩ back he hE
noncomputable def dD (h:Heap) (C:Addr):Prop:=∃(nm q:Str) (N:Addr) (bs bm bmB:List Value) (hdct:Bool) (sn:List Str) (sub:List Value) (ab:Bool) (col:Option Bool) (dd:Option Addr) (k0 k1 k2 k3 k5:Option Value) (mN:Str->Option Value) (B Bn newId nid initId inN:String) (bmN:List Value),
 h.get? C=some (excClassObj nm q C N bs bm hdct sn sub ab col dd k0 k1 k2 k3 k5 newId)/\h.Ns N mN/\mN (Str.ofString "__init__")=none/\OwnTail h bmB bm/\bm.contains (Value.type "BaseException")=true/\ExcBaseFacts Bn newId inN bmN/\bmB.contains (Value.type Bn)=true/\ExcBaseFacts B nid initId bmB
theorem OwnTail.stays {h h':Heap} (k:∀b o,h.get? b=some o->h'.get? b=some o) {a b:List Value} (x:OwnTail h a b):OwnTail h' a b:=by
 induction x with
 | base=>exact .base
 | own e n i _ ih=>exact .own (k _ _ e) (n.keeps k) i ih
section
variable {X:Cx}{x:Str}{C:Addr}{e:Expr}{es:List Expr}{t:TA}{np cpos pos:Pos}{W:Hp->Prop}
noncomputable def tN (t:TA) (W:Hp->Prop):TS:=fun _ σ H=>t σ H fun vs H1=>vs.length<=sizeLine/\W H1
theorem eU (hx:X.mg x=some (.ref C)) (hC:dD X.base C) (hd:X.A.handled=none) (ha:PA X (e::es) t) (xe:∀(pins:List (Addr×Obj)) (σ:St) (H:Hp) (s:Shared) (h':Heap) (ea:Addr) (args:List Value),Inv X pins σ H s->s.heap.MadeExcOf h' ea (.ref C) args->W H->X.xe (.ref ea) { s with heap:=h' })
  (hg:Gl X x:=by rfl) (hdb:(x == ("__debug__":Str))=false:=by decide) (he:starEach (e::es) X.env=(false,eval e X.env)::starEach es X.env:=by rfl) (hpl:(backTo cpos (starEach (e::es) X.env)).any (·.1)=false:=by rfl) :
  PS X (.Raise (some (.Call (.Name x np) (e::es) [] cpos)) none pos) (tN t W):=by
 intro pins s σ H D I h
 obtain⟨nm,q,N,bs,bm,bmB,hdct,sn,sub,ab,col,dd,k0,k1,k2,k3,k5,mN,B,Bn,newId,nid,initId,inN,bmN,a1,a2,a3,a4,a5,a6,a7,a8⟩:=hC
 refine wpAny_Raise_call_subU (nm:=nm) (q:=q) (N:=N) (bs:=bs) (hdct:=hdct) (sn:=sn) (sub:=sub) (ab:=ab) (col:=col) (dd:=dd) (k0:=k0) (k1:=k1) (k2:=k2) (k3:=k3) (k5:=k5) a6 a7 a8 a5 hd hpl a3 (eX I hg hx ⟨rfl,?_⟩ hdb)
 have hpa:=ha cpos pins s σ H _ I h
 have eb:backTo cpos (starEach (e::es) X.env)=(false,eval e X.env)::backTo cpos (starEach es X.env):=by rw [he];rfl
 rw [eb] at hpa ⊢
 refine Calls.evalArgs_plain (thn hpa fun us s2 hq=>?_)
 obtain⟨vs,H1,I1,r1,hl,hw⟩:=hq
 have k:=I1.bk
 exact⟨rfl,by rw [<- r1.length];exact hl,k _ _ a1,a2.keeps k,OwnTail.stays k a4,fun h' ea m=>xe pins σ H1 s2 h' ea _ I1 m hw⟩
end
section
variable {P:Program}{w:World}{K:PySem.W.Frag}{mg:Str->Option Value}{base:Heap}
theorem Fun.okX {x qual:Str}{st:Stmt}{f:Addr}{fd:FuncData}{N ps:List Str}{k:Nat}{sp:Sp} (F:Fun K x qual st f fd) (S:aR N ps (aI st)) (len:∀vs H Q E,sp vs H Q E->vs.length=ps.length)
  (hbody:∀(cdv:Value) (A:Around) (outer:List Env) (s:Shared) (H:Hp) (vs:List V) (Q:VK) (E:XK),aN k (A.deeper (envOfC qual (aI st) s.heap.objs.size f cdv))->sp vs H Q E ->
   ∃t,PSs (aE (CXE P w) P w K mg base N qual (aI st) f cdv A outer s H E) (b9 st) t/\t { nx:=fun _ H'=>Q .non H',rt:=Q } (start N vs) H):aH P w K mg base (CXE P w) (k + 1) f fd ps sp:=by
 obtain⟨oc,od,kV,doc,pm,an,cdv,ct,osl,rfl,lk,hcd⟩:=F.ex
 exact nk lk hcd S len fun A outer s H vs Q E hr hsp=>hbody cdv A outer s H vs Q E hr hsp
noncomputable def FnX (P:Program) (w:World) (K:PySem.W.Frag) (mg:Str->Option Value) (base:Heap) (k:Nat) (x:Str) (ps:List Str) (sp:Sp):Prop :=
 ∃f fd,mg x=some (.ref f)/\PySem.W.keepIn K (.ref f)=true/\Binds K fd ps []/\aH P w K mg base (CXE P w) k f fd ps sp
end
theorem fR {X:Cx}{k:Nat}{x:Str}{ps:List Str}{sp:Sp}{E:XK}{e:Expr}{es:List Expr}{t:TA}{p pos:Pos} (F:FnX X.prog X.w X.K X.mg X.base k x ps sp) (hr:aN k X.A) (hx:dP (CXE X.prog X.w) X E) (ha:PA X (e::es) t) (hg:Gl X x:=by rfl)
  (hdb:(x == ("__debug__":Str))=false:=by decide) (he:starEach (e::es) X.env=(false,eval e X.env)::starEach es X.env:=by rfl) (hpl:(backTo pos (starEach es X.env)).any (·.1)=false:=by rfl) :
  PE X (.Call (.Name x p) (e::es) [] pos) (fi sp [] E t):=by
 obtain⟨f,fd,h1,h2,h3,h4⟩:=F
 exact mw h4 hr hg h1 h2 h3 .nil hx ha hdb he hpl
noncomputable def XP (X:Cx) (pins:List (Addr×Obj)) (Ex:St->Value->Option Addr->Hp->Prop) (e:Value) (s1:Shared):Prop :=
 ∃(σ:St) (H:Hp) (s:Shared),Inv X pins σ H s/\CXE X.prog X.w X.stack H s (fun cls dx H'=>Ex σ cls dx H') e s1
noncomputable abbrev TEX:=(St->Value->Option Addr->Hp->Prop)->St->Hp->VK->Prop
noncomputable abbrev TSX:=(St->Value->Option Addr->Hp->Prop)->Ends->St->Hp->Prop
noncomputable def PEX (X:Cx) (e:Expr) (t:TEX):Prop:=∀(pins:List (Addr×Obj)) (s:Shared) (σ:St) (H:Hp) (Q:VK) (Ex:St->Value->Option Addr->Hp->Prop),Inv X pins σ H s->t Ex σ H Q->wpAny (model X.prog X.w) X.A (eval e X.env) (EP X pins σ Q) (XP X pins Ex) s
noncomputable def PSX (X:Cx) (st:Stmt) (t:TSX):Prop:=∀(pins:List (Addr×Obj)) (s:Shared) (σ:St) (H:Hp) (D:Ends) (Ex:St->Value->Option Addr->Hp->Prop),Inv X pins σ H s->t Ex D σ H->wpAny (model X.prog X.w) X.A (exec st X.env) (SP X pins D) (XP X pins Ex) s
section
variable {X:Cx}{k:Nat}{x:Str}{ps:List Str}{sp:Sp}{e:Expr}{es:List Expr}{t:TA}{p pos:Pos}
noncomputable def uu (sp:Sp) (t:TA):TEX:=fun Ex σ H Q=>t σ H fun vs H1=>sp vs H1 Q (fun cls dx H'=>Ex σ cls dx H')
theorem mf (F:FnX X.prog X.w X.K X.mg X.base k x ps sp) (hr:aN k X.A) (ha:PA X.nox (e::es) t) (hg:Gl X x:=by rfl)
  (hdb:(x == ("__debug__":Str))=false:=by decide) (he:starEach (e::es) X.env=(false,eval e X.env)::starEach es X.env:=by rfl) (hpl:(backTo pos (starEach es X.env)).any (·.1)=false:=by rfl) :
  PEX X (.Call (.Name x p) (e::es) [] pos) (uu sp t):=by
 obtain⟨f,fd,hm,hk,hb,F⟩:=F
 intro pins s σ H Q Ex I h
 refine wpAny_Call_Name_kw (eX I hg hm ?_ hdb)
 have I0:Inv X.nox pins σ H s:=⟨⟨I.ok.mod,I.ok.kind,I.ok.glob,I.ok.blt,I.ok.above,I.ok.inj,I.ok.has,I.ok.cab,I.ok.hd,I.ok.frames,I.ok.stk,I.ok.exf,I.ok.bs,I.ok.bsz,I.ok.noex,I.ok.exfs,I.ok.funs,I.ok.frf⟩,I.os,I.bare,I.base,I.loc,I.cell,I.free,I.freeC,I.pin,I.hok,I.len⟩
 refine PySem.W.callWith_K (h₀:=X.base) I.ok.mod.kin hk (wpAny_mono (ha pos pins s σ H _ I0 h) (fun us s1 hq=>?_) fun _ _ z=>False.elim z) he hpl
 obtain⟨vs,H1,I1,r,q⟩:=hq
 have I2:Inv X pins σ H1 s1:=⟨⟨I1.ok.mod,I1.ok.kind,I1.ok.glob,I1.ok.blt,I1.ok.above,I1.ok.inj,I1.ok.has,I1.ok.cab,I1.ok.hd,I1.ok.frames,I1.ok.stk,I1.ok.exf,I1.ok.bs,I1.ok.bsz,I1.ok.noex,I1.ok.exfs,I1.ok.funs,I1.ok.frf⟩,I1.os,I1.bare,I1.base,I1.loc,I1.cell,I1.free,I1.freeC,I1.pin,I1.hok,I1.len⟩
 refine⟨I2.kIn,?_⟩
 have hl:us.length=ps.length:=by rw [<- r.length];exact F.len _ _ _ _ q
 have hbb:=hb s1 us I2.kIn (by simpa using hl)
 simp only [List.append_nil] at hbb
 refine wpAny_call (codeAny_mono (F.run X.A X.stack s1 H1 ⟨us,[]⟩ us vs Q (fun cls dx H'=>Ex σ cls dx H') hr I2.env0 hbb r q) fun r s' hq=>?_)
 cases r with
 | error e=>exact⟨σ,H1,s1,I2,hq⟩
 | ok fl =>
  cases fl with
  | ret u=>exact I2.after hq
  | next=>exact False.elim hq
  | brk=>exact False.elim hq
  | cont=>exact False.elim hq
noncomputable def uX (i:Nat) (te:TEX):TSX:=fun Ex D σ H=>te Ex σ H fun y H1=>D.nx (σ.set i (some y)) H1
theorem ua {te:TEX}{i:Nat}{y:Str}{pos':Pos} (hN:X.N.Nodup) (hi:X.N[i]?=some y) (hx:Loc X.env.scope y) (he:PEX X e te) (hs:swapsWith e (some (.Name y pos')) pos.line X.env=pure false:=by rfl) (hf:X.fn y=true\/X.env.scope.names.lookup y=some .local:=by first | exact .inl rfl | exact .inr rfl | assumption) :
  PSX X (.Assign [.Name y pos'] e pos) (uX i te):=by
 intro pins s σ H D Ex I h
 refine wpAny_Assign_Name (thn (he pins s σ H _ Ex I h) fun v s1 ⟨z,H1,I1,r1,q1⟩=>?_) hs
 exact fC I1 hN hi hx r1 (fun s2 I2=>⟨_,H1,I2,q1⟩) hf
end
theorem OwnTail.has {h:Heap}{a b:List Value}{v:Value} (x:OwnTail h a b) (hv:a.contains v=true):b.contains v=true:=by
 induction x with
 | base=>exact hv
 | own _ _ _ _ ih=>rw [List.contains_cons,ih,Bool.or_true]
theorem tu {K:Frag}{h:Heap}{C:Addr}{bmB:List Value}{newId initId B:String} (X:K.In h) (hx:excIn K C bmB newId=true) (f:ExcBaseFacts B newId initId bmB):dD h C:=by
 unfold excIn at hx
 split at hx
 ·rename_i dct cd sl heq
  split at hx
  ·rename_i C' bm k0 k1 k2 k3 n k5 hm hs
   simp only [Bool.and_eq_true,Bool.not_eq_true',beq_iff_eq] at hx
   obtain⟨⟨⟨⟨⟨h1,h2⟩,h3⟩,h4⟩,h5⟩,h6⟩:=hx
   subst h1
   subst h2
   have ho:=X _ _ heq
   have hsl:sl=#[k0,k1,k2,k3,some (.builtin n),k5]:=by
    rw [<- Array.toList_inj];exact hs
   obtain⟨nm,bs,mro,ns,qn,hdct,sn,sub,ab,col,hdel⟩:=cd
   simp only at hm h3 h4 h5 h6
   subst hm
   subst h3
   subst hsl
   refine⟨nm,qn,ns,bs,bm,bmB,hdct,sn,sub,ab,col,dct,k0,k1,k2,k3,k5,h.nsMap ns,B,B,n,n,initId,initId,bmB,ho,?_,nsMap_none_of_in X h5 h6,tail_of_in X h4,OwnTail.has (tail_of_in X h4) f.hasBase,f,f.hasB,f⟩
   exact Heap.Ns.of_isNs (isNs_of_in X h5)
  ·cases hx
 ·cases hx
theorem oj:isSubtype (.type "type") (.type "tuple")=pure false:=by rw [isSubtype_type];kernel_rfl
theorem ph {M:Model}{A:Around}{E:Value->Shared->Prop}{nm q nm' q':Str}{C N R N':Addr}{bs bm bs' bm':List Value}{hdct hdct':Bool}{sn sn':List Str}{sub sub':List Value}{ab ab':Bool}{col col':Option Bool}{dd dd':Option Addr}{k0 k1 k2 k3 k5 l0 l1 l2 l3 l5:Option Value}{newId newId':String}
  {s:Shared}{e:Addr}{oe:Obj}{Q:Bool->Shared->Prop} (hC:s.heap.get? C=some (excClassObj nm q C N bs bm hdct sn sub ab col dd k0 k1 k2 k3 k5 newId)) (hR:s.heap.get? R=some (excClassObj nm' q' R N' bs' bm' hdct' sn' sub' ab' col' dd' l0 l1 l2 l3 l5 newId'))
  (he:s.heap.get? e=some oe) (hc:oe.cls=.ref C) (hb:bm'.contains (.type "BaseException")=true) (k:Q ((Value.ref C::bm).contains (.ref R)) s):wpAny M A (excMatches (.ref e) (.ref R)) Q E s:=by
 unfold excMatches
 refine wpAny_bind (wpAny_isInstance (T:="type") ⟨_,hR,rfl⟩ oj ?_)
 simp only [Bool.false_eq_true,if_false,pure_bind,List.forIn_cons,List.forIn_nil]
 obtain⟨h,g,d,tk,os⟩:=s
 have hex:∀{Q':Bool->Shared->Prop},Q' true ⟨h,g,d,tk,os⟩->wpAny M A (isExcClass (.ref R)) Q' E ⟨h,g,d,tk,os⟩:=fun {Q'} qq=>by
  unfold isExcClass isType
  simp only [bind_assoc,pure_bind]
  refine wpAny_bind (wpAny_loadPart hR ?_)
  simp only [if_true]
  refine wpAny_isSubtype_exc hR ?_
  rw [List.contains_cons,hb,Bool.or_true]
  exact qq
 refine wpAny_bind (wpAny_bind (wpAny_bind (hex ?_)))
 simp only [Bool.not_true,Bool.false_eq_true,if_false]
 refine wpAny_pure (wpAny_pure (wpAny_bind (wpAny_typeOf_ref he ?_)))
 rw [hc]
 refine wpAny_bind (wpAny_bind (wpAny_bind (wpAny_isSubtype_exc hC ?_)))
 cases c:(Value.ref C::bm).contains (Value.ref R) with
 | true =>
  rw [c] at k
  exact wpAny_pure (wpAny_pure (wpAny_pure k))
 | false =>
  rw [c] at k
  exact wpAny_pure (wpAny_pure (wpAny_pure k))
section
variable {X:Cx}{pins:List (Addr×Obj)}{σ:List (Option V)}{H H':Hp}{s:Shared}{h':Heap}
theorem Inv.stepN {g':Array GenState}{t':Nat}{d':Drawn}{ch:List Addr} (I:Inv X pins σ H s)
  (hch:∀b∈ch,X.s₀.heap.get? b=none/\b≠X.env.locals/\(∀x c,X.env.cells.lookup x=some c->c≠b)/\∀p∈X.pn++pins,p.1≠b)
  (keep:∀b o,b≠X.env.locals->b∉X.fs->b∉ch->s.heap.get? b=some o->H b=none->h'.get? b=some o)
  (slot:∀b o,b≠X.env.locals->b∈X.fs->b∉ch->s.heap.get? b=some o->H b=none->∃sl,h'.get? b=some { o with slots:=sl }) (free:∀b o,b∉ch->s.heap.get? b=some o->H b=none->H' b=none)
  (there:∀b o,b∉ch->s.heap.get? b=some o->∃o',h'.get? b=some o')
  (tups:∀b xs,H b=some (.tup xs)->H' b=some (.tup xs)) (frzs:∀b o u,H b=some (.frz o u)->H' b=some (.frz o u)) (tbls:∀b ps,H b=some (.tbl ps)->∃more,H' b=some (.tbl (ps++more)))
  (ns:∀m,s.heap.Ns X.env.locals m->h'.Ns X.env.locals m) (hok:HOk X.prog X.w H' h') (hg:AllBare g') :
  Inv X pins σ H' { s with heap:=h',gens:=g',drawn:=d',toks:=t' }:=by
 have neL:∀b o,X.s₀.heap.get? b=some o->b≠X.env.locals:=fun b o e=>Nat.ne_of_lt (Nat.lt_of_lt_of_le (Heap.lt_size e) I.ok.above)
 have neC:∀b o,X.s₀.heap.get? b=some o->b∉X.ex->b∉ch:=fun b o e hx hb=>by
  rw [(hch b hb).1] at e;cases e
 have cellK:∀x c,X.env.cells.lookup x=some c->∀v,s.heap.IsCell c v->h'.IsCell c v:=fun x c e v ⟨o,ho,hd⟩=>by
  have nch:c∉ch:=fun z=>(hch c z).2.2.1 x c e rfl
  by_cases hc:c∈X.fs
  ·obtain⟨sl,q⟩:=slot c o (I.cne x c e) hc nch ho (I.freeC x c e)
   exact⟨_,q,hd⟩
  ·exact⟨o,keep c o (I.cne x c e) hc nch ho (I.freeC x c e),hd⟩
 refine⟨I.ok,I.os,hg,⟨fun b o e n hb hx=>?_,fun b o e n hb hx=>?_,fun b o e n hx=>?_,fun b o e hx=>?_,fun b xs e=>tups b xs (I.base.tups b xs e),fun b o xs e=>frzs b o xs (I.base.frzs b o xs e),fun b ps e=>?_⟩,?_,fun x c e=>?_,?_,fun x c e=>?_,fun p hp=>?_,hok,I.len⟩
 ·exact keep b o (neL b o e) hb (neC b o e hx) (I.base.keep b o e n hb hx) (I.base.free b o e n hx)
 ·obtain⟨sl,e1⟩:=I.base.slot b o e n hb hx
  obtain⟨sl',e2⟩:=slot b _ (neL b o e) hb (neC b o e hx) e1 (I.base.free b o e n hx)
  exact⟨sl',e2⟩
 ·obtain⟨o',e1⟩:=I.base.there b o e hx
  exact free b o' (neC b o e hx) e1 (I.base.free b o e n hx)
 ·obtain⟨o',e1⟩:=I.base.there b o e hx
  exact there b o' (neC b o e hx) e1
 ·obtain⟨m1,e1⟩:=I.base.tbls b ps e
  obtain⟨m2,e2⟩:=tbls b _ e1
  exact⟨m1++m2,by rw [e2,Array.append_assoc]⟩
 ·obtain⟨m,hn,hl⟩:=I.loc
  refine⟨m,ns m hn,fun i x v e1 e2 e3=>?_⟩
  obtain⟨u,r,l⟩:=hl i x v e1 e2 e3
  refine⟨u,r,?_⟩
  rcases l with l | ⟨k,c,e,z⟩
  ·exact .inl l
  ·exact .inr ⟨k,c,e,cellK x c e _ z⟩
 ·obtain⟨v,z⟩:=I.cell x c e
  exact⟨v,cellK x c e v z⟩
 ·obtain⟨m,⟨o,_,_,ho,_⟩,_⟩:=I.loc
  exact free _ o (fun z=>(hch _ z).2.1 rfl) ho I.free
 ·obtain⟨v,o,ho,hd⟩:=I.cell x c e
  exact free c o (fun z=>(hch c z).2.2.1 x c e rfl) ho (I.freeC x c e)
 ·obtain⟨e,n,ne,nf,d⟩:=I.pin p hp
  have nch:p.1∉ch:=fun z=>(hch p.1 z).2.2.2 p hp rfl
  exact⟨keep p.1 p.2 ne nf nch e n,free p.1 p.2 nch e n,ne,nf,d⟩
theorem Inv.moved {G:List Addr} (I:Inv X pins σ H s) (hG:∀b∈G,X.s₀.heap.get? b=none/\H b=none/\b≠X.env.locals/\(∀x c,X.env.cells.lookup x=some c->c≠b)/\∀p∈X.pn++pins,p.1≠b)
  (kp:∀b o,s.heap.get? b=some o->b∉frs X.stack->b∉G->h'.get? b=some o) (sl:∀b o,s.heap.get? b=some o->b∈frs X.stack->∃sl,h'.get? b=some { o with slots:=sl }) :
  Inv X pins σ H { s with heap:=h' }:=by
 refine I.stepN (g':=s.gens) (d':=s.drawn) (t':=s.toks) (ch:=G) (fun b hb=>⟨(hG b hb).1,(hG b hb).2.2⟩) (fun b o hL hb hc e _=>kp b o e (fun z=>(List.mem_cons.mp (I.stkSub b z)).elim hL hb) hc) (fun b o hL hb hc e _=>?_) (fun _ _ _ _ n=>n) (fun b o hc e=>?_) (fun _ _ e=>e) (fun _ _ _ e=>e) (fun b ps e=>⟨#[],by rw [e];simp⟩) (fun m hm=>?_) (fun b u e=>?_) I.bare
 ·by_cases z:b∈frs X.stack
  ·exact sl b o e z
  ·exact⟨o.slots,kp b o e z hc⟩
 ·by_cases z:b∈frs X.stack
  ·obtain⟨q,q'⟩:=sl b o e z
   exact⟨_,q'⟩
  ·exact⟨o,kp b o e z hc⟩
 ·obtain⟨o,es,ep,ho,r⟩:=hm
  by_cases z:X.env.locals∈frs X.stack
  ·obtain⟨q,q'⟩:=sl _ o ho z
   exact⟨_,es,ep,q',r⟩
  ·exact⟨o,es,ep,kp _ o ho z (fun y=>(hG _ y).2.2.1 rfl),r⟩
 ·have nf:∀c v,H c=some v->c∉frs X.stack/\c∉G:=fun c v q=>⟨fun hm=>(by
   have:=I.stkFree c hm
   rw [q] at this;cases this),fun hm=>(by rw [(hG c hm).2.1] at q;cases q)⟩
  refine (I.hok b u e).stay (fun c v hc q=>?_) (fun _ q=>q) fun _ _ q=>q
  rcases hc with z | z
  ·rw [z] at q ⊢;exact kp b v q (nf b u e).1 (nf b u e).2
  ·exact kp c v q (nf c _ z).1 (nf c _ z).2
end
section
variable {X:Cx}{pins:List (Addr×Obj)}{σ:List (Option V)}{H:Hp}{s:Shared}
theorem qh {M:Model}{A:Around}{E:Value->Shared->Prop}{i:Nat}{x:Str}{v:V}{Q:Unit->Shared->Prop} (I:Inv X pins σ H s) (hN:X.N.Nodup) (hi:X.N[i]?=some x) (hk:X.env.scope.names.lookup x=some .local) (hv:σ[i]?=some (some v))
  (h:∀s',Inv X pins (σ.set i none) H s'->Q () s'):wpAny M A (unbindName X.env x) Q E s:=by
 obtain⟨m,hn,hl⟩:=id I.loc
 have hcls:(X.env.scope.kind == .class || (X.env.scope.kind == .module && X.env.locals != X.env.globals))=false:=by rw [I.ok.kind];rfl
 have hlen:i < σ.length:=by rw [I.len];exact (List.getElem?_eq_some_iff.mp hi).1
 obtain⟨u,r,lk⟩:=hl i x v hi hv (.inl hk)
 have hm:m x=some u:=by
  rcases lk with ⟨_,e⟩ | ⟨z,_⟩
  ·exact e
  ·have hk':X.env.kindOf x=some .local:=hk
   rcases z with z | z <;> (rw [hk'] at z;cases z)
 refine wpAny_unbindName_local hk hn hm hcls fun h' u' hn' hs=>?_
 have nb:∀b o,X.s₀.heap.get? b=some o->b≠X.env.locals:=fun b o e=>Nat.ne_of_lt (Nat.lt_of_lt_of_le (Heap.lt_size e) I.ok.above)
 have cne:=I.cne
 refine h _ ⟨I.ok,I.os,I.bare,⟨fun b o e n hb hx=>(hs.2 b (nb b o e)).trans (I.base.keep b o e n hb hx),fun b o e n hb hx=>?_,I.base.free,fun b o e hx=>?_,I.base.tups,I.base.frzs,I.base.tbls⟩,⟨_,hn',fun j y w e1 e2 e3=>?_⟩,fun y c e=>?_,I.free,I.freeC,fun p hp=>?_,fun b ob e=>?_,?_⟩
 ·obtain⟨sl,e1⟩:=I.base.slot b o e n hb hx
  exact⟨sl,(hs.2 b (nb b o e)).trans e1⟩
 ·obtain⟨o',e1⟩:=I.base.there b o e hx
  exact⟨o',(hs.2 b (nb b o e)).trans e1⟩
 ·by_cases hj:j=i
  ·subst hj
   rw [List.getElem?_set_self hlen] at e2
   cases e2
  ·rw [List.getElem?_set_ne (Ne.symm hj)] at e2
   obtain⟨u2,r2,q⟩:=hl j y w e1 e2 e3
   refine⟨u2,r2,?_⟩
   rcases q with ⟨k,e⟩ | ⟨k,c,e,z⟩
   ·refine .inl ⟨k,?_⟩
    have:y≠x:=fun e=>hj (iX hN e1 (e ▸ hi))
    simp [this,e]
   ·exact .inr ⟨k,c,e,z.sameBut hs (cne y c e)⟩
 ·obtain⟨w',z⟩:=I.cell y c e
  exact⟨w',z.sameBut hs (cne y c e)⟩
 ·obtain⟨e,n,ne,nf,d⟩:=I.pin p hp
  exact⟨(hs.2 p.1 ne).trans e,n,ne,nf,d⟩
 ·refine (I.hok b ob e).stay (fun c w' hc q=>(hs.2 c ?_).trans q) (fun _ q=>q) fun _ _ q=>q
  rintro rfl
  rcases hc with z | z
  ·have:=I.free
   rw [z] at this;rw [this] at e;cases e
  ·rw [I.free] at z;cases z
 ·rw [List.length_set];exact I.len
end
section
variable {X:Cx}{pins:List (Addr×Obj)}{σ:St}{H:Hp}{s:Shared}{ea C:Addr}{o:HO}
theorem Inv.track (I:Inv X pins σ H s) (hn:H ea=none) (h0:X.s₀.heap.get? ea=none) (hl:ea≠X.env.locals) (hc:∀x c,X.env.cells.lookup x=some c->c≠ea) (hp:∀p∈X.pn++pins,p.1≠ea)
  (new:aQ X.prog X.w (upd H ea o) s.heap ea o):Inv X pins σ (upd H ea o) s:=by
 have J:=I.stepN (h':=s.heap) (H':=upd H ea o) (g':=s.gens) (d':=s.drawn) (t':=s.toks) (ch:=[ea]) (fun b hb=>by
   have z:b=ea:=by simpa using hb
   rw [z];exact⟨h0,hl,hc,hp⟩) (fun b o _ _ _ e _=>e) (fun b o _ _ _ e _=>⟨o.slots,e⟩) (fun b o hb e n=>by rw [ai (fun z=>hb (by simp [z]))];exact n) (fun b o _ e=>⟨o,e⟩)
  (fun b xs e=>by rw [ai (au e hn)];exact e) (fun b o u e=>by rw [ai (au e hn)];exact e) (fun b ps e=>⟨#[],by rw [ai (au e hn),e];simp⟩) (fun m hm=>hm) (fun b u e=>?_) I.bare
 ·exact J
 ·by_cases z:b=ea
  ·rw [z,ah] at e
   cases e
   rw [z];exact new
  ·rw [ai z] at e
   exact (I.hok b u e).stay (fun _ _ _ q=>q) (fun b q=>by rw [ai (au q hn)];exact q) (fun b xs q=>by rw [ai (au q hn)];exact q)
noncomputable def cG (ea C:Addr) (dx:Option Addr):HO:=.ext fun h=>∃oe vs,h.get? ea=some oe/\oe.cls=.ref C/\oe.dict=dx/\oe.data=Data.fields vs/\vs[2]?=some Value.none
theorem sP {P:Program}{w:World}{H:Hp}{h:Heap}{oe:Obj}{dx:Option Addr}{vs:Array Value} (h1:h.get? ea=some oe) (h2:oe.cls=.ref C) (h3:oe.dict=dx) (h4:oe.data=Data.fields vs) (h5:vs[2]?=some Value.none):aQ P w H h ea (cG ea C dx) :=
 ⟨⟨oe,vs,h1,h2,h3,h4,h5⟩,⟨oe,h1⟩,fun h1' h2' ⟨o,vs',q1,q2⟩ k=>⟨o,vs',k o q1,q2⟩⟩
end
noncomputable def Cx.held (X:Cx) (ea:Addr):Cx:={ X with A:=X.A.mark (some (.ref ea)),calm:=false,xe:=fun _ _=>False }
section
variable {X:Cx}{pins:List (Addr×Obj)}{σ:St}{H:Hp}{s:Shared}{ea:Addr}
theorem Inv.held (I:Inv X pins σ H s) (ea:Addr):Inv (X.held ea) pins σ H s :=
 ⟨⟨I.ok.mod,I.ok.kind,I.ok.glob,I.ok.blt,I.ok.above,I.ok.inj,I.ok.has,I.ok.cab,(fun z=>by cases z),I.ok.frames,I.ok.stk,I.ok.exf,I.ok.bs,I.ok.bsz,I.ok.noex,I.ok.exfs,I.ok.funs,I.ok.frf⟩,I.os,I.bare,I.base,I.loc,I.cell,I.free,I.freeC,I.pin,I.hok,I.len⟩
theorem Inv.unheld (ok:X.Ok) (I:Inv (X.held ea) pins σ H s):Inv X pins σ H s :=
 ⟨ok,I.os,I.bare,I.base,I.loc,I.cell,I.free,I.freeC,I.pin,I.hok,I.len⟩
theorem gJ {M:Model}{A:Around}{E:Value->Shared->Prop}{i:Nat}{n:Str}{pos:Pos}{Q:Unit->Shared->Prop} (I:Inv X pins σ H s) (hN:X.N.Nodup) (hi:X.N[i]?=some n) (hk:X.env.scope.names.lookup n=some .local)
  (h:∀s',Inv X pins (σ.set i none) H s'->Q () s'):wpAny M A (do bindName X.env n Value.none;unbindBehindTheSuite X.env n pos) Q E s:=by
 refine wpAny_bind (wpAny_bindName (fC I hN hi (.inl hk) (v:=.non) rfl (fun s' I'=>?_) (.inr hk)))
 have hl:i < σ.length:=by rw [I.len];exact (List.getElem?_eq_some_iff.mp hi).1
 unfold unbindBehindTheSuite
 refine wpAny_onRaise (qh I' hN hi hk (v:=.non) (List.getElem?_set_self hl) fun s2 I2=>h s2 ?_)
 rw [List.set_set] at I2
 exact I2
noncomputable def Under (h:Heap) (C R:Addr):Prop:=∃(nm q:Str) (N:Addr) (bs bm:List Value) (hdct:Bool) (sn:List Str) (sub:List Value) (ab:Bool) (col:Option Bool) (dd:Option Addr) (k0 k1 k2 k3 k5:Option Value) (newId:String),
 h.get? C=some (excClassObj nm q C N bs bm hdct sn sub ab col dd k0 k1 k2 k3 k5 newId)/\(Value.ref C::bm).contains (.ref R)=true
noncomputable def nE (D:Ends) (j:Nat):Ends:={ nx:=fun σ H=>D.nx (σ.set j none) H,rt:=D.rt,bk:=fun σ H=>D.bk (σ.set j none) H,ct:=fun σ H=>D.ct (σ.set j none) H }
end
section
variable {X:Cx}{st b0:Stmt}{suite:List Stmt}{tx:TSX}{th:TS}{x n:Str}{R:Addr}{j:Nat}{np hpos pos:Pos}
end
section
variable {X:Cx}{pins:List (Addr×Obj)}{σ:St}{H:Hp}{s:Shared}
theorem Inv.toNox (I:Inv X pins σ H s):Inv X.nox pins σ H s:=⟨⟨I.ok.mod,I.ok.kind,I.ok.glob,I.ok.blt,I.ok.above,I.ok.inj,I.ok.has,I.ok.cab,I.ok.hd,I.ok.frames,I.ok.stk,I.ok.exf,I.ok.bs,I.ok.bsz,I.ok.noex,I.ok.exfs,I.ok.funs,I.ok.frf⟩,I.os,I.bare,I.base,I.loc,I.cell,I.free,I.freeC,I.pin,I.hok,I.len⟩
theorem Inv.ofNox (I:Inv X.nox pins σ H s):Inv X pins σ H s:=⟨⟨I.ok.mod,I.ok.kind,I.ok.glob,I.ok.blt,I.ok.above,I.ok.inj,I.ok.has,I.ok.cab,I.ok.hd,I.ok.frames,I.ok.stk,I.ok.exf,I.ok.bs,I.ok.bsz,I.ok.noex,I.ok.exfs,I.ok.funs,I.ok.frf⟩,I.os,I.bare,I.base,I.loc,I.cell,I.free,I.freeC,I.pin,I.hok,I.len⟩
end
section
variable {X:Cx}{st:Stmt}{rest:List Stmt}{t u:TSX}{pos:Pos}
end
open Builtin Builtin.ObjectAttr
inductive hU (h:Heap) (S:List Str) (bmB:List Value):List Value->Prop
 | base:hU h S bmB bmB
 | own {B:Addr}{c0:Value}{dd:Option Addr}{cd:ClassData}{sl:Array (Option Value)}{m:Str->Option Value}{tl:List Value} (e:h.get? B=some ⟨c0,dd,.cls cd,sl⟩) (n:h.Ns cd.ns m) (i:∀x∈S,m x=none) (r:hU h S bmB tl):hU h S bmB (.ref B::tl)
section
variable {h h':Heap}{S:List Str}{bmB tl:List Value}
end
section
variable {M:Model}{A:Around}{E:Value->Shared->Prop}{h:Heap}{g:Array GenState}{d:Drawn}{t:Nat}{os:OsState}{S:List Str}{bmB tl:List Value}{x:Str}{y:Option Value}{Q:Option Value->Shared->Prop}
variable {nm q:Str}{C N:Addr}{bs bm:List Value}{hdct:Bool}{sn:List Str}{sub:List Value}{ab:Bool}{col:Option Bool}{dd:Option Addr}{k0 k1 k2 k3 k5:Option Value}{B newId:String}{mN:Str->Option Value}
end
structure vt (S:List Str) (h:Heap) (C f:Addr) (nm q:Str) (N:Addr) (bs bm bmB:List Value) (sn:List Str) (sub:List Value) (ab:Bool) (col:Option Bool) (dd:Option Addr) (k0 k1 k2 k3 k5:Option Value) (mN:Str->Option Value) (B newId initId sa ow:String):Prop where
 at_:h.get? C=some (excClassObj nm q C N bs bm true sn sub ab col dd k0 k1 k2 k3 k5 newId)
 ns:h.Ns N mN
 init:mN (Str.ofString "__init__")=some (.ref f)
 no:∀x∈S,mN x=none
 tail:hU h (Str.ofString "__init__"::S) bmB bm
 bf:ExcBaseFacts B newId initId bmB
 sf:StoreFacts B bmB sa ow
 af:ExcAttrBase B bmB
section
variable {prog:Program}{w:World}{A:Around}{E:Value->Shared->Prop}{h:Heap}{g:Array GenState}{d:Drawn}{t:Nat}{os:OsState}
 {S:List Str}{C f:Addr}{nm q:Str}{N:Addr}{bs bm bmB:List Value}{sn:List Str}{sub:List Value}{ab:Bool}{col:Option Bool}{dd:Option Addr}{k0 k1 k2 k3 k5:Option Value}{mN:Str->Option Value}{B newId initId sa ow:String}
end
section
variable {X:Cx}{pins:List (Addr×Obj)}{σ:St}{H:Hp}{s:Shared}{ea:Addr}{φ:Heap->Prop}
end
section
variable {M:Model}{A:Around}{E:Value->Shared->Prop}{s:Shared}{env:Env}{x:Sem Value}{Q:Flow->Shared->Prop}
 {nm q:Str}{C N:Addr}{bs bm:List Value}{hdct:Bool}{sn:List Str}{sub:List Value}{ab:Bool}{col:Option Bool}{dd:Option Addr}{k0 k1 k2 k3 k5:Option Value}{newId:String}
end
noncomputable def vN (S:List Str) (h:Heap) (C f:Addr):Prop:=∃nm q N bs bm bmB sn sub ab col dd k0 k1 k2 k3 k5 mN B newId initId sa ow,vt S h C f nm q N bs bm bmB sn sub ab col dd k0 k1 k2 k3 k5 mN B newId initId sa ow/\(∀x∈S,x≠Str.ofString "__setattr__"->x≠Str.ofString "__getattribute__"->x≠Str.ofString "__getattr__"->typeLookup (.type B) x=pure none)/\∃oI,h.get? f=some oI/\oI.cls=.type "function"
section
variable {X:Cx}{x:Str}{C f:Addr}{fd:FuncData}{ps:List Str}{sp:Sp}{k:Nat}{e:Expr}{es:List Expr}{t:TA}{np cpos pos:Pos}{W:Value->Option Addr->Hp->Prop}{S:List Str}
end
open Builtin Builtin.ObjectAttr
section
variable {prog:Program}{w:World}{A:Around}{E:Value->Shared->Prop}{h:Heap}{g:Array GenState}{d:Drawn}{t:Nat}{os:OsState}
 {S:List Str}{C f x:Addr}{nm q:Str}{N:Addr}{bs bm bmB:List Value}{sn:List Str}{sub:List Value}{ab:Bool}{col:Option Bool}{dd:Option Addr}{k0 k1 k2 k3 k5:Option Value}{mN:Str->Option Value}{B newId initId sa ow:String}
 {o:Obj}{vs:Array Value}{name:Str}{v:Value}
end
open Builtin Builtin.ObjectAttr
section
variable {prog:Program}{w:World}{A:Around}{E:Value->Shared->Prop}{h:Heap}{g:Array GenState}{d:Drawn}{t:Nat}{os:OsState}
 {S:List Str}{C f x dx:Addr}{nm q:Str}{N:Addr}{bs bm bmB:List Value}{sn:List Str}{sub:List Value}{ab:Bool}{col:Option Bool}{dd:Option Addr}{k0 k1 k2 k3 k5:Option Value}{mN mA:Str->Option Value}{B newId initId sa ow:String}
 {o:Obj}{vs:Array Value}{name:Str}{v:Value}
end
section
variable {X:Cx}{S:List Str}{o e value:Expr}{n:Str}{pos pos':Pos}{ta tv:TE}{C f:Addr}
end
noncomputable abbrev veM:List Value:=[.type "ValueError",.type "Exception",.type "BaseException",.type "object"]
theorem lS {K:Frag}{h:Heap}{C:Addr} (X:K.In h) (hx:excIn K C veM "ValueError.__new__"=true):dD h C:=tu X hx F.excBase_ValueError
noncomputable def je (K:Frag) (C R:Addr):Bool:=match K.lookup C with
 | some ⟨.type "type",_,.cls cd,sl⟩=>(match cd.mro,sl.toList with
  | .ref C'::bm,[_,_,_,_,some (.builtin _),_]=>C' == C && !cd.hasDel && (Value.ref C::bm).contains (.ref R)
  | _,_=>false)
 | _=>false
theorem rk {K:Frag}{h:Heap}{C R:Addr} (X:K.In h) (hx:je K C R=true):Under h C R:=by
 unfold je at hx
 split at hx
 ·rename_i dct cd sl heq
  split at hx
  ·rename_i C' bm k0 k1 k2 k3 n k5 hm hs
   simp only [Bool.and_eq_true,Bool.not_eq_true',beq_iff_eq] at hx
   obtain⟨⟨h1,h2⟩,h3⟩:=hx
   subst h1
   have ho:=X _ _ heq
   have hsl:sl=#[k0,k1,k2,k3,some (.builtin n),k5]:=by
    rw [<- Array.toList_inj];exact hs
   obtain⟨nm,bs,mro,ns,qn,hdct,sn,sub,ab,col,hdel⟩:=cd
   simp only at hm h2 h3
   subst hm
   subst h2
   subst hsl
   exact⟨nm,qn,ns,bs,bm,hdct,sn,sub,ab,col,dct,k0,k1,k2,k3,k5,n,ho,h3⟩
  ·cases hx
 ·cases hx
noncomputable def vL (h:Heap) (C:Addr):Prop:=∃(nm q:Str) (N:Addr) (bs bm:List Value) (hdct:Bool) (sn:List Str) (sub:List Value) (ab:Bool) (col:Option Bool) (dd:Option Addr) (k0 k1 k2 k3 k5:Option Value) (newId:String),
 h.get? C=some (excClassObj nm q C N bs bm hdct sn sub ab col dd k0 k1 k2 k3 k5 newId)/\bm.contains (Value.type "BaseException")=true
section
variable {X:Cx}{st b0:Stmt}{suite:List Stmt}{tx:TSX}{th:TS}{x n:Str}{R:Addr}{j:Nat}{np hpos pos:Pos}
end
noncomputable abbrev TAX:=(St->Value->Option Addr->Hp->Prop)->St->Hp->(List V->Hp->Prop)->Prop
noncomputable def PAX (X:Cx) (es:List Expr) (t:TAX):Prop:=∀(pos:Pos) (pins:List (Addr×Obj)) (s:Shared) (σ:St) (H:Hp) (Q:List V->Hp->Prop) (Ex:St->Value->Option Addr->Hp->Prop),Inv X pins σ H s->t Ex σ H Q ->
 wpAny (model X.prog X.w) X.A (spliced (backTo pos (starEach es X.env))) (AP X pins σ Q) (XP X pins Ex) s
section
variable {X:Cx}{e:Expr}{es:List Expr}{pos:Pos}
theorem uN {t:TE} (h:PE X.nox e t):PEX X e (fun _ σ H Q=>t σ H Q):=fun pins s σ H Q Ex I hq =>
 wpAny_mono (h pins s σ H Q I.toNox hq) (fun _ _ ⟨v,H',I',r,q⟩=>⟨v,H',I'.ofNox,r,q⟩) fun _ _ z=>False.elim z
theorem sJ:PAX X [] (fun _ _ H Q=>Q [] H):=fun _ _ _ _ H Q _ I h=>Calls.spliced_nil ⟨[],H,I,.nil,h⟩
theorem lN {te:TEX}{t:TAX} (ha:PEX X e te) (hr:PAX X es t) (hs:starEach (e::es) X.env=(false,eval e X.env)::starEach es X.env:=by rfl):PAX X (e::es) (fun Ex σ H Q=>te Ex σ H fun x H1=>t Ex σ H1 fun xs H2=>Q (x::xs) H2):=by
 intro pos pins s σ H Q Ex I h
 rw [hs]
 refine (show wpAny _ _ (spliced ((false,eval e X.env)::backTo pos (starEach es X.env))) _ _ s from Calls.spliced_cons (thn (ha pins s σ H _ Ex I h) fun u s1 ⟨x,H1,I1,r1,q1⟩=>?_))
 exact thn (hr pos pins s1 σ H1 _ Ex I1 q1) fun us s2 ⟨xs,H2,I2,r2,q2⟩=>⟨x::xs,H2,I2,.cons r1 r2,q2⟩
theorem uf {x1}{t:TAX} (h:PAX X es t):PEX X (.Tuple es x1 pos) (fun Ex σ H Q=>t Ex σ H fun xs H1=>xs.length<=sizeLine/\∀p,H1 p=none->Q (.ref p) (upd H1 p (.tup xs))):=by
 intro pins s σ H Q Ex I hq
 refine wpAny_Tuple_spliced (thn (h pos pins s σ H _ Ex I hq) fun us s1 ⟨xs,H1,I1,r,z,q⟩=>⟨by rw [<- r.length];exact z,.ref s1.heap.objs.size,upd H1 s1.heap.objs.size (.tup xs),I1.laid (t':=s1.toks) (fun b u e=>Heap.get?_push_of_some _ e) (Nat.le_refl _) ?_,rfl,q _ (I1.hok.fresh (Nat.le_refl _))⟩)
 exact⟨z,us,r,⟨_,Heap.get?_push_size _ rfl,rfl,_,rfl⟩⟩
end
section
variable {X:Cx}{st b0:Stmt}{suite:List Stmt}{tx:TSX}{th:TS}{x:Str}{R:Addr}{np hpos pos:Pos}
end
open Builtin Builtin.ObjectAttr
section
variable {prog:Program}{w:World}{A:Around}{E:Value->Shared->Prop}{K:Frag}{x D:Addr}{ox:Obj}{odo:Option Obj}{hh:Heap}{g:Array GenState}{d:Drawn}{t:Nat}{os:OsState}
theorem pZ {M:Model}{nv:Value}{Q:Unit->Shared->Prop} (L0:Looks M hh (typeOf (.ref x)) (.ref D)) (L1:Looks M hh (isSubtype (.ref D) (.type "BaseException")) true) (hq:Q () ⟨hh,g,d,t,os⟩) :
  wpAny M A (checkBuiltinCall "BaseException.__getattribute__" ⟨[.ref x,nv],[]⟩) Q E ⟨hh,g,d,t,os⟩:=by
 have b1:builtinKind "BaseException.__getattribute__"=some .slot:=by decide +kernel
 have b2:splitId "BaseException.__getattribute__"=some ("BaseException","__getattribute__"):=by decide +kernel
 have ha:=F.args_bexc_ga (.ref x) nv
 simp only [checkBuiltinCall,b1,b2]
 refine wpAny_bind ?_
 unfold isInstance
 repeat (first | with_reducible refine L0.at ?_ | with_reducible refine L1.at ?_ | wp_step)
 exact hq
theorem qa {Q:Option Value->Shared->Prop}{s:Shared} (X:K.In s.heap) (I:InstAt s.heap x ox D odo) (SL:Slot "ValueError" "__getattribute__" "BaseException.__getattribute__") (hc:(clsIn K D).isSome=true) (hga:findIn K (.ref D) "__getattribute__"=some (some (.builtin "BaseException.__getattribute__"))) (hgb:findIn K (.ref D) "__getattr__"=some none)
  (ha:findIn K (.ref D) "__class__"=some (some (.builtin "object.__class__"))) (hn:specialIn K (.builtin "object.__class__") "__get__"=some (some (.builtin "getset_descriptor.__get__"))) (htk:takesIn K (.builtin "object.__class__")=some true)
  (hb:subIn K (.ref D) (.type "BaseException")=some true) (hm:mroIn K D (.type "object")=some true) (h:Q (some (.ref D)) { s with toks:=s.toks + 1 }) :
  wpAny (model prog w) A (getAttr? (.ref x) "__class__") Q E s:=by
 obtain⟨hh,g,d,t,os⟩:=s
 have L0:=I.type (M:=model prog w)
 have L1:=looks_findIn (M:=model prog w) X hga
 have L2:=looks_findIn (M:=model prog w) X hgb
 have L4:Looks (model prog w) hh (isSubtype (.ref D) (.type "BaseException")) true:=looks_subIn X hb
 obtain⟨cd,hc⟩:=Option.isSome_iff_exists.mp hc
 have hf:findObj K D odo "__class__"=some (.bind (.builtin "getset_descriptor.__get__") (.builtin "object.__class__")):=by
  simp only [findObj,hc,ha,hn,htk,Option.bind_some]
 have L3:=looks_find (M:=model prog w) X I hf
 have b3:=SL.bind (.ref x)
 have z2:(Value.builtin "BaseException.__getattribute__" == Value.builtin "object.__getattribute__")=false:=by decide +kernel
 unfold getAttr? getAttrBy? getAttrBy
 refine wpAny_bind (wpAny_mkText (wpAny_bind (wpAny_attempt (wpAny_holding (wpAny_bind (L0.at (wpAny_bind (L1.at ?_))))))))
 dsimp only
 rw [z2,Bool.and_false,if_neg Bool.false_ne_true]
 unfold getAttrByItsOwn hookBefore
 repeat (any_goals (first | assumption | with_reducible refine L2.at ?_ | wp_step))
 refine codeAny_call_builtin SL.plain F.entry_bexc_ga (pZ L0 L4 ?_)
 unfold Builtin.«object.__getattribute__»
 repeat (any_goals (first | assumption | with_reducible refine L0.at ?_ | with_reducible refine L3.at ?_ | wp_step))
 refine class_get (s:=⟨hh,g,d,t + 1,os⟩) X I hm (wpAny_pure ?_)
 exact handed_on rfl (wpAny_pure h)
structure ic (K:Frag) (D:Addr):Prop where
 cls:(clsIn K D).isSome=true
 ga:findIn K (.ref D) "__getattribute__"=some (some (.builtin "BaseException.__getattribute__"))
 gb:findIn K (.ref D) "__getattr__"=some none
 kl:findIn K (.ref D) "__class__"=some (some (.builtin "object.__class__"))
 gt:specialIn K (.builtin "object.__class__") "__get__"=some (some (.builtin "getset_descriptor.__get__"))
 tk:takesIn K (.builtin "object.__class__")=some true
 sb:subIn K (.ref D) (.type "BaseException")=some true
 mr:mroIn K D (.type "object")=some true
noncomputable def jo (K:Frag) (D:Addr):Bool:=(clsIn K D).isSome && findIn K (.ref D) "__getattribute__" == some (some (.builtin "BaseException.__getattribute__")) && findIn K (.ref D) "__getattr__" == some none && findIn K (.ref D) "__class__" == some (some (.builtin "object.__class__")) &&
 specialIn K (.builtin "object.__class__") "__get__" == some (some (.builtin "getset_descriptor.__get__")) && takesIn K (.builtin "object.__class__") == some true && subIn K (.ref D) (.type "BaseException") == some true && mroIn K D (.type "object") == some true
theorem tm {K:Frag}{D:Addr} (h:jo K D=true):ic K D:=by
 unfold jo at h
 simp only [Bool.and_eq_true,beq_iff_eq] at h
 obtain⟨⟨⟨⟨⟨⟨⟨h1,h2⟩,h3⟩,h4⟩,h5⟩,h6⟩,h7⟩,h8⟩:=h
 exact⟨h1,h2,h3,h4,h5,h6,h7,h8⟩
theorem rQ {K:Frag}{x D:Addr} (k:ic K D):KitX K (.ref x) (.ref D) (fun h=>∃ox odo,InstAt h x ox D odo) where
 ty:=fun _ _ _ ⟨_,_,I⟩=>I.type
 it:=fun _ _ X _=>by
  obtain⟨cd,hc⟩:=Option.isSome_iff_exists.mp k.cls
  unfold clsIn at hc
  split at hc
  ·rename_i ho
   intro A' Q' E' s' kk q
   unfold isType loadHead
   exact wpAny_bind (wpAny_loadPart (kk _ _ (X _ _ ho)) (wpAny_pure q))
  ·cases hc
 ne:=fun h tp dd its n sl X htp=>by
  obtain⟨cd,hc⟩:=Option.isSome_iff_exists.mp k.cls
  refine Bool.eq_false_iff.mpr fun q=>?_
  have e:D=tp:=Value.ref.inj (beq_iff_eq.mp q)
  subst e
  unfold clsIn at hc
  split at hc
  ·rename_i ho
   have z:=(X _ _ ho).symm.trans htp
   cases z
  ·cases hc
 ca:=fun X ⟨_,_,I⟩ h=>qa X I F.attrBase_ValueError.ga k.cls k.ga k.gb k.kl k.gt k.tk k.sb k.mr h
end
section
variable {X:Cx}
theorem rF {pins:List (Addr×Obj)}{σ:St}{H:Hp}{s:Shared}{a C:Addr}{dx:Option Addr} (I:Inv X pins σ H s) (ea:H a=some (cG a C dx)) (hd:∀d,dx=some d->∃fs,H d=some (.xd fs)):∃ox odo,InstAt s.heap a ox C odo:=by
 obtain⟨⟨oe,vs,o1,o2,o3,o4,_⟩,_⟩:=(show aQ X.prog X.w H s.heap a (cG a C dx) from I.hok a _ ea)
 cases dx with
 | none=>exact⟨oe,none,o1,o2,by unfold notCls;rw [o4],by rw [o3];exact True.intro⟩
 | some d =>
  obtain⟨fs,hf⟩:=hd d rfl
  obtain⟨mA,nA,rA⟩:=(show aQ X.prog X.w H s.heap d (.xd fs) from I.hok d _ hf)
  obtain⟨o,es,ep,h1,h2⟩:=nA.ns
  exact⟨oe,some o,o1,o2,by unfold notCls;rw [o4],by rw [o3];exact h1⟩
theorem ck {C:Addr}{c:V}{cv:Value}{b:Bool} (k:ic X.K C) (rc:∀u,RelV c u->u=cv) (e:kitOne X.K (.ref C) cv=some b):bz X (.builtin "isinstance") (fun xs H Q=>∃a dx,xs=[.ref a,c]/\H a=some (cG a C dx)/\(∀d,dx=some d->∃fs,H d=some (.xd fs))/\Q (.bl b) H):=by
 intro pins s σ H xs us Q I r h
 obtain⟨a,dx,rfl,ea,hd,q⟩:=h
 obtain⟨u,w',rfl,rx,ry⟩:=vals2 r
 cases (show u=Value.ref a from rx)
 rw [rc _ ry]
 exact kia_one (rQ k) I.kIn (rF I ea hd) e (fun z=>nomatch z) fun tk=>⟨.bl b,H,I.tok tk,rfl,q⟩
end
end L2
namespace L2
open PySem PySem.Spec PyProof.Rows
structure cz (k:Nat) (A:Around):Prop where
 dp:A.depth + 3 * k + 5 < recursionLimit
 un:A.units + 16 * k + 200 < cLine
 gd:A.guards=some []
theorem cz.deeper {k:Nat}{A:Around} (r:cz (k + 1) A) (env:Env):cz k (A.deeper env) :=
 ⟨by have:=r.dp;show A.depth + 1 + 3 * k + 5 < _;omega,by have:=r.un;show A.units + 3 + 16 * k + 200 < _;omega,r.gd⟩
theorem cz.depth {k:Nat}{A:Around} (r:cz k A):A.depth < recursionLimit:=by have:=r.dp;omega
noncomputable def fj (CX:CXT) (P:Program) (w:World) (K:PySem.W.Frag) (mg:Str->Option Value) (base:Heap) (N:List Str) (qual:Str) (scope:Scope) (f:Addr) (cd:Value) (A:Around) (outer:List Env) (s:Shared) (H:Hp) (E:XK):Cx:={ aE CX P w K mg base N qual scope f cd A outer s H E with calm:=false }
structure vK (P:Program) (w:World) (K:PySem.W.Frag) (mg:Str->Option Value) (base:Heap) (CX:CXT) (k:Nat) (f:Addr) (fd:FuncData) (ps:List Str) (sp:Sp):Prop where
 len:∀vs H Q E,sp vs H Q E->vs.length=ps.length
 run:∀(A:Around) (outer:List Env) (s:Shared) (H:Hp) (args:Args) (us:List Value) (vs:List V) (Q:VK) (E:XK),cz k A->eN P w K mg base A outer s H->BindsTo s fd args (ps.zip us)->ar vs us->sp vs H Q E ->
  codeAny (model P w) A (.call (.ref f) args) (CR CX outer P w H s Q E) s
theorem pe {CX:CXT}{P:Program}{w:World}{K:PySem.W.Frag}{mg:Str->Option Value}{base:Heap}{N ps:List Str}{qual:Str}{scope:Scope}{f:Addr}{cd:Value}{A:Around}{outer:List Env}{s s1:Shared}{H:Hp}{E:XK}{us:List Value}{vs:List V}
  (S:aR N ps scope) (e0:eN P w K mg base A outer s H) (hl:vs.length=ps.length) (r:ar vs us)
  (x:InCallC s s.heap.objs.size (bindL (envOfC qual scope s.heap.objs.size f cd).kindOf (ps.zip us) fun _=>none) (cellsFrom (s.heap.objs.size + 1) scope.names []) (bindC (envOfC qual scope s.heap.objs.size f cd).kindOf (ps.zip us) fun _=>none) s1) :
  Inv (fj CX P w K mg base N qual scope f cd A outer s H E) [] (start N vs) H s1:=by
 have hpl:ps.length<=N.length:=by have:=congrArg List.length S.pre;rw [List.length_take] at this;omega
 obtain⟨h1,tk,rfl,hk⟩:=x.done
 have noA:∀b:Addr,b∉(fj CX P w K mg base N qual scope f cd A outer s H E).ex:=fun b z=>absurd (show b∈([]:List Addr) from z) (by simp)
 refine⟨⟨e0.mod,S.kind,rfl,rfl,Nat.le_refl _,fun y z c h1 h2=>?_,fun y hy=>?_,fun y c _ h=>?_,fun z=>(nomatch (show false=true from z)),Around.frames_deeper e0.frames,.inr ⟨rfl,rfl⟩,fun b z=>absurd z (noA b),e0.bs,e0.bsz,fun b _ _=>noA b,fun b z=>absurd z (noA b),e0.funs,e0.frf⟩,
  rfl,e0.bare,Un.kept hk,⟨_,x.toInCall.ns,fun i y v h1 h2 h3=>?_⟩,fun y c h=>⟨_,x.cell y c h⟩,e0.hok.fresh (Nat.le_refl _),fun y c h=>?_,fun p hp=>absurd (show p∈([]:List (Addr×Obj)) from hp) (by simp),e0.hok.kept hk,?_⟩
 ·exact name_of_addr x.apart (PySem.mem_of_lookup h1) (PySem.mem_of_lookup h2)
 ·have hy:scope.names.lookup y=some .cell\/scope.names.lookup y=some .free:=hy
  rcases hy with hy | hy
  ·exact gw hy
  ·exact absurd rfl (S.nofree _ (PySem.mem_of_lookup hy))
 ·exact Nat.le_of_lt (x.above y c (PySem.mem_of_lookup h))
 ·have hi:i < vs.length:=by
   unfold start at h2
   by_cases hi:i < vs.length
   ·exact hi
   ·rw [List.getElem?_append_right (by simpa using hi)] at h2
    rw [List.getElem?_replicate] at h2
    split at h2 <;> cases h2
  have ha:vs[i]?=some v:=by
   unfold start at h2
   rw [List.getElem?_append_left (by simpa using hi),List.getElem?_map] at h2
   cases e:vs[i]? with
   | none=>rw [e] at h2;cases h2
   | some a=>rw [e] at h2;cases h2;rfl
  obtain⟨u,hu,rv⟩:=r.get ha
  have hp:ps[i]?=some y:=by
   rw [<- S.pre,List.getElem?_take_of_lt (by omega)];exact h1
  have ndP:ps.Nodup:=by rw [<- S.pre];exact S.nd.sublist (List.take_sublist _ _)
  refine⟨u,rv,?_⟩
  rcases S.par y (List.mem_of_getElem? hp) with k | k
  ·exact .inl ⟨k,iI ndP hp hu k⟩
  ·obtain⟨c,e⟩:=gw (n:=s.heap.objs.size + 1) k
   refine .inr ⟨.inl k,c,e,?_⟩
   have q:=x.cell y c e
   rw [iS ndP hp hu (by show scope.names.lookup y≠_;rw [k];decide)] at q
   exact q
 ·exact e0.hok.fresh (Nat.le_of_lt (x.above y c (PySem.mem_of_lookup h)))
 ·unfold start
  show _=N.length
  rw [List.length_append,List.length_map,List.length_replicate]
  omega
section
variable {X:Cx}{CX:CXT}{k:Nat}{f C:Addr}{fd:FuncData}{ps:List Str}{sp:Sp}{dvs:List V}{ds:List Value}{E:XK}{x m:Str}{p pos apos:Pos}{e o:Expr}{es:List Expr}{ta:TE}{t:TA}
end
section
variable {P:Program}{w:World}{K:PySem.W.Frag}{mg:Str->Option Value}{base:Heap}
end
structure eI (P:Program) (w:World) (K:PySem.W.Frag) (mg:Str->Option Value) (base:Heap) (CX:CXT) (k:Nat) (f:Addr) (fd:FuncData) (ps:List Str) (sp:Option Value->Sp):Prop where
 len:∀hv vs H Q E,sp hv vs H Q E->vs.length=ps.length
 run:∀(A:Around) (outer:List Env) (s:Shared) (H:Hp) (args:Args) (us:List Value) (vs:List V) (Q:VK) (E:XK),cz k A->eN P w K mg base A outer s H->BindsTo s fd args (ps.zip us)->ar vs us->sp A.handled vs H Q E ->
  codeAny (model P w) A (.call (.ref f) args) (CR CX outer P w H s Q E) s
theorem uw {CX:CXT}{P:Program}{w:World}{K:PySem.W.Frag}{mg:Str->Option Value}{base:Heap}{k:Nat}{f:Addr}{name qual:Str}{params:Arguments}{body:List Stmt}{scope:Scope}{dV kV doc pm cdv ct oc:Value}{an od:Option Addr}
  {osl:Array (Option Value)}{N ps:List Str}{sp:Option Value->Sp} (lk:K.lookup f=some ⟨oc,od,.func (PySem.W.fnOf name qual params body scope dV kV doc pm an cdv ct),osl⟩) (hcd:PySem.W.codeIn K cdv qual=true) (S:aR N ps scope)
  (len:∀hv vs H Q E,sp hv vs H Q E->vs.length=ps.length)
  (hbody:∀(A:Around) (outer:List Env) (s:Shared) (H:Hp) (vs:List V) (Q:VK) (E:XK),cz k (A.deeper (envOfC qual scope s.heap.objs.size f cdv))->sp A.handled vs H Q E ->
   ∃t,PSs (fj CX P w K mg base N qual scope f cdv A outer s H E) body t/\t { nx:=fun _ H'=>Q .non H',rt:=Q } (start N vs) H) :
  eI P w K mg base CX (k + 1) f (PySem.W.fnOf name qual params body scope dV kV doc pm an cdv ct) ps sp:=by
 refine⟨len,fun A outer s H args us vs Q E hr e0 hb r hsp=>?_⟩
 have hl:=len _ _ _ _ _ hsp
 have KX:K.In s.heap:=e0.mod.kin.keeps fun b o e=>(e0.bs b o e).1
 have lim:s.heap.NoLimit:=e0.mod.nolimit.keeps fun b o e=>(e0.bs b o e).1
 have hkind:∀y∈ps.zip us,scope.names.lookup y.1=some .local\/(scope.names.lookup y.1=some .cell/\((cellsFrom (s.heap.objs.size + 1) scope.names []).lookup y.1).isSome=true):=fun ⟨n,v⟩ hy=>by
  rcases S.par n (List.of_mem_zip hy).1 with q | q
  ·exact .inl q
  ·exact .inr ⟨q,PySem.W.cellsFrom_some _ _ _ (.inl q)⟩
 refine codeAny_call_function hr.depth (KX _ _ lk) rfl S.co S.gen rfl (PySem.W.codeRec_of KX hcd) (hb _ _ _ _ ?_)
 refine wpAny_newFunctionEnv_cells S.kind hkind fun env he s1 x=>?_
 subst he
 refine⟨lim.keeps x.toInCall.keep,codeAny_func ?_⟩
 obtain⟨t,ht,hq⟩:=hbody A outer s H vs Q E (hr.deeper _) hsp
 have I:Inv (fj CX P w K mg base N qual scope f cdv A outer s H E) [] (start N vs) H s1:=pe S e0 hl r x
 refine wpAny_mono (ht [] s1 (start N vs) H _ I hq) (fun fl s' hs=>?_) fun e s' hs=>hs
 have fin:∀{σ':St}{H':Hp}{v:V}{u:Value},Inv (fj CX P w K mg base N qual scope f cdv A outer s H E) [] σ' H' s'->RelV v u->Q v H'->CE outer P w H s Q u s' :=
  fun {σ' H' v u} J rv q=>⟨v,H',J.os,J.bare,J.base,J.hok,rv,q⟩
 cases fl with
 | ret u =>
  obtain⟨v,σ',H',J,rv,q⟩:=hs
  exact fin J rv q
 | next =>
  obtain⟨σ',H',J,q⟩:=hs
  exact fin (v:=V.non) (u:=Value.none) J rfl q
 | brk =>
  obtain⟨_,_,_,q⟩:=hs
  exact False.elim q
 | cont =>
  obtain⟨_,_,_,q⟩:=hs
  exact False.elim q
section
variable {X:Cx}{CX:CXT}{k:Nat}{f C:Addr}{fd:FuncData}{ps:List Str}{sp:Option Value->Sp}{dvs:List V}{ds:List Value}{E:XK}{x m:Str}{p pos apos:Pos}{e o:Expr}{es:List Expr}{ta:TE}{t:TA}
theorem si {pins:List (Addr×Obj)}{σ:St}{H:Hp}{s:Shared}{Q:VK}{us:List Value}{vs:List V} (F:eI X.prog X.w X.K X.mg X.base CX k f fd ps sp) (hr:cz k X.A) (hb:Binds X.K fd ps ds) (hd:ar dvs ds) (hx:dP CX X E)
  (I:Inv X pins σ H s) (r:ar vs us) (h:sp X.A.handled (vs++dvs) H Q E):wpAny (model X.prog X.w) X.A (call (.ref f) us) (EP X pins σ Q) X.xe s:=by
 have r2:ar (vs++dvs) (us++ds):=r.append hd
 have hl:(us++ds).length=ps.length:=by rw [<- r2.length];exact F.len _ _ _ _ _ h
 refine wpAny_call (codeAny_mono (F.run X.A X.stack s H ⟨us,[]⟩ (us++ds) (vs++dvs) Q E hr I.env0 (hb s us I.kIn hl) r2 h) fun r s' hq=>?_)
 cases r with
 | error e=>exact hx pins σ H s e s' I hq
 | ok fl =>
  cases fl with
  | ret u=>exact I.after hq
  | next=>exact False.elim hq
  | brk=>exact False.elim hq
  | cont=>exact False.elim hq
theorem qZ (F:eI X.prog X.w X.K X.mg X.base CX k f fd ps sp) (hr:cz k X.A) (hg:Gl X x) (hm:X.mg x=some (.ref f)) (hk:PySem.W.keepIn X.K (.ref f)=true) (hb:Binds X.K fd ps ds) (hd:ar dvs ds) (hx:dP CX X E)
  (ha:PA X (e::es) t) (hdb:(x == ("__debug__":Str))=false:=by decide) (he:starEach (e::es) X.env=(false,eval e X.env)::starEach es X.env:=by rfl) (hpl:(backTo pos (starEach es X.env)).any (·.1)=false:=by rfl) :
  PE X (.Call (.Name x p) (e::es) [] pos) (fi (sp X.A.handled) dvs E t):=by
 intro pins s σ H Q I h
 refine wpAny_Call_Name_kw (eX I hg hm ?_ hdb)
 refine PySem.W.callWith_K (h₀:=X.base) I.ok.mod.kin hk (thn (ha pos pins s σ H _ I h) fun us s1 ⟨vs,H1,I1,r,q⟩=>⟨I1.kIn,?_⟩) he hpl
 exact si F hr hb hd hx I1 r q
end
section
variable {P:Program}{w:World}{K:PySem.W.Frag}{mg:Str->Option Value}{base:Heap}
theorem Fun.okG {x qual:Str}{st:Stmt}{f:Addr}{fd:FuncData}{N ps:List Str}{k:Nat}{sp:Option Value->Sp} (F:Fun K x qual st f fd) (S:aR N ps (aI st)) (len:∀hv vs H Q E,sp hv vs H Q E->vs.length=ps.length)
  (hbody:∀(cdv:Value) (A:Around) (outer:List Env) (s:Shared) (H:Hp) (vs:List V) (Q:VK) (E:XK),cz k (A.deeper (envOfC qual (aI st) s.heap.objs.size f cdv))->sp A.handled vs H Q E ->
   ∃t,PSs (fj CX0 P w K mg base N qual (aI st) f cdv A outer s H E).nox (b9 st) t/\t { nx:=fun _ H'=>Q .non H',rt:=Q } (start N vs) H):eI P w K mg base CX0 (k + 1) f fd ps sp:=by
 obtain⟨oc,od,kV,doc,pm,an,cdv,ct,osl,rfl,lk,hcd⟩:=F.ex
 refine uw lk hcd S len fun A outer s H vs Q E hr hsp=>?_
 obtain⟨t,h,q⟩:=hbody cdv A outer s H vs Q E hr hsp
 exact⟨t,h.nox,q⟩
noncomputable def FnG (P:Program) (w:World) (K:PySem.W.Frag) (mg:Str->Option Value) (base:Heap) (k:Nat) (x:Str) (ps:List Str) (sp:Option Value->Sp):Prop :=
 ∃f fd,mg x=some (.ref f)/\PySem.W.keepIn K (.ref f)=true/\Binds K fd ps []/\eI P w K mg base CX0 k f fd ps sp
end
theorem uv {X:Cx}{k:Nat}{x:Str}{ps:List Str}{sp:Option Value->Sp}{e:Expr}{es:List Expr}{t:TA}{p pos:Pos} (F:FnG X.prog X.w X.K X.mg X.base k x ps sp) (hr:cz k X.A) (ha:PA X (e::es) t) (hg:Gl X x:=by rfl)
  (hdb:(x == ("__debug__":Str))=false:=by decide) (he:starEach (e::es) X.env=(false,eval e X.env)::starEach es X.env:=by rfl) (hpl:(backTo pos (starEach es X.env)).any (·.1)=false:=by rfl) :
  PE X (.Call (.Name x p) (e::es) [] pos) (fi (sp X.A.handled) [] E0 t):=by
 obtain⟨f,fd,h1,h2,h3,h4⟩:=F
 exact qZ h4 hr hg h1 h2 h3 .nil nu ha hdb he hpl
end L2
namespace L2
open PySem PySem.Spec PyProof.Rows PySem.W PySem.Calls
noncomputable def eH (h:Heap) (ea:Addr):Prop:=∃oe vs,h.get? ea=some oe/\oe.data=Data.fields vs/\vs[2]?=some Value.none
theorem eH.at {h h':Heap}{ea:Addr} (x:eH h ea) (k:∀o,h.get? ea=some o->h'.get? ea=some o):eH h' ea:=by
 obtain⟨oe,vs,h1,h2⟩:=x
 exact⟨oe,vs,k _ h1,h2⟩
theorem oU:entryFor table "proto.unchain"=some Builtin.«proto.unchain»:=entryFor_of_fast (by kernel_rfl)
theorem pF:plainId "proto.unchain"=true:=by decide +kernel
section
variable {prog:Program}{w:World}{A:Around}{E:Value->Shared->Prop}{s:Shared}
theorem oJ {ea:Addr}{e:Value}{R:Result->Shared->Prop} (hx:eH s.heap ea) (hR:R (.ok (.ret .none)) s):codeAny (model prog w) A (.builtin "proto.unchain" ⟨[e,.ref ea,.ref ea,.bool false],[]⟩) R s:=by
 obtain⟨oe,vs,h1,h2,h3⟩:=hx
 refine codeAny_builtin oU ?_
 rw [Around.under_plainId pF _]
 show wpAny _ A.in1 (field (.ref ea) 2 >>= _) _ _ s
 refine wpAny_bind (wpAny_field h1 h2 h3 ?_)
 show wpAny _ A.in1 (if (Value.none == Value.none)=true then _ else _) _ _ s
 rw [if_pos (show (Value.none == Value.none)=true from rfl)]
 exact wpAny_pure hR
theorem oZ {α:Type}{a ea:Addr}{Q:α->Shared->Prop}{o:Obj}{vs:Array Value} (hh:A.handled=some (.ref ea)) (hx:eH s.heap ea) (ho:s.heap.get? a=some o) (hd:o.data=Data.fields vs) (hz:2 < vs.size) (hn:ea≠a)
  (h:∀h',Heap.ExtBut a s.heap h'->(∃o',h'.get? a=some o'/\o'.cls=o.cls)->E (.ref a) { s with heap:=h' }):wpAny (model prog w) A (raiseNew (.ref a):Sem α) Q E s:=by
 unfold raiseNew
 refine wpAny_bind (wpAny_handled ?_)
 rw [hh]
 show wpAny _ _ (if (Value.ref ea != Value.ref a)=true then _ else _) _ _ s
 rw [if_pos (show (Value.ref ea != Value.ref a)=true from by simp [hn])]
 refine wpAny_bind (wpAny_holding (wpAny_runValue (oJ hx ?_)))
 unfold updateField
 refine wpAny_bind (wpAny_bind (wpAny_load ho ?_))
 rw [hd]
 show wpAny _ _ (if 2 < vs.size then _ else _) _ _ s
 rw [if_pos hz]
 have d8:=Obj.data_mapFields hd (fun z=>z.setIfInBounds 2 (Value.ref ea))
 refine wpAny_update ho (wpAny_throw (h _ ((Heap.SameBut.update ..).extBut) ⟨_,Heap.get?_update_self _ ho (Obj.isFreed_of_fields d8),Obj.cls_mapFields _ _⟩))
theorem qy {it l ea:Addr}{i:Nat}{items:Array Value}{Q:Option Value->Shared->Prop} (hh:A.handled=some (.ref ea)) (hx:eH s.heap ea)
  (hit:s.heap.IsListIter it l i) (hl:s.heap.IsList l items) (hi:items[i]?=none) (hne:ea≠it)
  (hQ:∀h',Heap.ExtBut it s.heap h'->Q none { s with heap:=h' }):wpAny (model prog w) A (pyNext (.ref it)) Q E s:=by
 obtain⟨o,ho,hc,hd⟩:=id hit
 obtain⟨ol,hol,_,nl,hdl⟩:=hl
 unfold pyNext
 refine wpAny_bind (wpAny_attempt (wpAny_callSpecial?_slot (name:=Str.ofString "__next__") hit.typeIs slot_listiter_next (wpAny_call_entry slot_listiter_next hit.typeIs entry_listiter_next ?_ (args_listiter_next _))))
 show wpAny _ _ (field (.ref it) 0 >>= _) _ _ s
 refine wpAny_bind (wpAny_field ho hd (x:=.ref l) rfl ?_)
 show wpAny _ _ (if (Value.ref l == Value.none)=true then _ else _) _ _ s
 rw [if_neg (by exact Bool.false_ne_true)]
 show wpAny _ _ (field (.ref it) 1 >>= _) _ _ s
 refine wpAny_bind (wpAny_field ho hd (x:=.int i 0) rfl ?_)
 show wpAny _ _ (seqItems? (.ref l) >>= _) _ _ s
 refine wpAny_bind (wpAny_seqItems hol hdl ?_)
 simp only [Int.toNat_natCast,hi]
 refine wpAny_bind (wpAny_rule (wpAny_bind (wpAny_setField ho hd (by simp) ?_)))
 show wpAny _ _ (newExc (.type "StopIteration") [] >>= _) _ _ _
 refine wpAny_bind ?_
 simp only [newExc,newTuple]
 refine wpAny_bind (wpAny_newObj_type ?_ (by size_fits))
 refine wpAny_bind (m:=firstArgMember _ _) (wpAny_of_eq (a:=Value.none) (by first | rfl | (simp only [firstArgMember];rfl)) ?_)
 refine wpAny_newObj_type ?_ (by size_fits)
 refine oZ (A:=A.in1) hh (hx.at fun o e=>Heap.get?_push_of_some _ (Heap.get?_push_of_some _ ((Heap.get?_update_other _ _ (Ne.symm hne)).trans e))) (Heap.get?_push_size _ rfl) rfl (by simp;omega) ?_ fun h' k ⟨o',q1,q2⟩=>?_
 ·obtain⟨oe,vs,z,_⟩:=hx
  have lz:=Heap.lt_size z
  intro z2
  rw [z2] at lz
  simp only [Heap.size_push,Heap.size_update] at lz
  exact Nat.lt_asymm lz (Nat.lt_succ_self _)
 ·refine wpAny_bind (wpAny_isInstance (T:="StopIteration") (b:=true) ⟨_,q1,q2⟩ isSubtype_stop ?_)
  refine wpAny_pure (hQ _ ?_)
  intro b ob hb eb
  refine k b ob (fun z2=>?_) ((((Heap.SameBut.update ..).extBut.push _).push _) b ob hb eb)
  have lz:=Heap.lt_size eb
  rw [z2] at lz
  simp only [Heap.size_push,Heap.size_update] at lz
  exact Nat.lt_asymm lz (Nat.lt_succ_self _)
end
theorem Walks.listH {prog:Program}{w:World}{A:Around}{ea:Addr} (hh:A.handled=some (.ref ea)) (I ax:Addr) (hne:ax≠I) (hna:ea≠I) (items:Array Value) :
  Walks prog w A I [I,ax,ea] [I] items.size (fun i v=>items[i]?=some v) (fun i h=>(h.IsListIter I ax i/\h.IsList ax items)/\eH h ea) where
 sub:=fun b hb=>by simp at hb;simp [hb]
 frame:=fun _ _ _ st hk=>⟨⟨st.1.1.at fun o e=>hk I (by simp) o e,st.1.2.at fun o e=>hk ax (by simp) o e⟩,st.2.at fun o e=>hk ea (by simp) o e⟩
 item:=fun i s Q E hi st hQ=>by
  refine wpAny_pyNext_list_item st.1.1 st.1.2 (x:=items[i]) (by simp [hi]) fun h' q1 q2=>hQ _ h' s.toks (by simp [hi]) ⟨⟨q1,st.1.2.extBut q2.extBut hne⟩,st.2.at fun o e=>q2.extBut _ _ hna e⟩ fun b o hb e=>?_
  exact q2.extBut b o (fun h=>hb (by simp [h])) e
 done:=fun s Q E st hQ=>qy hh st.2 st.1.1 st.1.2 (by simp) hna fun h' q=>hQ h' s.toks fun b o hb e=>q b o (fun h=>hb (by simp [h])) e
 self:=fun _ _ _ _ st hQ=>wpAny_pyIter_listiter st.1.1 hQ
section
variable {prog:Program}{w:World}{A:Around}{E:Value->Shared->Prop}{s:Shared}{R:Result->Shared->Prop}{I:Addr}{fp wr:List Addr}{n:Nat}{P:Nat->Value->Prop}{St:Nat->Heap->Prop}
end
section
variable {X:Cx}
theorem qP {ns:List Bool}{us:List Value} (r:ar (ns.map V.bl) us) {i:Nat}{v:Value} (h:us[i]?=some v):v=.bool ((ns[i]?).getD false):=by
 have hl:=r.length
 rw [List.length_map] at hl
 have hi:i < ns.length:=by rw [hl];exact (List.getElem?_eq_some_iff.mp h).1
 obtain⟨u,hu,ru⟩:=r.get (i:=i) (x:=.bl ns[i]) (by rw [List.getElem?_map,List.getElem?_eq_getElem hi];rfl)
 rw [h] at hu
 cases hu
 rw [List.getElem?_eq_getElem hi]
 exact ru
end
noncomputable def uU (tx:TSX) (th:Addr->TS) (j:Nat) (U:Addr->Prop):TS:=fun D σ H=>tx (fun σ1 cls dx H'=>∃C,cls=.ref C/\U C/\∀ea,H' ea=none->th ea (nE D j) (σ1.set j (some (.ref ea))) (upd H' ea (cG ea C dx))) D σ H
section
variable {X:Cx}{st b0:Stmt}{suite:List Stmt}{tx:TSX}{th:Addr->TS}{x n:Str}{R:Addr}{j:Nat}{np hpos pos:Pos}
theorem sW (hst:PSX X st tx) (hx:X.mg x=some (.ref R)) (hR:dD X.base R) (hth:∀ea,PSs (X.held ea) (b0::suite) (th ea)) (hN:X.N.Nodup) (hj:X.N[j]?=some n) (hn:X.env.scope.names.lookup n=some .local) (hstk:X.stack=X.env::X.outer) (hfr:X.env.frame=some X.env.locals) (hex:X.ex=[])
  (hg:Gl X x:=by rfl) (hdb:(x == ("__debug__":Str))=false:=by decide) :
  PS X (.Try [st] [.ExceptHandler (some (.Name x np)) (some n) (b0::suite) hpos] [] [] pos) (uU tx th j fun C=>Under X.base C R):=by
 intro pins s σ H D I h
 refine wpAny_Try_except (wpAny_execs_cons (wpAny_mono (hst pins s σ H D _ I h) (fun f s1 q=>?_) (fun e s1 q=>?_)))
 ·cases f with
  | next=>exact wpAny_execs_nil (wpAny_execs_nil q)
  | ret v=>exact q
  | brk=>exact q
  | cont=>exact q
 ·obtain⟨σ1,H1,s2,I1,ea,T,cls,a0,dx,H',rfl,os,bare,un,hok,n1,n2,m1,m2,trc,C,rfl,hu,hth'⟩:=q
  have I':Inv X pins σ1 H' s1:=I1.call' (ch:=[]) os un hok bare (by simp)
  have ffs:=I'.stack
  rw [hstk] at ffs
  have afr:X.A.frames=some (X.env::X.outer):=by rw [<- hstk];exact I'.ok.frames
  have there:∀b o,s2.heap.get? b=some o->∃o',s1.heap.get? b=some o':=fun b o q=>un.there b o q (by simp)
  have newAt:∀b,s2.heap.get? b=none->X.s₀.heap.get? b=none/\b≠X.env.locals/\(∀x c,X.env.cells.lookup x=some c->c≠b)/\∀p∈X.pn++pins,p.1≠b:=fun b q=>by
   refine⟨?_,fun z=>?_,fun y c e z=>?_,fun p hp z=>?_⟩
   ·cases hc:X.s₀.heap.get? b with
    | none=>rfl
    | some o =>
     obtain⟨o',q'⟩:=I1.base.there b o hc (by rw [hex];simp)
     rw [q] at q';cases q'
   ·obtain⟨m,⟨o,_,_,ho,_⟩,_⟩:=I1.loc
    rw [<- z,q] at ho;cases ho
   ·obtain⟨v,o,ho,_⟩:=I1.cell y c e
    rw [z,q] at ho;cases ho
   ·have:=(I1.pin p hp).1
    rw [z,q] at this;cases this
  have noH:∀b,s1.heap.get? b=none->H' b=none:=fun b q=>by
   cases hc:H' b with
   | none=>rfl
   | some o =>
    obtain⟨ob,q'⟩:=aQ.got (hok b o hc)
    rw [q] at q';cases q'
  have mk:∀b,s2.heap.get? b=none->H' b=none->X.s₀.heap.get? b=none/\H' b=none/\b≠X.env.locals/\(∀x c,X.env.cells.lookup x=some c->c≠b)/\∀p∈X.pn++pins,p.1≠b:=fun b q1 q2=>⟨(newAt b q1).1,q2,(newAt b q1).2⟩
  refine o6 (Q:=fun _ s3=>wpAny (model X.prog X.w) X.A (handleBy (Value.ref ea) X.env [ExceptHandler.ExceptHandler (some (Expr.Name x np)) (some n) (b0::suite) hpos]) (SP X pins D) X.xe s3) (base:=X.base) afr hfr ffs trc fun h3 T3 mv3 nw3 tr3=>?_
  have nT3:s2.heap.get? T3=none/\H' T3=none:=by
   refine⟨?_,noH T3 nw3⟩
   cases hc:s2.heap.get? T3 with
   | none=>rfl
   | some o =>
    obtain⟨o',q'⟩:=there T3 o hc
    rw [nw3] at q';cases q'
  have I3:Inv X pins σ1 H' { s1 with heap:=h3 }:=I'.moved (G:=[ea,T]) (fun b hb=>by
   simp at hb
   rcases hb with z | z
   ·rw [z];exact mk ea n1 m1
   ·rw [z];exact mk T n2 m2) (fun b o q hb hg=>mv3.keep b o q (by rw [<- hstk];exact hb) hg) (fun b o q hb=>mv3.slot b o q (by rw [<- hstk];exact hb))
  refine wpAny_handleBy_cons (codeAny_handlers_test ?_) (by intro z;cases z)
  refine eX (X:=X.held ea) (I3.held ea) hg hx ?_ hdb
  obtain⟨nm,q,N,bs,bm,bmB,hdct,sn,sub,ab,col,dd,k0,k1,k2,k3,k5,mN,B,Bn,newId,nid,initId,inN,bmN,a1,a2,a3,a4,a5,a6,a7,a8⟩:=hR
  obtain⟨nm',q',N',bs',bm',hdct',sn',sub',ab',col',dd',l0,l1,l2,l3,l5,newId',c1,c2⟩:=hu
  obtain⟨oe,vs,oT,ts,g1,g2,g3,g4,g5,g6,g7,g8,g9,g10⟩:=id tr3
  refine ph (I3.bk _ _ c1) (I3.bk _ _ a1) g1 g2 a5 ?_
  rw [c2]
  show codeAny _ _ (Code.handlers (.ref ea) [ExceptHandler.ExceptHandler none (some n) (b0::suite) hpos] X.env) _ _
  refine codeAny_handlers_suite_as (ground tr3 fun h4 same4 tr4=>?_)
  have I4:Inv X pins σ1 H' { s1 with heap:=h4 }:=Inv.moved (s:={ s1 with heap:=h3 }) (h':=h4) (G:=[T3]) I3 (fun b hb=>by
   have z:b=T3:=by simpa using hb
   rw [z];exact mk T3 nT3.1 nT3.2) (fun b o q hb hg=>(same4 b fun z=>hg (by simp [z])).trans q) (fun b o q hb=>⟨o.slots,(same4 b fun z=>by
    obtain⟨o2,q2,nf⟩:=dQ I3.stack b hb
    rw [z,g7] at q2;cases q2;exact nf _ g8).trans q⟩)
  obtain⟨oe4,vs4,oT4,ts4,f1,f2,f3,f4,_,_,_,_,_,f10⟩:=id tr4
  have I4t:Inv X pins σ1 (upd H' ea (cG ea C dx)) { s1 with heap:=h4 }:=I4.track m1 (newAt ea n1).1 (newAt ea n1).2.1 (newAt ea n1).2.2.1 (newAt ea n1).2.2.2 (sP f1 f2 f10 f4 f3.2)
  refine fC (X:=X.held ea) (I4t.held ea) hN hj (.inl hn) (v:=.ref ea) rfl (fun s5 I5=>?_) (.inr hn)
  refine wpAny_mono (hth ea pins s5 (σ1.set j (some (.ref ea))) (upd H' ea (cG ea C dx)) (nE D j) I5 (hth' ea m1)) (fun f s6 q6=>?_) (fun _ _ z=>False.elim z)
  cases f with
  | next =>
   obtain⟨σ2,H2,J,q⟩:=q6
   exact gJ (J.unheld I.ok) hN hj hn fun s7 I7=>⟨σ2.set j none,H2,I7,q⟩
  | brk =>
   obtain⟨σ2,H2,J,q⟩:=q6
   exact gJ (J.unheld I.ok) hN hj hn fun s7 I7=>⟨σ2.set j none,H2,I7,q⟩
  | cont =>
   obtain⟨σ2,H2,J,q⟩:=q6
   exact gJ (J.unheld I.ok) hN hj hn fun s7 I7=>⟨σ2.set j none,H2,I7,q⟩
  | ret u =>
   obtain⟨v,σ2,H2,J,rv,q⟩:=q6
   exact gJ (J.unheld I.ok) hN hj hn fun s7 I7=>⟨v,σ2.set j none,H2,I7,rv,q⟩
end
theorem rC {e:Value}{a b:Env} (h:a.frame=b.frame):noteFrame e a=noteFrame e b:=by
 unfold noteFrame PySem.frameOf
 rw [h]
theorem fH {h h' base:Heap}:∀{l:List Env},(∀b∈frs l,∀o,h.get? b=some o->∃sl,h'.get? b=some { o with slots:=sl })->h.FunFrames base l->h'.FunFrames base l
 | [],_,_=>by simp only [Heap.FunFrames]
 | e::l,hb,k=>by
  simp only [Heap.FunFrames] at k ⊢
  obtain⟨k1,⟨L,o,k2,k3,k4,k5⟩,k6⟩:=k
  obtain⟨sl,q⟩:=hb L (by unfold frs;rw [List.filterMap_cons,k2];simp) o k4
  exact⟨k1,⟨L,_,k2,k3,q,k5⟩,fH (fun b hm=>hb b (by unfold frs at hm ⊢;rw [List.filterMap_cons,k2];exact List.mem_cons_of_mem _ hm)) k6⟩
theorem Moved.refl (fr g:List Addr) (h:Heap):Moved fr g h h:=⟨fun _ _ e _ _=>e,fun _ o e _=>⟨o.slots,e⟩⟩
theorem Moved.trans {fr g g':List Addr}{h0 h1 h2:Heap} (a:Moved fr g h0 h1) (b:Moved fr g' h1 h2) (hg:∀x∈g',x∈g\/h0.get? x=none):Moved fr g h0 h2 :=
 ⟨fun x o e n1 n2=>b.keep x o (a.keep x o e n1 n2) n1 fun z=>(hg x z).elim n2 fun w=>(by rw [e] at w;cases w),fun x o e hx=>by
  obtain⟨s1,q1⟩:=a.slot x o e hx
  obtain⟨s2,q2⟩:=b.slot x _ q1 hx
  exact⟨s2,q2⟩⟩
theorem Moved.one {fr:List Addr}{h h':Heap}{x:Addr} (k:∀b o,b≠x->h.get? b=some o->h'.get? b=some o) (nx:x∉fr):Moved fr [x] h h' :=
 ⟨fun b o e _ n=>k b o (by simpa using n) e,fun b o e hb=>⟨o.slots,k b o (fun z=>nx (z ▸ hb)) e⟩⟩
section
variable {M:Model}{A:Around}{E:Value->Shared->Prop}{s:Shared}{env:Env}{outer:List Env}{L e T:Addr}{base:Heap}{cls a0:Value}{dx:Option Addr}{Q:Unit->Shared->Prop}{fl:Value}
theorem nfr {fr:List Env}{h base:Heap}{x:Addr}{o:Obj}{vs:Array Value} (ff:h.FunFrames base fr) (hx:h.get? x=some o) (hd:o.data=Data.fields vs):x∉frs fr:=fun hm=>by
 obtain⟨o',q,nf⟩:=dQ ff x hm
 rw [hx] at q;cases q
 exact nf _ hd
theorem bB.nT {h:Heap}{fr:List Env} (ff:h.FunFrames base fr) (ht:bB fl h e T cls a0 dx):T∉frs fr/\e∉frs fr:=by
 obtain⟨oe,vs,oT,ts,h1,h2,h3,h4,h5,h6,h7,h8,h9,h10⟩:=ht
 exact⟨nfr ff h7 h8,nfr ff h1 h4⟩
theorem bB.move {h h':Heap} (ht:bB fl h e T cls a0 dx) (k:∀b o,(b=e\/b=T)->h.get? b=some o->h'.get? b=some o):bB fl h' e T cls a0 dx:=by
 obtain⟨oe,vs,oT,ts,h1,h2,h3,h4,h5,h6,h7,h8,h9,h10⟩:=ht
 exact⟨oe,vs,oT,ts,k _ _ (.inl rfl) h1,h2,h3,h4,h5,h6,k _ _ (.inr rfl) h7,h8,h9,h10⟩
theorem fly {fr:Option Addr}{E:Value->Shared->Prop} (ht:bB fl s.heap e T cls a0 dx)
  (k:∀(h':Heap),(∀b,b≠T->h'.get? b=s.heap.get? b)->bB (fr.elim .none fun f=>rawInt f) h' e T cls a0 dx->Q () { s with heap:=h' }) :
  wpAny M A (setFlight (.ref e) fr) Q E s:=by
 obtain⟨oe,vs,oT,ts,h1,h2,h3,h4,h5,h6,h7,h8,h9,h10⟩:=ht
 have z3:3 < ts.size:=(Array.getElem?_eq_some_iff.mp h9).1
 unfold setFlight
 refine wpAny_bind (wpAny_field h1 h4 h5 ?_)
 rw [if_pos (show (Value.ref T != Value.none)=true from by simp)]
 refine wpAny_setField h7 h8 z3 (k _ (fun b n=>Heap.get?_update_other _ _ (Ne.symm n)) ?_)
 have d8:=Obj.data_mapFields h8 (fun z=>z.setIfInBounds 3 (fr.elim Value.none fun f=>rawInt f))
 exact⟨oe,vs,_,_,(Heap.get?_update_other _ _ h6).trans h1,h2,h3,h4,h5,h6,Heap.get?_update_self _ h7 (Obj.isFreed_of_fields d8),d8,by simp [z3],h10⟩
theorem lM (hf:A.frames=some (env::outer)) (hL:env.frame=some L) (ff:s.heap.FunFrames base (env::outer)) (ht:bB fl s.heap e T cls a0 dx)
  (k:∀(h':Heap) (T':Addr) (fl':Value),Moved (frs (env::outer)) [e,T] s.heap h'->(T'=T\/s.heap.get? T'=none)->bB fl' h' e T' cls a0 dx->Q () { s with heap:=h' }) :
  wpAny M A (noteFrame (.ref e) env) Q E s:=by
 have nn:=bB.nT ff ht
 obtain⟨oe,vs,oT,ts,h1,h2,h3,h4,h5,h6,h7,h8,h9,h10⟩:=id ht
 by_cases hfl:(fl == rawInt L)=true
 ·unfold noteFrame
  simp only [hL]
  refine wpAny_bind (wpAny_field h1 h4 h5 ?_)
  rw [if_pos (show (Value.ref T != Value.none)=true from by simp)]
  refine wpAny_bind (wpAny_field h7 h8 h9 ?_)
  rw [if_pos hfl]
  exact wpAny_pure (k s.heap T fl (.refl _ _ _) (.inl rfl) ht)
 ·subst h2 h10
  unfold noteFrame
  simp only [hL]
  refine wpAny_bind (wpAny_field h1 h4 h5 ?_)
  rw [if_pos (show (Value.ref T != Value.none)=true from by simp)]
  refine wpAny_bind (wpAny_field h7 h8 h9 ?_)
  rw [if_neg hfl]
  refine wpAny_bind (wpAny_setField h7 h8 (Array.getElem?_eq_some_iff.mp h9).1 ?_)
  have oth:∀b,b≠T->(s.heap.update T (Obj.mapFields fun z=>z.setIfInBounds 3 Value.none)).get? b=s.heap.get? b:=fun b n=>Heap.get?_update_other _ _ (Ne.symm n)
  have m1:Moved (frs (env::outer)) [T] s.heap (s.heap.update T (Obj.mapFields fun z=>z.setIfInBounds 3 Value.none)):=Moved.one (fun b o n q=>(oth b n).trans q) nn.1
  refine jg (s:={ s with heap:=s.heap.update T (Obj.mapFields fun z=>z.setIfInBounds 3 Value.none) }) hf (fH (fun b hb o q=>m1.slot b o q hb) ff) hL ((oth e (Ne.symm h6)).trans h1) h4 (Array.getElem?_eq_some_iff.mp h5).1 h3 fun h' T' mv nw tr=>k h' T' _ (Moved.trans ⟨fun b o q n1 n2=>m1.keep b o q n1 fun z=>n2 (by simp at z;simp [z]),m1.slot⟩ mv fun x hx=>.inl (by simp at hx;simp [hx])) ?_ tr
  by_cases z:T'=T
  ·exact .inl z
  ·exact .inr ((oth T' z).symm.trans nw)
theorem qb (hf:A.frames=some (env::outer)) (hL:env.frame=some L) (ff:s.heap.FunFrames base (env::outer)) (ht:bB fl s.heap e T cls a0 dx)
  (k:∀(h':Heap) (T':Addr),Moved (frs (env::outer)) [e,T] s.heap h'->(T'=T\/s.heap.get? T'=none)->Trc h' e T' cls a0 dx->Q () { s with heap:=h' }) :
  wpAny M A (leaving env (.ref e)) Q E s:=by
 unfold leaving
 have nn:=bB.nT ff ht
 refine wpAny_bind (lM hf hL ff ht fun h1 T1 fl1 mv nw tr=>?_)
 have ff1:=fH (fun b hb o q=>mv.slot b o q hb) ff
 refine ground tr fun h2 same tr2=>k h2 T1 (mv.trans (Moved.one (fun b o n q=>(same b n).trans q) (bB.nT ff1 tr).1) fun x hx=>?_) nw tr2
 have e':x=T1:=by simpa using hx
 subst e'
 rcases nw with z | z
 ·exact .inl (by simp [z])
 ·exact .inr z
end
section
variable {prog:Program}{w:World}{A:Around}{R:Result->Shared->Prop}{s:Shared}
theorem qN {elt tg iter:Expr}{ifs:List Expr}{scope:Scope}{pos:Pos}{it acc:Value}{env:Env} (J:Nat->Shared->Prop)
  (turn:∀n s,J n s->wpAny (model prog w) A (pyNext it) (fun r s1=>match r with
   | none=>R (.ok .next) s1
   | some v=>wpAny (model prog w) A (letOwnedTupleGo tg it v) (fun _ s2=>wpAny (model prog w) A (assign tg env v) (fun _ s3 =>
     wpAny (model prog w) A (forIn ifs true fun c r=>if r=true then do let ok <- isTrue c env (eval c env);pure (ForInStep.yield ok) else pure (ForInStep.yield r)) (fun ok s4 =>
      if ok=true then wpAny (model prog w) A (eval elt env) (fun x s5=>wpAny (model prog w) A (call (.builtin "list.append") [acc,x]) (fun _ s6=>∃m,m < n/\J m s6) (fun _ _=>False) s5) (notedBy (model prog w) A env fun e s'=>R (.error e) s') s4
      else ∃m,m < n/\J m s4) (fun _ _=>False) s3) (fun _ _=>False) s2) (fun _ _=>False) s1) (fun _ _=>False) s)
  (n:Nat) (h:J n s):codeAny (model prog w) A (.compLoop (.ListComp elt [⟨tg,iter,ifs,0⟩] scope pos) 0 it acc env) R s:=by
 refine codeAny_loop rfl J (fun k t hJ=>?_) n h
 show wpAny _ A ((compTurn (.ListComp elt [⟨tg,iter,ifs,0⟩] scope pos) 0 it acc env).onRaise (fun x=>do noteFrame x env;theTreesLotGoes x)) _ _ t
 refine wpAny_noted ?_
 rw [compTurn_list]
 refine wpAny_bind (wpAny_standAt (wpAny_bind (wpAny_mono (turn k t hJ) (fun r s1 h1=>?_) fun _ _ f=>f.elim)))
 cases r with
 | none=>exact wpAny_pure h1
 | some v =>
  refine wpAny_bind (wpAny_mono h1 (fun _ s2 h2=>wpAny_bind (wpAny_mono h2 (fun _ s3 h3=>wpAny_bind (wpAny_mono h3 (fun ok s4 h4=>?_) fun _ _ f=>f.elim)) fun _ _ f=>f.elim)) fun _ _ f=>f.elim)
  cases ok with
  | false=>exact wpAny_pure ⟨rfl,h4⟩
  | true=>exact wpAny_bind (wpAny_bind (wpAny_mono h4 (fun x s5 h5=>wpAny_bind (wpAny_mono h5 (fun _ s6 h6=>wpAny_pure (wpAny_pure ⟨rfl,h6⟩)) fun _ _ f=>f.elim)) fun _ _ f=>f))
end
noncomputable def fU (X:Cx) (scope:Scope) (N:List Str) (C:Addr) (s0:Shared) (H0:Hp) (fp:List Addr) (EX:XK):Cx :=
 { aF X scope N C s0 H0 fp with xe:=fun e s'=>∃(pins:List (Addr×Obj)) (σ:St) (H:Hp) (s:Shared),Inv (aF X scope N C s0 H0 fp) pins σ H s/\CXE X.prog X.w X.stack H s EX e s' }
section
variable {X:Cx}{scope:Scope}{N:List Str}{C:Addr}{s0:Shared}{H0:Hp}{fp:List Addr}{EX:XK}{pins:List (Addr×Obj)}{σ:St}{H:Hp}{s:Shared}
theorem tY (I:Inv (aF X scope N C s0 H0 fp) pins σ H s):Inv (fU X scope N C s0 H0 fp EX) pins σ H s :=
 ⟨⟨I.ok.mod,I.ok.kind,I.ok.glob,I.ok.blt,I.ok.above,I.ok.inj,I.ok.has,I.ok.cab,I.ok.hd,I.ok.frames,I.ok.stk,I.ok.exf,I.ok.bs,I.ok.bsz,I.ok.noex,I.ok.exfs,I.ok.funs,I.ok.frf⟩,I.os,I.bare,I.base,I.loc,I.cell,I.free,I.freeC,I.pin,I.hok,I.len⟩
theorem mV (I:Inv (fU X scope N C s0 H0 fp EX) pins σ H s):Inv (aF X scope N C s0 H0 fp) pins σ H s :=
 ⟨⟨I.ok.mod,I.ok.kind,I.ok.glob,I.ok.blt,I.ok.above,I.ok.inj,I.ok.has,I.ok.cab,I.ok.hd,I.ok.frames,I.ok.stk,I.ok.exf,I.ok.bs,I.ok.bsz,I.ok.noex,I.ok.exfs,I.ok.funs,I.ok.frf⟩,I.os,I.bare,I.base,I.loc,I.cell,I.free,I.freeC,I.pin,I.hok,I.len⟩
theorem mZ:dP (CXE X.prog X.w) (fU X scope N C s0 H0 fp EX) EX:=fun pins σ H s e s' I h=>⟨pins,σ,H,s,mV I,h⟩
end
section
variable {X:Cx}{scope:Scope}{N:List Str}{ix:List (Option Nat)}
variable {tg iter elt:Expr}{ifs:List Expr}{pos:Pos}{g:TG}{tt:TT}{te:TE}
theorem sU {EX:XK} (L:bK X scope N ix) (hc:X.calm=true) (hg:∀C s0 H0 fp,PG (aF X scope N C s0 H0 fp) tg g) (ht:∀C s0 H0 fp,PTs (aF X scope N C s0 H0 fp) ifs tt) (he:∀C s0 H0 fp,PE (fU X scope N C s0 H0 fp EX) elt te)
  {pins:List (Addr×Obj)}{σ:St}{H2:Hp}{s2:Shared}{it:Addr}{fp:List Addr}{tn:Nat->Heap->Prop}{J:It}{fin:List V->Hp->Prop}{E:Value->Shared->Prop}{RR:Value->Addr->Result->Shared->Prop}
  (I2:Inv X pins σ H2 s2) (T:Turn X.prog X.w X.K tg J fp it tn) (st:tn 0 s2.heap) (f2:∀b∈fp,bS X pins H2 b) (hW:LcW J g tt te (emb ix σ) fin H2)
  (hRR:∀D C s' m ys H',s'.heap.Ns C m->s'.os=s2.os->D≠C->bS X pins (upd H' D (.lst ys)) C->(∀h',Heap.SameBut C s'.heap h'->Inv X pins σ (upd H' D (.lst ys)) { s' with heap:=h' })->H' D=none->fin ys H'->RR (.ref D) C (.ok .next) s')
  (hRX:∀(D:Value) (C:Addr) (pins':List (Addr×Obj)) (σ':St) (H':Hp) (s:Shared) (e:Value) (s':Shared),s2.heap.objs.size<=C->Inv (aF X scope N C s2 H2 fp) pins' σ' H' s->CXE X.prog X.w X.stack H' s EX e s'->notedBy (model X.prog X.w) X.A (aF X scope N C s2 H2 fp).env (fun e s'=>RR D C (.error e) s') e s') :
  wpAny (model X.prog X.w) X.A (newList []) (fun acc s3=>wpAny (model X.prog X.w) X.A (newFunctionEnv scope X.env.globals (bM X.env scope.names []) [] X.env.qual none .none (some X.env)) (fun cenv s4 =>
   codeAny (model X.prog X.w) X.A (.compStart (.ListComp elt [⟨tg,iter,ifs,0⟩] scope pos) 0 (.ref it) acc { cenv with scope:=relabel scope X.env }) (RR acc cenv.locals) s4) E s3) E s2:=by
 obtain⟨W,⟨m0,w0⟩,turn⟩:=hW
 have hb2:∀b∈fp,b < s2.heap.objs.size:=fun b hb=>by
  obtain⟨o,e,_⟩:=T.obj _ _ st b hb
  exact Heap.lt_size e
 refine wpAny_newObj_type (wpAny_newFunctionEnv L.nocell (by intro y hy;simp at hy) (fun h1 hns hsb=>?_) L.kind)
 dsimp only at hns hsb ⊢
 generalize hG:s2.heap.push { cls:=.type "list",dict:=none,data:=.seq ([]:List Value).toArray }=G at hns hsb ⊢
 have hGs:G.objs.size=s2.heap.objs.size + 1:=by rw [<- hG,Heap.size_push]
 generalize hDe:s2.heap.objs.size=D at hGs hb2
 generalize hCe:G.objs.size=C at hGs hns hsb ⊢
 have hDC:D≠C:=by omega
 have nq:∀b:Nat,b < s2.heap.objs.size->b≠C/\b≠D:=fun b h=>⟨by omega,by omega⟩
 have nq2:∀b∈fp,b≠C/\b≠D:=fun b hb=>nq b (by rw [hDe];exact hb2 b hb)
 have kG:∀b o,s2.heap.get? b=some o->G.get? b=some o:=fun b o e=>by rw [<- hG];exact Heap.get?_push_of_some _ e
 have kp:∀b o,s2.heap.get? b=some o->h1.get? b=some o:=fun b o e=>hsb.extBut b o (nq b (Heap.lt_size e)).1 (Heap.get?_push_of_some _ (kG b o e))
 have oD:∃n,h1.get? D=some { cls:=.type "list",data:=.seq ([]:List Value).toArray n }:=⟨_,hsb.extBut _ _ hDC (Heap.get?_push_of_some _ (by rw [<- hG,<- hDe];exact Heap.get?_push_size _ rfl))⟩
 have I4:=nF L (tk:=s2.toks + ([]:List (Str×Value)).length) I2 (C:=C) (by omega) f2 (by rw [hDe];exact hb2) kp hns
 have st4:tn 0 h1:=T.keep _ _ _ st fun b _ o e=>kp b o e
 have hDf:D∉(aF X scope N C s2 H2 fp).fs:=fun z=>by
  have z':D∈frs X.stack:=z
  rcases List.mem_cons.mp (I2.stkSub D z') with q | q
  ·exact (nq _ I2.lt).2 q.symm
  ·exact I2.nofs (a:=D) (by omega) q
 have cellD:∀x c,(aF X scope N C s2 H2 fp).env.cells.lookup x=some c->c≠D:=fun x c e z=>by
  obtain⟨v,o,ho,_⟩:=I2.cell x c (cZ e)
  exact (nq c (Heap.lt_size ho)).2 z
 have stat:∀{H':Hp}{pl:List (Addr×Obj)},(∀b∈fp,H' b=none)->(∀p∈pl,p.1=D)->∀b∈fp,bS (aF X scope N C s2 H2 fp) pl H' b:=fun {H' pl} hn hp b hb=>by
  have hlt:=hb2 b hb
  refine⟨hn b hb,(nq2 b hb).1,fun z=>?_,.inl hb,fun x c e=>(f2 b hb).2.2.2.2.1 x c (cZ e),fun p hq z=>?_⟩
  ·exact (List.mem_cons.mp (I2.stkSub b z)).elim (f2 b hb).2.1 (f2 b hb).2.2.1
  ·have hq':p∈pl:=by simpa [aF] using hq
   exact (nq2 b hb).2 (z.symm.trans (hp p hq'))
 have pinD:∀{pl:List (Addr×Obj)}{σ':St}{H':Hp}{s':Shared}{o:Obj},Inv (aF X scope N C s2 H2 fp) pl σ' H' s'->s'.heap.get? D=some o->H' D=none->(∀v,o.data≠.cell v)->Inv (aF X scope N C s2 H2 fp) [(D,o)] σ' H' s' :=
  fun {pl σ' H' s' o} I' ho hn hd=>I'.pins_of fun p hp=>by
   have e:p=(D,o):=by simpa using hp
   subst e
   exact⟨ho,hn,hDC,hDf,hd⟩
 have loop:∀s4:Shared,s4={ s2 with heap:=h1,toks:=s2.toks + ([]:List (Str×Value)).length } ->
   codeAny (model X.prog X.w) X.A (.compLoop (.ListComp elt [⟨tg,iter,ifs,0⟩] scope pos) 0 (.ref it) (.ref D) (aF X scope N C s2 H2 fp).env) (RR (.ref D) C) s4:=by
  rintro s4 rfl
  refine qN (fun n s'=>∃i σ' H' ys its k,Inv (aF X scope N C s2 H2 fp) [(D,{ cls:=.type "list",data:=.seq its.toArray k })] σ' H' s'/\tn i s'.heap/\(∀b∈fp,H' b=none)/\ar ys its/\W i n ys σ' H') ?_ m0 ?_
  ·rintro n s' ⟨i,σ',H',ys,its,k,I',st',fr',rv,w'⟩
   have hD':=I'.pin _ (List.mem_append_right _ List.mem_cons_self)
   rcases turn i n ys σ' H' w' with ⟨stop,hz,qf⟩ | ⟨go,hz,Nx,hN,step⟩
   ·refine thn (T.done (aF X scope N C s2 H2 fp) rfl rfl rfl hc i _ s' σ' H' _ I' (stat fr' (by simp)) st' stop) fun r s5 ⟨hr,I5⟩=>?_
    subst hr
    have hD5:=I5.pin _ (List.mem_append_right _ List.mem_cons_self)
    obtain⟨m5,hn5,_⟩:=I5.loc
    refine hRR D C s5 m5 ys H' hn5 I5.os hDC (I2.fpOk (by omega) (by rw [ai (Ne.symm hDC)];exact I5.free)) (fun h' hs'=>?_) hD5.2.1 qf
    exact mQ I2 f2 I5 (by omega) (by omega) hDC hD5.2.1 hD5.1 rv hz fun b o hb e=>hs'.extBut b o hb e
   ·refine thn (T.item (aF X scope N C s2 H2 fp) rfl rfl rfl hc i _ s' σ' H' _ I' (stat fr' (by simp)) st' go) fun r s5 ⟨u,hr,h5⟩=>?_
    subst hr
    refine thn h5 fun _ s6 ⟨x,H6,I6,r6,y6,st6,fr6⟩=>?_
    have I6':=I6.pinned (stat fr6 (by simp)) (T.obj _ _ st6)
    refine thn (hg C s2 H2 fp _ s6 σ' H6 x u _ I6' r6 (step x H6 y6)) fun _ s7 ⟨σ7,H7,I7,q7⟩=>?_
    refine thn (ht C s2 H2 fp _ s7 σ7 H7 _ I7 q7) fun ok s8 ⟨H8,I8,q8⟩=>?_
    have back:∀{H9:Hp}{s9:Shared},Inv (aF X scope N C s2 H2 fp) ([(D,{ cls:=.type "list",data:=.seq its.toArray k })]++fg fp s6.heap) σ7 H9 s9->tn (i + 1) s9.heap/\∀b∈fp,H9 b=none:=fun {H9 s9} I9=>by
     refine⟨T.keep _ _ _ st6 fun b hb o e=>(I9.pin (b,o) (List.mem_append_right _ (List.mem_append_right _ (eQ hb e)))).1,fun b hb=>?_⟩
     obtain⟨o,e,d⟩:=T.obj _ _ st6 b hb
     exact (I9.pin (b,o) (List.mem_append_right _ (List.mem_append_right _ (eQ hb e)))).2.1
    cases ok with
    | false =>
     rw [if_neg Bool.false_ne_true] at q8 ⊢
     obtain⟨m',hm,w8⟩:=hN _ _ _ q8
     obtain⟨st8,fr8⟩:=back I8
     exact⟨m',hm,i + 1,σ7,H8,ys,its,k,I8.unpinned,st8,fr8,rv,w8⟩
    | true =>
     rw [if_pos rfl] at q8 ⊢
     refine wpAny_mono (he C s2 H2 fp _ s8 σ7 H8 _ (tY I8) q8) (fun y s9 ⟨v,H9,I9z,r9,q9⟩=>?_) fun e sx hx=>(by
      obtain⟨pinx,σx,Hx,sy,Ix,cx⟩:=hx
      exact hRX _ _ _ _ _ _ _ _ (by omega) Ix cx)
     have I9:=mV I9z
     have hD9:=I9.pin _ (List.mem_append_right _ (List.mem_append_left _ List.mem_cons_self))
     obtain⟨st9,fr9⟩:=back I9
     refine wpAny_list_append_plain (hsz:=by have:=rv.length;rw [List.size_toArray];omega) ⟨k,hD9.1⟩ fun h' hl' hs'=>?_
     obtain⟨m',hm,w9⟩:=hN _ _ _ q9
     obtain⟨k',ho'⟩:=hl'
     have I10:Inv (aF X scope N C s2 H2 fp) [] σ7 H9 { s9 with heap:=h' }:=(I9.pins_of (pins':=[]) fun p hp=>absurd hp (by simp)).turned (t':=s9.toks) (it:=D) (fun b o hb e=>hs'.extBut b o hb e) hD9.2.1 hDC (.inr (by show s2.heap.objs.size<=D;omega)) cellD (fun p hp=>absurd hp (by simp [aF]))
     refine⟨m',hm,i + 1,σ7,H9,ys++[v],its++[y],k',pinD I10 (by rw [ho'];simp) hD9.2.1 (fun v z=>by cases z),?_,fr9,rv.append (.cons r9 .nil),w9⟩
     exact T.keep _ _ _ st9 fun b hb o e=>hs'.extBut b o (nq2 b hb).2 e
  ·obtain⟨n,e⟩:=oD
   exact⟨0,emb ix σ,H2,[],[],n,pinD I4 e (I2.hok.fresh (by omega)) (fun v z=>by cases z),st4,fun b hb=>(f2 b hb).1,.nil,w0⟩
 have q:=loop _ rfl
 exact codeAny_compStart_list q (T.self _ 0 _ _ _ st4 q)
end
theorem uD {P:Program}{w:World}{K:PySem.W.Frag}{mg:Str->Option Value}{base:Heap}{Nf:List Str}{qual:Str}{sc:Scope}{f:Addr}{cd:Value}{A:Around}{outer:List Env}{s0:Shared}{H0:Hp}{E:XK}
  {scope:Scope}{N:List Str}{use:Option (Value->Sem Unit)}{QQ:Value->Shared->Prop}
  {pins:List (Addr×Obj)}{σ:St}{H2:Hp}{s2:Shared}{fp:List Addr} (I2:Inv (aE (CXE P w) P w K mg base Nf qual sc f cd A outer s0 H0 E) pins σ H2 s2) (f2:∀b∈fp,bS (aE (CXE P w) P w K mg base Nf qual sc f cd A outer s0 H0 E) pins H2 b)
  (D:Value) (C:Addr) (pins':List (Addr×Obj)) (σ':St) (H':Hp) (s:Shared) (e:Value) (s':Shared) (hC:s2.heap.objs.size<=C) (I':Inv (aF (aE (CXE P w) P w K mg base Nf qual sc f cd A outer s0 H0 E) scope N C s2 H2 fp) pins' σ' H' s)
  (h:CXE P w (envOfC qual sc s0.heap.objs.size f cd::outer) H' s E e s') :
  notedBy (model P w) (A.deeper (envOfC qual sc s0.heap.objs.size f cd)) (aF (aE (CXE P w) P w K mg base Nf qual sc f cd A outer s0 H0 E) scope N C s2 H2 fp).env
   (fun e s'=>compPost (model P w) (A.deeper (envOfC qual sc s0.heap.objs.size f cd)) (aE (CXE P w) P w K mg base Nf qual sc f cd A outer s0 H0 E).xe use QQ D C (.error e) s') e s':=by
 obtain⟨ea,T,cls,a0,dx,H1,rfl,os,bare,un,hok,n1,n2,m1,m2,trc,hE⟩:=h
 have J':Inv (aE (CXE P w) P w K mg base Nf qual sc f cd A outer s0 H0 E) pins σ H' s:=I2.call' (ch:=fp) I'.os I'.base I'.hok I'.bare fun b hb=>⟨(f2 b hb).2.2.2.1,(f2 b hb).2.1,(f2 b hb).2.2.2.2.1,(f2 b hb).2.2.2.2.2⟩
 have J1:Inv (aE (CXE P w) P w K mg base Nf qual sc f cd A outer s0 H0 E) pins σ H1 s':=J'.call' (ch:=[]) os un hok bare (by simp)
 have I1:Inv (aF (aE (CXE P w) P w K mg base Nf qual sc f cd A outer s0 H0 E) scope N C s2 H2 fp) pins' σ' H1 s':=I'.call' (ch:=[]) os un hok bare (by simp)
 have back:∀b,s.heap.get? b=none->s0.heap.get? b=none:=fun b q=>by
  cases hc:s0.heap.get? b with
  | none=>rfl
  | some o =>
   obtain⟨o',q'⟩:=J'.base.there b o hc (by show b∉[];simp)
   rw [q] at q';cases q'
 have c0:s0.heap.get? C=none:=by
  cases hc:s0.heap.get? C with
  | none=>rfl
  | some o =>
   obtain⟨o',q'⟩:=I2.base.there C o hc (by show C∉[];simp)
   exact absurd (Heap.lt_size q') (Nat.not_lt.mpr hC)
 have cH:H1 C=none:=I1.free
 obtain⟨m,hn,_⟩:=I1.loc
 have hn':s'.heap.Ns C m:=hn
 have ff:s'.heap.FunFrames base (envOfC qual sc s0.heap.objs.size f cd::outer):=J1.stack
 have nn:=bB.nT ff trc
 have cf:C∉frs (envOfC qual sc s0.heap.objs.size f cd::outer):=fun hm=>by
  rcases List.mem_cons.mp (I2.stkSub C hm) with z | z
  ·exact absurd I2.lt (by rw [<- z];exact Nat.not_lt.mpr hC)
  ·exact I2.nofs hC z
 obtain⟨oC,es,ep,hoC,hdC,_⟩:=id hn'
 have nfC:∀vs:Array Value,oC.data≠Data.fields vs:=fun vs z=>by rw [hdC] at z;cases z
 have ce:C≠ea/\C≠T:=by
  obtain⟨oe,vs,oT,ts,h1,h2,h3,h4,h5,h6,h7,h8,h9,h10⟩:=id trc
  exact⟨fun z=>by rw [<- z,hoC] at h1;cases h1;exact nfC _ h4,fun z=>by rw [<- z,hoC] at h7;cases h7;exact nfC _ h8⟩
 unfold notedBy
 rw [rC (a:=(aF (aE (CXE P w) P w K mg base Nf qual sc f cd A outer s0 H0 E) scope N C s2 H2 fp).env) (b:=envOfC qual sc s0.heap.objs.size f cd) rfl]
 refine lM (outer:=outer) (L:=s0.heap.objs.size) J1.ok.frames rfl ff trc fun h1 T1 fl1 mv1 nw1 tr1=>?_
 have cT1:C≠T1:=by
  rcases nw1 with z | z
  ·rw [z];exact ce.2
  ·exact fun w=>by rw [<- w,hoC] at z;cases z
 have hn1:∃m,h1.Ns C m:=⟨m,oC,es,ep,mv1.keep C oC hoC cf (by simp [ce.1,ce.2]),hdC,by assumption⟩
 obtain⟨m',hn1⟩:=hn1
 refine⟨m',hn1,fun h2 hs2 cenv hce=>?_⟩
 have tr2:bB fl1 h2 ea T1 cls a0 dx:=tr1.move fun b o hb q=>hs2.extBut b o (hb.elim (fun z=>by rw [z];exact ce.1.symm) fun z=>by rw [z];exact cT1.symm) q
 have mv2:Moved (frs (envOfC qual sc s0.heap.objs.size f cd::outer)) [ea,T,C] s'.heap h2:=Moved.trans ⟨fun b o q n1 n2=>mv1.keep b o q n1 fun z=>n2 (by simp at z;rcases z with z | z <;> simp [z]),mv1.slot⟩ (Moved.one (fun b o n q=>hs2.extBut b o n q) cf) fun x hx=>.inl (by simp at hx;simp [hx])
 have ff2:=fH (fun b hb o q=>mv2.slot b o q hb) ff
 have fT1:=(bB.nT ff2 tr2).1
 unfold PySem.passOn
 obtain⟨oe,vs,oT,ts,g1,g2,g3,g4,g5,g6,g7,g8,g9,g10⟩:=id tr2
 refine wpAny_bind (wpAny_field g1 g4 g5 ?_)
 rw [if_neg (show ¬ ((Value.ref T1 == Value.none)=true) from by simp)]
 refine wpAny_bind (fly tr2 fun h3 same tr3=>?_)
 refine wpAny_throw ?_
 have g1':T1∈[ea,T,C]\/s'.heap.get? T1=none:=nw1.imp (fun z=>by simp [z]) id
 have mv3:Moved (frs (envOfC qual sc s0.heap.objs.size f cd::outer)) [ea,T,C] s'.heap h3:=mv2.trans (Moved.one (fun b o n q=>(same b n).trans q) fT1) fun x hx=>by
  have:x=T1:=by simpa using hx
  rw [this];exact g1'
 have ff3:=fH (fun b hb o q=>mv3.slot b o q hb) ff
 show wpAny (model P w) (A.deeper (envOfC qual sc s0.heap.objs.size f cd)) (leaving (envOfC qual sc s0.heap.objs.size f cd) (.ref ea)) _ _ _
 refine qb (outer:=outer) (L:=s0.heap.objs.size) J1.ok.frames rfl ff3 tr3 fun h4 T4 mv4 nw4 tr4=>?_
 have mv:Moved (frs (envOfC qual sc s0.heap.objs.size f cd::outer)) [ea,T,C] s'.heap h4:=mv3.trans mv4 fun x hx=>by
  simp only [List.mem_cons,List.not_mem_nil,or_false] at hx
  rcases hx with z | z
  ·exact .inl (by simp [z])
  ·rw [z];exact g1'
 have t4:T4∈[ea,T,C]\/s'.heap.get? T4=none:=by
  rcases nw4 with z | z
  ·rw [z];exact g1'
  ·cases hc:s'.heap.get? T4 with
   | none=>exact .inr rfl
   | some o =>
    by_cases q1:T4∈[ea,T,C]
    ·exact .inl q1
    ·by_cases q2:T4∈frs (envOfC qual sc s0.heap.objs.size f cd::outer)
     ·obtain⟨sl,q⟩:=mv3.slot T4 o hc q2
      rw [z] at q;cases q
     ·rw [mv3.keep T4 o hc q2 q1] at z;cases z
 have fin:=jk (s':=s') (G:=[ea,T,C]) J1 mv (fun b hb=>by
  simp only [List.mem_cons,List.not_mem_nil,or_false] at hb
  rcases hb with z | z | z
  ·rw [z];exact⟨back _ n1,m1⟩
  ·rw [z];exact⟨back _ n2,m2⟩
  ·rw [z];exact⟨c0,cH⟩) tr4 (back _ n1) m1 t4 hE
 exact fin
theorem kB {P:Program}{w:World}{K:PySem.W.Frag}{mg:Str->Option Value}{base:Heap}{Nf:List Str}{qual:Str}{sc:Scope}{f:Addr}{cd:Value}{A:Around}{outer:List Env}{s0:Shared}{H0:Hp}{E:XK}{scope:Scope}{N:List Str}{ix:List (Option Nat)}{tg iter elt:Expr}{ifs:List Expr}{pos:Pos}{g:TG}{tt:TT}{te:TE}{wi:TI}{i:Nat}{y:Str}{py spos:Pos} (hN:(aE (CXE P w) P w K mg base Nf qual sc f cd A outer s0 H0 E).N.Nodup) (hi':(aE (CXE P w) P w K mg base Nf qual sc f cd A outer s0 H0 E).N[i]?=some y) (hx:Loc (aE (CXE P w) P w K mg base Nf qual sc f cd A outer s0 H0 E).env.scope y) (L:bK (aE (CXE P w) P w K mg base Nf qual sc f cd A outer s0 H0 E) scope N ix) (hi:PI (aE (CXE P w) P w K mg base Nf qual sc f cd A outer s0 H0 E) tg iter wi) (hg:∀C s1 H1 fp,PG (aF (aE (CXE P w) P w K mg base Nf qual sc f cd A outer s0 H0 E) scope N C s1 H1 fp) tg g)
  (ht:∀C s1 H1 fp,PTs (aF (aE (CXE P w) P w K mg base Nf qual sc f cd A outer s0 H0 E) scope N C s1 H1 fp) ifs tt) (he:∀C s1 H1 fp,PE (fU (aE (CXE P w) P w K mg base Nf qual sc f cd A outer s0 H0 E) scope N C s1 H1 fp E) elt te)
  (hsw:swapsWith (.ListComp elt [⟨tg,iter,ifs,0⟩] scope pos) (some (.Name y py)) spos.line (aE (CXE P w) P w K mg base Nf qual sc f cd A outer s0 H0 E).env=pure true:=by rfl) (hs:∀x,foldedSetIterable iter (aE (CXE P w) P w K mg base Nf qual sc f cd A outer s0 H0 E).env x=pure x:=by intro _;rfl)
  (hf:(aE (CXE P w) P w K mg base Nf qual sc f cd A outer s0 H0 E).fn y=true\/(aE (CXE P w) P w K mg base Nf qual sc f cd A outer s0 H0 E).env.scope.names.lookup y=some .local:=by first | exact .inl rfl | exact .inr rfl | assumption) :
  PS (aE (CXE P w) P w K mg base Nf qual sc f cd A outer s0 H0 E) (.Assign [.Name y py] (.ListComp elt [⟨tg,iter,ifs,0⟩] scope pos) spos) (mT i wi g tt te ix):=by
 intro pins s σ H D I h
 rw [exec_Assign_Name_used _ _ _ _ hsw]
 refine wpAny_bind (wpAny_standAt (wpAny_bind ?_))
 show wpAny _ (aE (CXE P w) P w K mg base Nf qual sc f cd A outer s0 H0 E).A (do let _ <- comprehension (.ListComp elt [⟨tg,iter,ifs,0⟩] scope pos) scope (aE (CXE P w) P w K mg base Nf qual sc f cd A outer s0 H0 E).env _ (newList []) false (eval iter (aE (CXE P w) P w K mg base Nf qual sc f cd A outer s0 H0 E).env) (some (assign (.Name y py) (aE (CXE P w) P w K mg base Nf qual sc f cd A outer s0 H0 E).env))) _ _ s
 refine wpAny_bind (thn (wpAny_comprehension_free (use:=some (assign (.Name y py) (aE (CXE P w) P w K mg base Nf qual sc f cd A outer s0 H0 E).env)) (Q:=fun _ s'=>SP (aE (CXE P w) P w K mg base Nf qual sc f cd A outer s0 H0 E) pins D .next s') rfl hs (L.clos I.ok) L.kind L.locals
  (thn (hi pins s σ H _ I h) fun v s1 h1=>thn h1 fun itv s2 h2=>?_)) fun _ s' hq=>wpAny_pure (wpAny_pure hq))
 obtain⟨it,fp,tn,J,H2,rfl,I2,T,st2,f2,hW⟩:=h2
 refine sU (EX:=E) (RR:=fun acc C=>compPost (model (aE (CXE P w) P w K mg base Nf qual sc f cd A outer s0 H0 E).prog (aE (CXE P w) P w K mg base Nf qual sc f cd A outer s0 H0 E).w) (aE (CXE P w) P w K mg base Nf qual sc f cd A outer s0 H0 E).A (aE (CXE P w) P w K mg base Nf qual sc f cd A outer s0 H0 E).xe (some (assign (.Name y py) (aE (CXE P w) P w K mg base Nf qual sc f cd A outer s0 H0 E).env)) (fun _ s'=>SP (aE (CXE P w) P w K mg base Nf qual sc f cd A outer s0 H0 E) pins D .next s') acc C) L rfl hg ht he I2 T st2 f2 hW ?_ (fun D C pins' σ' H' s e s' hC I' cx=>uD I2 f2 D C pins' σ' H' s e s' hC I' cx)
 intro Da C s' m ys H' hn ho hDC hC hI hD fin
 have I':=hI s'.heap (Heap.SameBut.refl _ _)
 show wpAny _ (aE (CXE P w) P w K mg base Nf qual sc f cd A outer s0 H0 E).A (assign (.Name y py) (aE (CXE P w) P w K mg base Nf qual sc f cd A outer s0 H0 E).env (.ref Da)) _ _ s'
 refine wpAny_assign_Name (iM (v:=.ref Da) I' hN hi' hx rfl (fun s'' I'' ch=>?_) hf)
 obtain⟨a,hsa,hwa⟩:=ch
 obtain⟨c1,c2,c3,c4,c5,c6⟩:=hC
 have hCa:C≠a:=by
  rcases hwa with z | z
  ·rw [z];exact c2
  ·exact fun w=>c5 y a z w.symm
 refine⟨m,hn.sameBut hsa hCa,fun h' hs'=>⟨_,_,I''.turned (t':=s''.toks) (it:=C) (fun b o hb e=>hs'.extBut b o hb e) c1 c2 c4 c5 c6,fin Da hD⟩⟩
end L2
namespace L2
open PySem PySem.Spec PyProof.Rows
section
variable {X:Cx}{pos:Pos}
end
end L2
namespace K16
open PySem L2
noncomputable def top (i:Nat):Stmt:=PySem.Challenge.pw_rootshares_k16_texts_refused.main.body.getD i (.Pass ⟨0,0,0,0⟩)
theorem bG:bootBuiltins "isinstance"=some (.builtin "isinstance"):=by decide +kernel
theorem eG:bootBuiltins "all"=some (.builtin "all"):=by decide +kernel
theorem eS:bootBuiltins "sorted"=some (.builtin "sorted"):=by decide +kernel
theorem nI:bootBuiltins "max"=some (.builtin "max"):=by decide +kernel
theorem uQ:bootBuiltins "min"=some (.builtin "min"):=by decide +kernel
theorem gU:bootBuiltins "str"=some (.type "str"):=by decide +kernel
theorem cM:bootBuiltins "tuple"=some (.type "tuple"):=by decide +kernel
theorem gP:bootBuiltins "list"=some (.type "list"):=by decide +kernel
theorem u6:bootBuiltins "int"=some (.type "int"):=by decide +kernel
structure Bl (mg:Str->Option Value):Prop where
 len:mg "len"=none
 isinstance:mg "isinstance"=none
 all:mg "all"=none
 range:mg "range"=none
 sorted:mg "sorted"=none
 repr:mg "repr"=none
 max:mg "max"=none
 min:mg "min"=none
 str:mg "str"=none
 tuple:mg "tuple"=none
 list:mg "list"=none
 int:mg "int"=none
 set:mg "set"=none
 bool:mg "bool"=none
 any:mg "any"=none
 lng:∃t,mg "LONGEST_NAME"=some (.int 8 t)
noncomputable def Fn (P:Program) (w:World) (K:PySem.W.Frag) (mg:Str->Option Value) (base:Heap) (k:Nat) (x:Str) (ps:List Str) (sp:Sp):Prop :=
 ∃f fd,mg x=some (.ref f)/\PySem.W.keepIn K (.ref f)=true/\Binds K fd ps []/\aH P w K mg base CX0 k f fd ps sp
theorem aC {X:Cx}{k:Nat}{x:Str}{ps:List Str}{sp:Sp}{e:Expr}{es:List Expr}{t:TA}{p pos:Pos} (F:Fn X.prog X.w X.K X.mg X.base k x ps sp) (hr:aN k X.A) (ha:PA X (e::es) t) (hg:Gl X x:=by rfl)
  (hdb:(x == ("__debug__":Str))=false:=by decide) (he:starEach (e::es) X.env=(false,eval e X.env)::starEach es X.env:=by rfl) (hpl:(backTo pos (starEach es X.env)).any (·.1)=false:=by rfl) :
  PE X (.Call (.Name x p) (e::es) [] pos) (fi sp [] E0 t):=by
 obtain⟨f,fd,h1,h2,h3,h4⟩:=F
 exact mw h4 hr hg h1 h2 h3 .nil nu ha hdb he hpl
theorem bJ {X:Cx}{scope:Scope}{N:List Str}{C:Addr}{s0:Shared}{H0:Hp}{fp:List Addr}{x:Str}{pos:Pos} (i:Nat) (hN:N.Nodup) (hi:N[i]?=some x) (hx:scope.names.lookup x=some .local) :
  PG (aF X scope N C s0 H0 fp) (.Name x pos) (b8 i) :=
 bw (X:=aF X scope N C s0 H0 fp) hN hi (.inl (lookup_relabel_local hx)) (.inr (lookup_relabel_local hx))
theorem cI {c A B:Prop} [Decidable c] (hc:c) (h:A):if decide c=true then A else B:=by
 rw [decide_eq_true hc];exact am h
theorem cb {c A B:Prop} [Decidable c] (hc:¬ c) (h:B):if decide c=true then A else B:=by
 rw [decide_eq_false hc];exact aL h
theorem dR {c A B:Prop} [Decidable c] (hc:¬ c) (h:A):if (!decide c)=true then A else B:=by
 rw [decide_eq_false hc];exact am h
theorem lt1 (a b:Nat):([a] < [b]) ↔ a < b:=by rw [List.cons_lt_cons_iff];simp
structure aB (x:Str):Prop where
 lo:1<=x.length
 hi:x.length<=8
 az:∀c∈x.cps.toList,97<=c/\c<=122
theorem aB.fits {x:Str} (h:aB x):x.length < sizeLine:=by have:=h.hi;rw [sizeLine_eq];omega
section
variable {P:Program}{w:World}{K:PySem.W.Frag}{mg:Str->Option Value}{base:Heap}
theorem ao {H H':Hp}{p:Addr}{o:HO} (h:ag H H') (hp:H' p=none):ag H (upd H' p o):=fun b ob e=>by
 rw [ai (au (h b ob e) hp)];exact h b ob e
end
theorem bU (K:PySem.W.Frag) {X:Cx} (h:X.K=K:=by rfl):IxR X (rIx K):=by subst h;exact aP
theorem lV (K:PySem.W.Frag) {X:Cx} (h:X.K=K:=by rfl):OpR X (compareOp .In) (rIn K false):=by subst h;exact iL
theorem pA (K:PySem.W.Frag) {X:Cx} (h:X.K=K:=by rfl):OpR X (compareOp .NotIn) (rIn K true):=by subst h;exact oQ
theorem qS (K:PySem.W.Frag) {X:Cx} (h:X.K=K:=by rfl):bz X (.builtin "len") (fun xs H Q=>∃p ys,xs=[.ref p]/\(SqL K H p ys\/SqT K H p ys)/\Q (.int ys.length) H):=by subst h;exact bo
theorem dM {α:Type}{xs:List α}{z:Int}{j:Nat}{v:α} (hz:z=(j:Int)) (h:xs[j]?=some v):atI xs z=some v:=by subst hz;exact sM h
noncomputable def Sq (K:PySem.W.Frag) (H:Hp) (p:Addr) (xs:List V):Prop:=SqL K H p xs\/SqT K H p xs
theorem fB {K:PySem.W.Frag}{H H':Hp}{a:Addr}{xs:List V} (e:ag H H') (h:SqT K H a xs):SqT K H' a xs:=by
 rcases h with (h | ⟨o,h⟩) | h
 ·exact .inl (.inl (e _ _ h))
 ·exact .inl (.inr ⟨o,e _ _ h⟩)
 ·exact .inr h
theorem Sq.same {K:PySem.W.Frag}{H H':Hp}{a:Addr}{xs:List V} (h:Sq K H a xs) (e:ag H H'):Sq K H' a xs:=h.imp (fun z=>e.seq z) fun z=>fB e z
theorem aK {K:PySem.W.Frag}{H:Hp}{p:Addr}{xs:List V}{z:Int}{j:Nat}{v:V}{Q:VK} (h:Sq K H p xs) (hz:z=(j:Int)) (hx:xs[j]?=some v) (q:Q v H):rIx K (.ref p) (.int z) H Q :=
 h.elim (fun h=>.inl ⟨p,xs,z,v,rfl,rfl,h,dM hz hx,q⟩) fun h=>.inr (.inl ⟨p,xs,z,v,rfl,rfl,h,dM hz hx,q⟩)
theorem fits {n:Nat} (h:n<=1000):n < sizeLine:=pY h
theorem strAt {ss:List Str}{i:Nat} (h:i < ss.length):(ss.map V.str)[i]?=some (.str ss[i]):=by rw [List.getElem?_map,List.getElem?_eq_getElem h];rfl
theorem eo (x:Str) (ss:List Str):inV (.str x) (ss.map V.str)=decide (x∈ss):=by
 unfold inV
 rw [List.any_map]
 rw [Bool.eq_iff_iff,List.any_eq_true,decide_eq_true_iff]
 constructor
 ·rintro⟨y,hy,e⟩
  have e':y=x:=by simpa [eqV] using e
  exact e' ▸ hy
 ·intro h
  exact⟨x,h,by simp [eqV]⟩
theorem ed (ss:List Str):(ss.map V.str).all dz=true:=by
 rw [List.all_map,List.all_eq_true]
 intro y _
 rfl
noncomputable abbrev Row:=Str×Str×Str
noncomputable def nC (H:Hp) (p:Addr) (r:Row):Prop:=H p=some (.tup [.str r.1,.str r.2.1,.str r.2.2])
noncomputable abbrev bg (rs:List (Addr×Row)):List V:=rs.map fun r=>V.ref r.1
structure nB (H:Hp) (v pa ra:Addr) (ps:List Str) (rs:List (Addr×Row)):Prop where
 tp:H v=some (.tup [.ref pa,.ref ra])
 pl:H pa=some (.tup (ps.map V.str))
 rl:H ra=some (.tup (bg rs))
 rows:∀r∈rs,nC H r.1 r.2
structure Good (ps:List Str) (rs:List Row):Prop where
 ne:ps≠[]
 nm:∀x∈ps,aB x
 so:ps.Pairwise nlt
 rn:∀r∈rs,aB r.1/\r.2.1∈ps/\r.2.2∈ps/\r.2.1≠r.2.2
 rso:(rs.map (·.1)).Pairwise nlt
 pz:ps.length<=100
 rz:rs.length<=60
section
variable {P:Program}{w:World}{K:PySem.W.Frag}{mg:Str->Option Value}{base:Heap}
noncomputable def rW (K:PySem.W.Frag):Sp:=fun vs H Q _=>∃(p:Addr) (ss:List Str),vs=[.ref p]/\Sq K H p (ss.map V.str)/\ss.Pairwise nlt/\ss.length<=1000/\∀H',ag H H'->Q (.bl true) H'
theorem nJ:aR ["names"] ["names"] (aI (top 16)):=⟨rfl,rfl,rfl,by decide +kernel,rfl,by decide +kernel,by decide +kernel⟩
theorem oN {f:Addr}{fd:FuncData} (F:Fun K "is_rising" "is_rising" (top 16) f fd) (B:Bl mg):aH P w K mg base CX0 1 f fd ["names"] (rW K):=by
 refine F.ok nJ (fun vs H Q E h=>?_) (fun cdv A outer s H vs Q E hr h=>?_)
 ·obtain⟨p,ss,rfl,_⟩:=h
  rfl
 ·obtain⟨p,ss,rfl,hq,hp,hz,k⟩:=h
  refine⟨_,aw (aM (aA (eh rfl) rfl B.all eG (aa (cC (N:=["at","names"]) (ix:=[none,some 0]) ⟨rfl,rfl,rfl,by decide⟩ rfl
   (kU rfl B.range (aa ak (aa (aA bo rfl B.len PySem.boot_len (aa (pv 0) ae)) ae))) (fun _ _ _ _=>bJ 0 (by decide) rfl rfl) (fun _ _ _ _=>bP)
   (fun _ _ _ _=>eV kA (aG (bU K) (pv 1) (ay fb (pv 0) ak) (fun _ _=>rfl)) (aG (bU K) (pv 1) (pv 0) (fun _ _=>rfl)) (aS _))) ae))),?_⟩
  have hz':(ss.map V.str).length<=1000:=by simpa using hz
  refine⟨_,rfl,p,ss.map V.str,rfl,hq,1,_,rfl,⟨by decide,by decide,by omega,by omega⟩,eP (fits (by omega)) (fun i ys σ H1=>ys=List.replicate i (.bl true)/\ag H H1/\∃v,σ=[v,some (.ref p)])
   ⟨rfl,ag.refl _,_,rfl⟩ (fun i ys σ H1 _ q=>by rw [q.1];simp) ?_ ?_⟩
  ·rintro i ys σ H1 hi ⟨rfl,hs,v,rfl⟩
   have hl:i + 1 < ss.length:=by rw [List.length_map] at hi;omega
   refine⟨_,rfl,_,rfl,_,_,rfl,rfl,aK (j:=i) (hq.same hs) (by omega) (strAt (by omega)) ⟨_,rfl,_,rfl,aK (j:=i + 1) (hq.same hs) (by push_cast;omega) (strAt hl) ⟨_,_,rfl,rfl,?_,hs,_,rfl⟩⟩⟩
   have e:ss[i].cps.toList < ss[i + 1].cps.toList:=List.pairwise_iff_getElem.mp hp i (i + 1) (by omega) hl (by omega)
   show _++[V.bl (decide (ss[i].cps.toList < ss[i + 1].cps.toList))]=_
   rw [decide_eq_true e,List.replicate_succ']
  ·rintro ys σ H1 ⟨rfl,hs,v,rfl⟩ q hqn
   refine⟨q,List.replicate _ true,rfl,SqL.of (by rw [ah,List.map_replicate]),?_⟩
   have e:∀n:Nat,(List.replicate n true).all id=true:=by simp
   rw [e]
   exact k _ (ao hs hqn)
end
theorem b4 {α β:Type} (f:α->β) (l:List α) (i:Nat) (x:α) (h:l[i]?=some x):(l.take (i + 1)).map f=(l.take i).map f++[f x]:=by
 rw [List.take_add_one,h];simp
theorem qj {rs:List (Addr×Row)}{i:Nat}{x:V} (h:(bg rs)[i]?=some x):∃r,rs[i]?=some r/\x=.ref r.1:=by
 unfold bg at h
 rw [List.getElem?_map] at h
 cases e:rs[i]? with
 | none=>rw [e] at h;cases h
 | some r=>rw [e] at h;exact⟨r,rfl,(Option.some.inj h).symm⟩
section
variable {P:Program}{w:World}{K:PySem.W.Frag}{mg:Str->Option Value}{base:Heap}
end
theorem iy {α:Type} (p:α->Bool) (l:List α) (i:Nat) (x:α) (h:l[i]?=some x):(l.take (i + 1)).filter p=(l.take i).filter p++(if p x then [x] else []):=by
 rw [List.take_add_one,h,List.filter_append]
 simp only [Option.toList_some,List.filter_cons,List.filter_nil]
theorem take_all {α:Type} (l:List α) {n:Nat} (h:n=l.length):l.take n=l:=by subst h;exact List.take_length
noncomputable abbrev nms (rs:List (Addr×Row)):List Str:=rs.map (·.2.1)
theorem iR {α β:Type} (f:α->β):∀(l':List β) (l:List α),l'.Perm (l.map f)->∃l'':List α,l''.Perm l/\l''.map f=l'
 | [],l,h=>by
  have:l=[]:=by simpa using h.length_eq.symm
  subst this
  exact⟨[],.refl _,rfl⟩
 | b::t,l,h=>by
  obtain⟨a,ha,rfl⟩:=List.mem_map.mp (h.mem_iff.mp List.mem_cons_self)
  obtain⟨u,v,rfl⟩:=List.append_of_mem ha
  have h2:(f a::t).Perm (f a::(u++v).map f):=by
   refine h.trans ?_
   rw [List.map_append,List.map_cons,List.map_append]
   exact List.perm_middle
  obtain⟨w,hw,e⟩:=iR f t (u++v) h2.cons_inv
  exact⟨a::w,(hw.cons a).trans List.perm_middle.symm,by rw [List.map_cons,e]⟩
theorem qT {ss:List Str} (h:ss.Pairwise nlt):ss.Nodup:=h.imp fun {a b} hab e=>by
 subst e;exact absurd hab (List.lt_irrefl _)
theorem gz (rs:List (Addr×Row)):refs (rs.map fun r=>(r.1,r.2.1))=bg rs:=by
 unfold refs bg
 rw [List.map_map]
 rfl
section
variable {P:Program}{w:World}{K:PySem.W.Frag}{mg:Str->Option Value}{base:Heap}
end
noncomputable def Pot (H:Hp) (p:Addr):Prop:=∃a b,H p=some (.lst [.int a,.int b])/\0<=b/\b < 2147483629
noncomputable def Kp (P:List Addr) (H H':Hp):Prop:=∀b o,H b=some o->b∉P->H' b=some o
theorem Kp.refl (P:List Addr) (H:Hp):Kp P H H:=fun _ _ h _=>h
theorem Kp.trans {P:List Addr}{H H1 H2:Hp} (a:Kp P H H1) (b:Kp P H1 H2):Kp P H H2:=fun c o h n=>b c o (a c o h n) n
theorem Kp.mono {P P':List Addr}{H H':Hp} (a:Kp P H H') (h:∀b∈P,b∈P'):Kp P' H H':=fun c o e n=>a c o e fun z=>n (h c z)
theorem Kp.same {P:List Addr}{H H':Hp} (a:ag H H'):Kp P H H':=fun c o h _=>a c o h
theorem Kp.of_same {P:List Addr}{H H1 H2:Hp} (a:Kp P H H1) (b:ag H1 H2):Kp P H H2:=fun c o h n=>b c o (a c o h n)
theorem Kp.inn {P:List Addr}{H H1:Hp}{p:Addr}{o:HO} (a:Kp P H H1) (hp:p∈P):Kp P H (upd H1 p o):=fun c ob h n=>by rw [ai (show c≠p from fun z=>n (by rw [z];exact hp))];exact a c ob h n
theorem Kp.new {P:List Addr}{H H1:Hp}{p:Addr}{o:HO} (a:Kp P H H1) (hp:H1 p=none):Kp P H (upd H1 p o):=fun c ob h n=>by rw [ai (au (a c ob h n) hp)];exact a c ob h n
section
variable {P:Program}{w:World}{K:PySem.W.Frag}{mg:Str->Option Value}{base:Heap}
noncomputable def nR (K:PySem.W.Frag):Sp:=fun vs H Q _=>∃(a:Addr) (ns:List Int) (k:Int),vs=[.ref a,.int k]/\SqL K H a (ns.map V.int)/\0<=k/\∀c,Q (.int c) H
theorem vd:aR ["_law_script","_law_k"] ["_law_script","_law_k"] (aI (top 27)):=⟨rfl,rfl,rfl,by decide +kernel,rfl,by decide +kernel,by decide +kernel⟩
theorem uW {f:Addr}{fd:FuncData} (F:Fun K "_law_at" "_law_at" (top 27) f fd) (B:Bl mg):aH P w K mg base CX0 1 f fd ["_law_script","_law_k"] (nR K):=by
 refine F.ok vd (fun vs H Q E h=>?_) (fun cdv A outer s H vs Q E hr h=>?_)
 ·obtain⟨a,ns,k,rfl,_⟩:=h
  rfl
 ·obtain⟨a,ns,k,rfl,ha,hk,q⟩:=h
  refine⟨_,aq (bh (aO ni (pv 1) (aA bo rfl B.len PySem.boot_len (aa (pv 0) ae)) (aS _)) (aw (aM (aG aP (pv 0) (pv 1) (fun _ _=>rfl)))) bp) (aw (aM ak)),?_⟩
  refine⟨_,rfl,_,rfl,a,_,rfl,.inl ha,_,_,rfl,rfl,_,rfl,?_⟩
  refine di (fun c=>?_) (fun c=>q 0)
  have c':k < ((ns.map V.int).length:Int):=of_decide_eq_true c
  rw [List.length_map] at c'
  have hl:k.toNat < ns.length:=by omega
  exact⟨_,rfl,_,rfl,aK (j:=k.toNat) (v:=.int ns[k.toNat]) (.inl ha) (by omega) (by rw [List.getElem?_map,List.getElem?_eq_getElem hl];rfl) (q _)⟩
noncomputable def nj (K:PySem.W.Frag):Sp:=fun vs H Q _=>∃(a:Addr) (ns:List Int) (k:Int),vs=[.ref a,.int k]/\SqL K H a (ns.map V.int)/\0<=k/\k<=100/\∀q H',ag H H'->H q=none->Pot H' q->Q (.ref q) H'
theorem nN:aR ["_law_script","_law_k","_law_cell"] ["_law_script","_law_k"] (aI (top 28)):=⟨rfl,rfl,rfl,by decide +kernel,rfl,by decide +kernel,by decide +kernel⟩
theorem uG {f:Addr}{fd:FuncData} (F:Fun K "_law_pot" "_law_pot" (top 28) f fd) (B:Bl mg) (F1:Fn P w K mg base 1 "_law_at" ["_law_script","_law_k"] (nR K)):aH P w K mg base CX0 2 f fd ["_law_script","_law_k"] (nj K):=by
 refine F.ok nN (fun vs H Q E h=>?_) (fun cdv A outer s H vs Q E hr h=>?_)
 ·obtain⟨a,ns,k,rfl,_⟩:=h
  rfl
 ·obtain⟨a,ns,k,rfl,ha,hk,hk2,q⟩:=h
  refine⟨_,aq (aD (i:=2) nN.nd rfl (Or.inl rfl) (aC F1 hr (aa (pv 0) (aa (pv 1) ae))))
   (aw (aM (be (aa (aA (kL rfl) rfl B.max nI (aa ak (aa (ay fb (pv 2) (ay tP ak ak)) ae)))
    (aa (ay dN (ay bL (ay dN (pv 2) ak) (ay fT ak (ay bL (pv 1) ak))) ak) ae))))),?_⟩
  refine⟨_,rfl,_,rfl,a,ns,k,rfl,ha,hk,fun c=>?_⟩
  refine⟨_,rfl,_,_,rfl,rfl,⟨by decide,by decide,by decide⟩,_,_,rfl,rfl,_,_,rfl,?_⟩
  refine⟨_,rfl,_,_,rfl,rfl,by show (0:Int) < 2147483629;decide,_,rfl,_,_,rfl,rfl,_,_,rfl,rfl,.inl ⟨by decide,by decide⟩,_,_,rfl,rfl,_,_,rfl,rfl,by show (0:Int) < 2147483629;decide,by show 2<=sizeLine;decide,fun l hl=>?_⟩
  exact q l _ (ao (ag.refl _) hl) hl ⟨_,_,ah,Int.emod_nonneg _ (by decide),Int.emod_lt_of_pos _ (by decide)⟩
noncomputable def de:Sp:=fun vs H Q _=>∃(p:Addr) (n:Int),vs=[.ref p,.int n]/\Pot H p/\0 < n/\n < 1000000/\∀r H',0<=r->r < n->Pot H' p->(∀b,b≠p->H' b=H b)->Q (.int r) H'
theorem nX:aR ["_law_pot_here","_law_many","_law_digit"] ["_law_pot_here","_law_many"] (aI (top 29)):=⟨rfl,rfl,rfl,by decide +kernel,rfl,by decide +kernel,by decide +kernel⟩
theorem sv {f:Addr}{fd:FuncData} (F:Fun K "_law_take" "_law_take" (top 29) f fd):aH P w K mg base CX0 1 f fd ["_law_pot_here","_law_many"] de:=by
 refine F.ok nX (fun vs H Q E h=>?_) (fun cdv A outer s H vs Q E hr h=>?_)
 ·obtain⟨p,n,rfl,_⟩:=h
  rfl
 ·obtain⟨p,n,rfl,⟨a,b,hp,hb0,hb1⟩,hn,hn2,k⟩:=h
  refine⟨_,aq (bh (aO nD (aG aP (pv 0) ak (fun _ _=>rfl)) ak (aS _))
    (aq (aD (i:=2) nX.nd rfl (Or.inl rfl) (ay dN (aG aP (pv 0) ak (fun _ _=>rfl)) (pv 1)))
     (aq (eA (ay i9 (aG aP (pv 0) ak (fun _ _=>rfl)) (pv 1)) (gM (pv 0) ak set_list)) (aw (aM (pv 2))))) bp)
   (aq (eA (ay dN (ay bL (ay fT (aG aP (pv 0) ak (fun _ _=>rfl)) ak) ak) ak) (gM (pv 0) ak set_list))
   (aw (aM (ay dN (ay i9 (ay dN (ay fT (aG aP (pv 0) ak (fun _ _=>rfl)) (aG aP (pv 0) ak (fun _ _=>rfl))) ak) ak) (pv 1))))),?_⟩
  have hS:Sq K H p [.int a,.int b]:=.inl (SqL.of hp)
  refine⟨_,rfl,aK (j:=0) hS rfl rfl ⟨_,_,rfl,rfl,_,rfl,?_⟩⟩
  refine di (fun c=>?_) (fun c=>?_)
  ·refine⟨_,rfl,aK (j:=0) hS rfl rfl ⟨_,rfl,_,_,rfl,rfl,hn,?_⟩⟩
   refine⟨_,rfl,aK (j:=0) hS rfl rfl ⟨_,rfl,_,_,rfl,rfl,⟨hn,by omega⟩,_,rfl,p,[.int a,.int b],_,0,rfl,rfl,hp,rfl,?_⟩⟩
   refine⟨_,rfl,k _ _ (Int.emod_nonneg _ (by omega)) (Int.emod_lt_of_pos _ hn) ⟨_,_,ah,hb0,hb1⟩ fun c hc=>ai hc⟩
  ·refine⟨_,rfl,aK (j:=1) hS rfl rfl ⟨_,_,rfl,rfl,.inl ⟨by omega,by omega⟩,_,_,rfl,rfl,_,_,rfl,rfl,by show (0:Int) < 2147483629;decide,_,rfl,p,[.int a,.int b],_,1,rfl,rfl,hp,rfl,?_⟩⟩
   have m0:0<=(b * 39373 + 7919) % 2147483629:=Int.emod_nonneg _ (by decide)
   have m1:(b * 39373 + 7919) % 2147483629 < 2147483629:=Int.emod_lt_of_pos _ (by decide)
   have hS2:Sq K (upd H p (.lst ([V.int a,V.int b].set 1 (.int ((b * 39373 + 7919) % 2147483629))))) p [.int a,.int ((b * 39373 + 7919) % 2147483629)]:=.inl (SqL.of ah)
   refine⟨_,rfl,aK (j:=1) hS2 rfl rfl ⟨_,rfl,aK (j:=1) hS2 rfl rfl ⟨_,_,rfl,rfl,.inl ⟨by omega,by omega⟩,_,_,rfl,rfl,by show (0:Int) < 2147483563;decide,_,_,rfl,rfl,⟨by decide,by decide⟩,_,rfl,_,_,rfl,rfl,hn,?_⟩⟩⟩
   exact k _ _ (Int.emod_nonneg _ (by omega)) (Int.emod_lt_of_pos _ hn) ⟨_,_,ah,m0,m1⟩ fun c hc=>ai hc
end
noncomputable def bv:Str:=Str.ofString "abcdefghijklmnopqrstuvwxyz"
theorem oS:∀r:_root_.Fin 26,bv.cps.toList[r.val]?=some (97 + r.val):=by decide +kernel
theorem fu {r:Nat} (h:r < 26):bv.cps.toList[r]?=some (97 + r):=oS ⟨r,h⟩
theorem fq:bv.length<=sizeLine:=by decide
theorem join_one (cs:List Nat):(Txt.join (Str.ofString "") (cs.map fun c=>(⟨#[c]⟩:Str))).cps.toList=cs:=by
 have e0:(Str.ofString "").cps=#[]:=by decide
 show (Builtin.Str.glued (Str.ofString "") _).cps.toList=cs
 rw [StrLaws.glued_eq_join]
 induction cs with
 | nil=>rfl
 | cons c t ih =>
  cases t with
  | nil=>rfl
  | cons d r =>
   show (((⟨#[c]⟩:Str)++Str.ofString ""++Str.join (Str.ofString "") ((d::r).map fun c=>(⟨#[c]⟩:Str))).cps).toList=_
   rw [Str.cps_append,Str.cps_append,e0,Array.toList_append,Array.toList_append,ih]
   rfl
theorem pX (x:Str):∀c∈(Txt.slice x none (some 6)).cps.toList,c∈x.cps.toList:=by
 intro c hc
 unfold Txt.slice at hc
 split at hc
 ·exact hc
 ·simp only [List.mem_filterMap] at hc
  obtain⟨i,_,e⟩:=hc
  simpa using Array.mem_of_getElem? e
theorem iJ (x:Str):(Txt.slice x none (some 6)).length<=6:=by
 by_cases h:6<=x.length
 ·have e:=eq_of_beq (PyProof.Rows.slice_closes_toL (x:=x) (j:=6) (by decide) (by omega))
  rw [e]
  simp [Str.length]
  omega
 ·exact Nat.le_trans (Txt.slice_le x _ _) (by omega)
noncomputable def cE (x:Str) (m:Nat):Str:=Txt.slice x none (some 6)++(⟨#[97 + m / 26]⟩:Str)++(⟨#[97 + m % 26]⟩:Str)
theorem j6 (x:Str) (m:Nat):(cE x m).cps.toList=(Txt.slice x none (some 6)).cps.toList++[97 + m / 26,97 + m % 26]:=by
 unfold cE
 rw [Str.cps_append,Str.cps_append,Array.toList_append,Array.toList_append]
 simp
theorem qR (x:Str) {m n:Nat} (h:cE x m=cE x n):m=n:=by
 have e:=congrArg (fun s:Str=>s.cps.toList) h
 simp only [j6] at e
 have e2:=List.append_cancel_left e
 simp at e2
 omega
theorem aB.of_codes {x:Str}{l:List Nat} (e:x.cps.toList=l) (h1:1<=l.length) (h8:l.length<=8) (h:∀c∈l,97<=c/\c<=122):aB x:=by
 have hl:x.length=l.length:=by rw [<- e];simp [Str.length]
 exact⟨by omega,by omega,by rw [e];exact h⟩
theorem kO {x:Str} (hx:aB x) {m:Nat} (hm:m < 676):aB (cE x m):=by
 refine aB.of_codes (j6 x m) (by simp) ?_ ?_
 ·have:=iJ x
  simp [Str.length] at this ⊢
  omega
 ·intro c hc
  rcases List.mem_append.mp hc with z | z
  ·exact hx.az c (pX x c z)
  ·simp at z
   omega
theorem mS {α:Type}:∀(l m:List α),l.Nodup->(∀x∈l,x∈m)->l.length<=m.length
 | [],_,_,_=>Nat.zero_le _
 | x::t,m,hn,h=>by
  obtain⟨u,v,rfl⟩:=List.append_of_mem (h x List.mem_cons_self)
  have hn':=List.nodup_cons.mp hn
  have:=mS t (u++v) hn'.2 fun y hy=>by
   have hy':=h y (List.mem_cons_of_mem _ hy)
   rcases List.mem_append.mp hy' with z | z
   ·exact List.mem_append_left _ z
   ·rcases List.mem_cons.mp z with e | z
    ·exact absurd (e ▸ hy) hn'.1
    ·exact List.mem_append_right _ z
  simp at this ⊢
  omega
noncomputable abbrev cands (x:Str) (n:Nat):List Str:=(List.range n).map (cE x)
theorem j7 (x:Str) (ss:List Str):∃y r,(cands x (ss.length + 1)).filter (fun z=>!decide (z∈ss))=y::r:=by
 cases e:(cands x (ss.length + 1)).filter (fun z=>!decide (z∈ss)) with
 | cons y r=>exact⟨y,r,rfl⟩
 | nil =>
  have h:=List.filter_eq_nil_iff.mp e
  have nd:(cands x (ss.length + 1)).Nodup:=by
   refine List.pairwise_map.mpr ?_
   exact List.nodup_range.imp fun {a b} hab z=>hab (qR x z)
  have:=mS (cands x (ss.length + 1)) ss nd fun z hz=>by simpa using h z hz
  simp at this
  omega
theorem cN {H:Hp}{p t:Addr}{ss:List Str} (h1:Pot H p) (h2:H t=some (.lst (ss.map V.str))):t≠p:=by
 rintro rfl
 obtain⟨a,b,e,_⟩:=h1
 rw [e] at h2
 have h3:=HO.lst.inj (Option.some.inj h2)
 cases ss with
 | nil=>cases h3
 | cons x r=>rw [List.map_cons] at h3;cases List.cons.inj h3 |>.1
theorem jU {α:Type} (f:Nat->α) (i:Nat):(List.range (i + 1)).map f=(List.range i).map f++[f i]:=by rw [List.range_succ,List.map_append];rfl
noncomputable abbrev cw:List Str:=[("tie":Str),("places":Str),("tree":Str),("ties":Str),("place":Str)]
theorem gm:∀x∈cw,aB x:=by
 have h:∀x∈cw,1<=x.length/\x.length<=8/\∀c∈x.cps.toList,97<=c/\c<=122:=by decide +kernel
 exact fun x hx=>⟨(h x hx).1,(h x hx).2.1,(h x hx).2.2⟩
section
variable {P:Program}{w:World}{K:PySem.W.Frag}{mg:Str->Option Value}{base:Heap}
noncomputable def hZ:Sp:=fun vs H Q _=>∃(p t:Addr) (ss:List Str),vs=[.ref p,.ref t]/\Pot H p/\H t=some (.lst (ss.map V.str))/\ss.length<=600 /\
 ∀x H',aB x->x∉ss->Pot H' p->H' t=some (.lst ((ss++[x]).map V.str))->Kp [p,t] H H'->Q (.str x) H'
noncomputable abbrev N30:List Str:=["_law_pot_here","_law_taken","_law_letters","_law_name_here","_law_some"]
theorem fm:aR N30 ["_law_pot_here","_law_taken"] (aI (top 30)):=⟨rfl,rfl,rfl,by decide +kernel,rfl,by decide +kernel,by decide +kernel⟩
theorem sY {f:Addr}{fd:FuncData} (F:Fun K "_law_name" "_law_name" (top 30) f fd) (B:Bl mg) (Ft:Fn P w K mg base 1 "_law_take" ["_law_pot_here","_law_many"] de):aH P w K mg base CX0 2 f fd ["_law_pot_here","_law_taken"] hZ:=by
 refine F.ok fm (fun vs H Q E h=>?_) (fun cdv A outer s H vs Q E hr h=>?_)
 ·obtain⟨p,t,ss,rfl,_⟩:=h
  rfl
 ·obtain⟨p,t,ss,rfl,hp,ht,hz,k⟩:=h
  have ntp:=cN hp ht
  refine⟨_,aq (aD (i:=2) fm.nd rfl (Or.inr rfl) av)
   (aq (aD (i:=3) fm.nd rfl (Or.inr rfl) (bI PySem.F.plainAttrs_str PySem.F.slot_str_join PySem.F.type_str_join fK av (aa (cC (N:=["_law_k","_law_letters","_law_pot_here"]) (ix:=[none,some 2,some 0]) ⟨rfl,rfl,rfl,by decide⟩ rfl
    (dF rfl B.range (aa (ay bL ak (ay fT (aC Ft hr (aa (pv 0) (aa ak ae))) (aC Ft hr (aa (pv 0) (aa ak ae))))) ae)) (fun _ _ _ _=>bJ 0 (by decide) rfl rfl) (fun _ _ _ _=>bP)
    (fun _ _ _ _=>aG (bU K) (pv 1) (aC Ft hr (aa (pv 2) (aa ak ae))) (fun _ _=>rfl))) ae)))
   (aq (bh (aO dS (aC Ft hr (aa (pv 0) (aa ak ae))) ak (aS _))
    (aw (aD (i:=3) fm.nd rfl (Or.inr rfl) (aG aP (be (aa av (aa av (aa av (aa av (aa av ae)))))) (aC Ft hr (aa (pv 0) (aa ak ae))) (fun _ _=>rfl)))) bp)
   (aq (bh (aO iL (pv 3) (pv 1) (by with_unfolding_all rfl))
    (aq (fA (i:=4) (N:=["_law_k","_law_letters","_law_name_here"]) (ix:=[none,some 2,some 3]) fm.nd rfl (Or.inl rfl) ⟨rfl,rfl,rfl,by decide⟩ rfl (dF rfl B.range (aa (ay bL (aA bo rfl B.len PySem.boot_len (aa (pv 1) ae)) ak) ae))
      (fun _ _ _ _=>bJ 0 (by decide) rfl rfl) (fun _ _ _ _=>bP)
      (fun _ _ _ _=>ay b5 (ay b5 (aZ eE (pv 2) ba (bb ak)) (aG (bU K) (pv 1) (ay i9 (pv 0) ak) (fun _ _=>rfl))) (aG (bU K) (pv 1) (ay dN (pv 0) ak) (fun _ _=>rfl))))
     (aw (aD (i:=3) fm.nd rfl (Or.inr rfl) (aG aP (cC (N:=["_law_one","_law_taken"]) (ix:=[none,some 1]) ⟨rfl,rfl,rfl,by decide⟩ rfl (cn (pv 4)) (fun _ _ _ _=>bJ 0 (by decide) rfl rfl)
      (fun _ _ _ _=>i6 (aO (pA K) (pv 0) (pv 1) (by with_unfolding_all rfl))) (fun _ _ _ _=>pv 0)) ak (fun _ _=>rfl))))) bp)
   (aq (da (bI PySem.F.plainAttrs_list PySem.F.slot_list_append PySem.F.type_list_append dG (pv 1) (aa (pv 3) ae)))
   (aw (aM (pv 3))))))),?_⟩
  refine⟨rfl,_,rfl,p,2,rfl,hp,by decide,by decide,fun r1 H1 a0 a1 P1 e1=>⟨_,rfl,p,8,rfl,P1,by decide,by decide,fun r2 H2 b0 b1 P2 e2=>?_⟩⟩
  have hj:0<=r1 * r2/\r1 * r2<=7:=by
   have:r1=0\/r1=1:=by omega
   rcases this with rfl | rfl <;> omega
  have e12:∀b,b≠p->H2 b=H b:=fun b hb=>(e2 b hb).trans (e1 b hb)
  refine⟨_,_,rfl,rfl,.inl ⟨by omega,by omega⟩,_,_,rfl,rfl,_,rfl,by omega,by omega,?_⟩
  refine eP (fits (by omega)) (fun i ys σ H3=>(∃cs:List Nat,cs.length=i/\(∀c∈cs,97<=c/\c<=122)/\ys=cs.map fun c=>V.str ⟨#[c]⟩)/\Pot H3 p/\(∀b,b≠p->H3 b=H b)/\∃x,σ=[x,some (.str bv),some (.ref p)])
   ⟨⟨[],rfl,by simp,rfl⟩,P2,e12,_,rfl⟩ (fun i ys σ H3 _ q=>by obtain⟨⟨cs,rfl,_,rfl⟩,_⟩:=q;simp) ?_ ?_
  ·rintro i ys σ H3 hi ⟨⟨cs,rfl,hcs,rfl⟩,P3,e3,v,rfl⟩
   refine⟨_,rfl,_,rfl,p,26,rfl,P3,by decide,by decide,fun r H4 r0 r1 P4 e4=>.inr (.inr ⟨bv,r,97 + r.toNat,rfl,rfl,fq,dM (j:=r.toNat) (by omega) (fu (by omega)),⟨cs++[97 + r.toNat],by simp,fun c hc=>?_,by simp⟩,P4,fun b hb=>(e4 b hb).trans (e3 b hb),_,rfl⟩)⟩
   rcases List.mem_append.mp hc with z | z
   ·exact hcs c z
   ·simp at z
    omega
  ·rintro ys σ H3 ⟨⟨cs,hlen,hcs,rfl⟩,P3,e3,v,rfl⟩ q hq
   have hn:q≠p:=by rintro rfl;obtain⟨_,_,e,_⟩:=P3;rw [hq] at e;cases e
   have hx:aB (Txt.join (Str.ofString "") (cs.map fun c=>(⟨#[c]⟩:Str))):=aB.of_codes (join_one cs) (by rw [hlen];omega) (by rw [hlen];omega) hcs
   have hmap:(cs.map fun c=>V.str ⟨#[c]⟩)=(cs.map fun c=>(⟨#[c]⟩:Str)).map V.str:=by rw [List.map_map];rfl
   refine⟨Str.ofString "",q,cs.map fun c=>(⟨#[c]⟩:Str),rfl,rfl,SqL.of (by rw [ah,hmap]),?_,?_⟩
   ·have hs:∀l:List Nat,((l.map fun c=>(⟨#[c]⟩:Str)).map (·.length)).sum=l.length:=fun l=>by
     induction l with
     | nil=>rfl
     | cons c r ih=>simp only [List.map_cons,List.sum_cons,ih,List.length_cons];show 1 + r.length=_;omega
    have e0:(Str.ofString "").length=0:=by decide
    rw [hs,e0]
    omega
   generalize Txt.join (Str.ofString "") (cs.map fun c=>(⟨#[c]⟩:Str))=x at hx ⊢
   have P4:Pot (upd H3 q (.lst (cs.map fun c=>V.str ⟨#[c]⟩))) p:=by obtain⟨a,b,e,h⟩:=P3;exact⟨a,b,by rw [ai hn.symm];exact e,h⟩
   have K4:Kp [p,t] H (upd H3 q (.lst (cs.map fun c=>V.str ⟨#[c]⟩))):=Kp.new (fun b o e n=>by rw [e3 b (fun z=>n (by rw [z];simp))];exact e) hq
   have t4:upd H3 q (.lst (cs.map fun c=>V.str ⟨#[c]⟩)) t=some (.lst (ss.map V.str)):=by
    rw [ai (by rintro rfl;rw [e3 _ ntp,ht] at hq;cases hq),e3 t ntp];exact ht
   generalize upd H3 q (.lst (cs.map fun c=>V.str ⟨#[c]⟩))=H4 at P4 K4 t4 ⊢
   refine⟨_,rfl,p,9,rfl,P4,by decide,by decide,fun r9 H5 _ _ P5 e5=>⟨rfl,_,rfl,?_⟩⟩
   have K5:Kp [p,t] H H5:=K4.trans fun b o e nb=>by rw [e5 b (by simp at nb;exact nb.1)];exact e
   have t5:H5 t=some (.lst (ss.map V.str)):=by rw [e5 t (cN P4 t4)];exact t4
   clear e5 P4 K4 t4
   clear H4
   revert H5
   intro H4 P4 K4 t4
   refine di (fun c9=>?_) (fun c9=>?_)
   ·refine⟨by show 5<=sizeLine;decide,fun l5 hl5=>?_⟩
    have npl:p≠l5:=fun q=>by obtain⟨a,b,e,_⟩:=P4;rw [q,hl5] at e;cases e
    have K6:=K4.new (o:=.lst (cw.map V.str)) hl5
    have t6:upd H4 l5 (.lst (cw.map V.str)) t=some (.lst (ss.map V.str)):=by rw [ai (au t4 hl5)];exact t4
    have P6:Pot (upd H4 l5 (.lst (cw.map V.str))) p:=by obtain⟨a,b,e,h⟩:=P4;exact⟨a,b,by rw [ai npl];exact e,h⟩
    have ntp6:=cN P6 t6
    clear P4 K4 t4
    refine⟨_,rfl,p,5,rfl,P6,by decide,by decide,fun r H4 r0 r1 P4 e7=>?_⟩
    have l7:H4 l5=some (.lst (cw.map V.str)):=(e7 l5 npl.symm).trans ah
    have K4:Kp [p,t] H H4:=K6.trans fun b o e nb=>by rw [e7 b (by simp at nb;exact nb.1)];exact e
    have t4:H4 t=some (.lst (ss.map V.str)):=by rw [e7 t ntp6];exact t6
    have hrl:r.toNat < cw.length:=by show r.toNat < 5;omega
    refine aK (j:=r.toNat) (.inl (SqL.of l7)) (by omega) (strAt hrl) ?_
    clear hx
    have hx:aB cw[r.toNat]:=gm _ (List.getElem_mem hrl)
    generalize cw[r.toNat]=x at hx ⊢
    have tn4:=cN P4 t4
    refine⟨_,rfl,_,rfl,t,ss.map V.str,rfl,.inl (SqL.of t4),rfl,ed ss,_,rfl,?_⟩
    show if inV (.str x) (ss.map V.str)=true then _ else _
    rw [eo]
    refine di (fun c=>?_) (fun c=>?_)
    ·refine⟨_,rfl,t,_,rfl,.inl (SqL.of t4),_,_,rfl,rfl,_,rfl,by omega,by rw [List.length_map];omega,?_⟩
     have hnat:((((ss.map V.str).length:Nat):Int) + 1).toNat=ss.length + 1:=by rw [List.length_map];omega
     rw [hnat]
     refine eP (fits (by omega)) (fun i ys σ H5=>ys=(cands x i).map V.str/\H5=H4/\∃v,σ=[v,some (.str bv),some (.str x)]) ⟨rfl,rfl,_,rfl⟩ (fun i ys σ H5 _ q=>by rw [q.1];simp) ?_ ?_
     ·rintro i ys σ H5 hi ⟨rfl,rfl,v,rfl⟩
      have l1:=iJ x
      refine⟨_,rfl,_,rfl,x,rfl,Nat.le_of_lt hx.fits,_,rfl,_,rfl,_,_,rfl,rfl,⟨by decide,by decide⟩,.inr (.inr ⟨bv,_,97 + i / 26,rfl,rfl,fq,dM (j:=i / 26) (by omega) (fu (by omega)),_,_,rfl,rfl,?_,?_⟩)⟩
      ·show (Txt.slice x none (some 6)).length + 1<=sizeLine
       rw [sizeLine_eq];omega
      refine⟨_,rfl,_,rfl,_,_,rfl,rfl,by show (0:Int) < 26;decide,.inr (.inr ⟨bv,_,97 + i % 26,rfl,rfl,fq,dM (j:=i % 26) (by omega) (fu (by omega)),_,_,rfl,rfl,?_,?_,rfl,_,rfl⟩)⟩
      ·rw [Str.length_append]
       show (Txt.slice x none (some 6)).length + 1 + 1<=sizeLine
       rw [sizeLine_eq];omega
      ·rw [cands,cands,jU,List.map_append];rfl
     ·rintro ys σ H5 ⟨rfl,rfl,v,rfl⟩ q2 hq2
      have t5:upd H5 q2 (.lst ((cands x (ss.length + 1)).map V.str)) t=some (.lst (ss.map V.str)):=by rw [ai (au t4 hq2)];exact t4
      have P5:Pot (upd H5 q2 (.lst ((cands x (ss.length + 1)).map V.str))) p:=by
       obtain⟨a,b,e,h⟩:=P4
       exact⟨a,b,by rw [ai (au e hq2)];exact e,h⟩
      have K5:=K4.new (o:=.lst ((cands x (ss.length + 1)).map V.str)) hq2
      have c5:upd H5 q2 (.lst ((cands x (ss.length + 1)).map V.str)) q2=some (.lst ((cands x (ss.length + 1)).map V.str)):=ah
      generalize upd H5 q2 (.lst ((cands x (ss.length + 1)).map V.str))=H6 at t5 P5 K5 c5 ⊢
      refine⟨_,rfl,q2,rfl,⟨_,SqL.of c5⟩,gq (xs:=(cands x (ss.length + 1)).map V.str) (fits (by simp;omega)) (fun i ys σ H7=>ys=(((cands x (ss.length + 1)).take i).filter fun z=>!decide (z∈ss)).map V.str/\H7=H6/\∃v,σ=[v,some (.ref t)])
       ⟨rfl,rfl,_,rfl⟩ (fun i ys σ H7 _ q=>⟨by rw [q.1,List.length_map];exact Nat.le_trans (List.length_filter_le _ _) (by simp;omega),by rw [q.2.1];exact SqL.of c5⟩) ?_ ?_⟩
      ·rintro i y ys σ H7 hy ⟨rfl,rfl,v,rfl⟩
       rw [List.getElem?_map] at hy
       cases hc:(cands x (ss.length + 1))[i]? with
       | none=>rw [hc] at hy;cases hy
       | some z =>
        rw [hc] at hy
        cases hy
        have tf:=iy (fun z:Str=>!decide (z∈ss)) (cands x (ss.length + 1)) i z hc
        refine⟨_,rfl,_,rfl,t,ss.map V.str,rfl,.inl (SqL.of t5),rfl,ed ss,_,rfl,?_⟩
        show if (!inV (.str z) (ss.map V.str))=true then _ else _
        rw [eo]
        refine di (fun c=>⟨_,rfl,?_,rfl,_,rfl⟩) (fun c=>⟨?_,rfl,_,rfl⟩)
        ·rw [tf,c];simp
        ·rw [tf];simp only [Bool.not_eq_true] at c;rw [c];simp
      ·rintro ys σ H7 ⟨rfl,rfl,v,rfl⟩ q3 hq3
       rw [take_all (cands x (ss.length + 1)) (by simp)]
       obtain⟨y,r,ey⟩:=j7 x ss
       rw [ey]
       have hy:y∈(cands x (ss.length + 1)).filter (fun z=>!decide (z∈ss)):=by rw [ey];exact List.mem_cons_self
       obtain⟨hy1,hy2⟩:=List.mem_filter.mp hy
       obtain⟨m,hm,rfl⟩:=List.mem_map.mp hy1
       have hm':=List.mem_range.mp hm
       refine aK (j:=0) (.inl (SqL.of ah)) rfl rfl ?_
       have t7:upd H7 q3 (.lst ((cE x m::r).map V.str)) t=some (.lst (ss.map V.str)):=by rw [ai (au t5 hq3)];exact t5
       have P7:Pot (upd H7 q3 (.lst ((cE x m::r).map V.str))) p:=by
        obtain⟨a,b,e,h⟩:=P5
        exact⟨a,b,by rw [ai (au e hq3)];exact e,h⟩
       have K7:=K5.new (o:=.lst ((cE x m::r).map V.str)) hq3
       refine⟨_,rfl,.inl ⟨rfl,_,SqL.of t7⟩,_,rfl,t,ss.map V.str,_,rfl,rfl,t7,by rw [List.length_map];exact fits (by omega),?_⟩
       refine⟨_,rfl,k _ _ (kO hx (by omega)) (by simpa using hy2) ?_ (by rw [ah,List.map_append];rfl) (K7.inn (by simp))⟩
       obtain⟨a,b,e,h⟩:=P7
       exact⟨a,b,by rw [ai tn4.symm];exact e,h⟩
    ·simp only [decide_eq_true_eq] at c
     refine⟨_,rfl,.inl ⟨rfl,_,SqL.of t4⟩,_,rfl,t,ss.map V.str,_,rfl,rfl,t4,by rw [List.length_map];exact fits (by omega),?_⟩
     refine⟨_,rfl,k _ _ hx c ?_ (by rw [ah,List.map_append];rfl) (K4.inn (by simp))⟩
     obtain⟨a,b,e,h⟩:=P4
     exact⟨a,b,by rw [ai tn4.symm];exact e,h⟩
   ·have tn4:=cN P4 t4
    refine⟨_,rfl,_,rfl,t,ss.map V.str,rfl,.inl (SqL.of t4),rfl,ed ss,_,rfl,?_⟩
    show if inV (.str x) (ss.map V.str)=true then _ else _
    rw [eo]
    refine di (fun c=>?_) (fun c=>?_)
    ·refine⟨_,rfl,t,_,rfl,.inl (SqL.of t4),_,_,rfl,rfl,_,rfl,by omega,by rw [List.length_map];omega,?_⟩
     have hnat:((((ss.map V.str).length:Nat):Int) + 1).toNat=ss.length + 1:=by rw [List.length_map];omega
     rw [hnat]
     refine eP (fits (by omega)) (fun i ys σ H5=>ys=(cands x i).map V.str/\H5=H4/\∃v,σ=[v,some (.str bv),some (.str x)]) ⟨rfl,rfl,_,rfl⟩ (fun i ys σ H5 _ q=>by rw [q.1];simp) ?_ ?_
     ·rintro i ys σ H5 hi ⟨rfl,rfl,v,rfl⟩
      have l1:=iJ x
      refine⟨_,rfl,_,rfl,x,rfl,Nat.le_of_lt hx.fits,_,rfl,_,rfl,_,_,rfl,rfl,⟨by decide,by decide⟩,.inr (.inr ⟨bv,_,97 + i / 26,rfl,rfl,fq,dM (j:=i / 26) (by omega) (fu (by omega)),_,_,rfl,rfl,?_,?_⟩)⟩
      ·show (Txt.slice x none (some 6)).length + 1<=sizeLine
       rw [sizeLine_eq];omega
      refine⟨_,rfl,_,rfl,_,_,rfl,rfl,by show (0:Int) < 26;decide,.inr (.inr ⟨bv,_,97 + i % 26,rfl,rfl,fq,dM (j:=i % 26) (by omega) (fu (by omega)),_,_,rfl,rfl,?_,?_,rfl,_,rfl⟩)⟩
      ·rw [Str.length_append]
       show (Txt.slice x none (some 6)).length + 1 + 1<=sizeLine
       rw [sizeLine_eq];omega
      ·rw [cands,cands,jU,List.map_append];rfl
     ·rintro ys σ H5 ⟨rfl,rfl,v,rfl⟩ q2 hq2
      have t5:upd H5 q2 (.lst ((cands x (ss.length + 1)).map V.str)) t=some (.lst (ss.map V.str)):=by rw [ai (au t4 hq2)];exact t4
      have P5:Pot (upd H5 q2 (.lst ((cands x (ss.length + 1)).map V.str))) p:=by
       obtain⟨a,b,e,h⟩:=P4
       exact⟨a,b,by rw [ai (au e hq2)];exact e,h⟩
      have K5:=K4.new (o:=.lst ((cands x (ss.length + 1)).map V.str)) hq2
      have c5:upd H5 q2 (.lst ((cands x (ss.length + 1)).map V.str)) q2=some (.lst ((cands x (ss.length + 1)).map V.str)):=ah
      generalize upd H5 q2 (.lst ((cands x (ss.length + 1)).map V.str))=H6 at t5 P5 K5 c5 ⊢
      refine⟨_,rfl,q2,rfl,⟨_,SqL.of c5⟩,gq (xs:=(cands x (ss.length + 1)).map V.str) (fits (by simp;omega)) (fun i ys σ H7=>ys=(((cands x (ss.length + 1)).take i).filter fun z=>!decide (z∈ss)).map V.str/\H7=H6/\∃v,σ=[v,some (.ref t)])
       ⟨rfl,rfl,_,rfl⟩ (fun i ys σ H7 _ q=>⟨by rw [q.1,List.length_map];exact Nat.le_trans (List.length_filter_le _ _) (by simp;omega),by rw [q.2.1];exact SqL.of c5⟩) ?_ ?_⟩
      ·rintro i y ys σ H7 hy ⟨rfl,rfl,v,rfl⟩
       rw [List.getElem?_map] at hy
       cases hc:(cands x (ss.length + 1))[i]? with
       | none=>rw [hc] at hy;cases hy
       | some z =>
        rw [hc] at hy
        cases hy
        have tf:=iy (fun z:Str=>!decide (z∈ss)) (cands x (ss.length + 1)) i z hc
        refine⟨_,rfl,_,rfl,t,ss.map V.str,rfl,.inl (SqL.of t5),rfl,ed ss,_,rfl,?_⟩
        show if (!inV (.str z) (ss.map V.str))=true then _ else _
        rw [eo]
        refine di (fun c=>⟨_,rfl,?_,rfl,_,rfl⟩) (fun c=>⟨?_,rfl,_,rfl⟩)
        ·rw [tf,c];simp
        ·rw [tf];simp only [Bool.not_eq_true] at c;rw [c];simp
      ·rintro ys σ H7 ⟨rfl,rfl,v,rfl⟩ q3 hq3
       rw [take_all (cands x (ss.length + 1)) (by simp)]
       obtain⟨y,r,ey⟩:=j7 x ss
       rw [ey]
       have hy:y∈(cands x (ss.length + 1)).filter (fun z=>!decide (z∈ss)):=by rw [ey];exact List.mem_cons_self
       obtain⟨hy1,hy2⟩:=List.mem_filter.mp hy
       obtain⟨m,hm,rfl⟩:=List.mem_map.mp hy1
       have hm':=List.mem_range.mp hm
       refine aK (j:=0) (.inl (SqL.of ah)) rfl rfl ?_
       have t7:upd H7 q3 (.lst ((cE x m::r).map V.str)) t=some (.lst (ss.map V.str)):=by rw [ai (au t5 hq3)];exact t5
       have P7:Pot (upd H7 q3 (.lst ((cE x m::r).map V.str))) p:=by
        obtain⟨a,b,e,h⟩:=P5
        exact⟨a,b,by rw [ai (au e hq3)];exact e,h⟩
       have K7:=K5.new (o:=.lst ((cE x m::r).map V.str)) hq3
       refine⟨_,rfl,.inl ⟨rfl,_,SqL.of t7⟩,_,rfl,t,ss.map V.str,_,rfl,rfl,t7,by rw [List.length_map];exact fits (by omega),?_⟩
       refine⟨_,rfl,k _ _ (kO hx (by omega)) (by simpa using hy2) ?_ (by rw [ah,List.map_append];rfl) (K7.inn (by simp))⟩
       obtain⟨a,b,e,h⟩:=P7
       exact⟨a,b,by rw [ai tn4.symm];exact e,h⟩
    ·simp only [decide_eq_true_eq] at c
     refine⟨_,rfl,.inl ⟨rfl,_,SqL.of t4⟩,_,rfl,t,ss.map V.str,_,rfl,rfl,t4,by rw [List.length_map];exact fits (by omega),?_⟩
     refine⟨_,rfl,k _ _ hx c ?_ (by rw [ah,List.map_append];rfl) (K4.inn (by simp))⟩
     obtain⟨a,b,e,h⟩:=P4
     exact⟨a,b,by rw [ai tn4.symm];exact e,h⟩
end
theorem kQ:∀(r:List Str) (x:Str),PyProof.Rows.risingS x r=true->(x::r).Nodup->(x::r).Pairwise nlt
 | [],x,_,_=>by simp
 | y::r,x,h,hn=>by
  have h':(!PySem.Spec.ltCps y.cps.toList x.cps.toList && PyProof.Rows.risingS y r)=true:=h
  rw [Bool.and_eq_true,PyProof.Rows.ltCps_eq] at h'
  have hn':=List.nodup_cons.mp hn
  have ih:=kQ r y h'.2 hn'.2
  have hxy:nlt x y:=by
   rcases mx (fun e=>hn'.1 (e ▸ List.mem_cons_self):x≠y) with z | z
   ·exact z
   ·rw [decide_eq_true z] at h'
    exact absurd h'.1 (by simp)
  refine List.pairwise_cons.mpr ⟨fun z hz=>?_,ih⟩
  rcases List.mem_cons.mp hz with rfl | hz
  ·exact hxy
  ·exact List.lt_trans hxy ((List.pairwise_cons.mp ih).1 z hz)
theorem iP {ss:List Str} (h:PyProof.Rows.sortedS ss=true) (hn:ss.Nodup):ss.Pairwise nlt:=by
 cases ss with
 | nil=>exact .nil
 | cons x r=>exact kQ r x h hn
theorem Kp.free {P:List Addr}{H H':Hp} (k:Kp P H H') (hP:∀b∈P,∃o,H' b=some o) {q:Addr} (hq:H' q=none):H q=none:=by
 cases e:H q with
 | none=>rfl
 | some o =>
  by_cases hm:q∈P
  ·obtain⟨o',e'⟩:=hP q hm
   rw [hq] at e';cases e'
  ·rw [k q o e hm] at hq;cases hq
theorem Pot.some {H:Hp}{p:Addr} (h:Pot H p):∃o,H p=some o:=let ⟨a,b,e,_⟩:=h;⟨_,e⟩
theorem Pot.keep {H H':Hp}{p:Addr} (h:Pot H p) (e:∀o,H p=Option.some o->H' p=Option.some o):Pot H' p:=let ⟨a,b,q,r⟩:=h;⟨a,b,e _ q,r⟩
section
variable {P:Program}{w:World}{K:PySem.W.Frag}{mg:Str->Option Value}{base:Heap}
noncomputable def lx:Sp:=fun vs H Q _=>∃(p:Addr) (n:Int),vs=[.ref p,.int n]/\Pot H p/\0 < n/\n<=5 /\
 ∀(q:Addr) (ps:List Str) (H':Hp),Pot H' p->H' q=some (.lst (ps.map V.str))->H q=none->(∀x∈ps,aB x)->ps.Pairwise nlt->1<=ps.length->ps.length<=5->Kp [p] H H'->Q (.ref q) H'
theorem jJ:aR ["_law_pot_here","_law_most","_law_taken","_law_k"] ["_law_pot_here","_law_most"] (aI (top 33)):=⟨rfl,rfl,rfl,by decide +kernel,rfl,by decide +kernel,by decide +kernel⟩
theorem qK {f:Addr}{fd:FuncData} (F:Fun K "_law_places" "_law_places" (top 33) f fd) (B:Bl mg) (Ft:Fn P w K mg base 1 "_law_take" ["_law_pot_here","_law_many"] de) (Fm:Fn P w K mg base 2 "_law_name" ["_law_pot_here","_law_taken"] hZ) :
  aH P w K mg base CX0 3 f fd ["_law_pot_here","_law_most"] lx:=by
 refine F.ok jJ (fun vs H Q E h=>?_) (fun cdv A outer s H vs Q E hr h=>?_)
 ·obtain⟨p,n,rfl,_⟩:=h
  rfl
 ·obtain⟨p,n,rfl,hp,hn,hn8,k⟩:=h
  have hr1:aN 1 _:=hr.mono (by decide)
  refine⟨_,aq (aD (i:=2) jJ.nd rfl (Or.inl rfl) (be ae))
   (aq (cO PassesOwn.never rfl (dF rfl B.range (aa (ay bL ak (aC Ft hr1 (aa (pv 0) (aa (pv 1) ae)))) ae)) (bw (i:=3) jJ.nd rfl (Or.inl rfl)) (aw (da (aC Fm hr (aa (pv 0) (aa (pv 2) ae))))))
   (aw (aM (aA jW rfl B.sorted eS (aa (pv 2) ae))))),?_⟩
  refine⟨by show 0<=sizeLine;exact Nat.zero_le _,fun t ht=>?_⟩
  have ntp:t≠p:=fun z=>by obtain⟨o,e⟩:=hp.some;rw [<- z,ht] at e;cases e
  have hp1:Pot (upd H t (.lst [])) p:=hp.keep fun o e=>by rw [ai ntp.symm];exact e
  refine⟨_,rfl,_,rfl,p,n,rfl,hp1,hn,by omega,fun r H1 r0 r1 P1 e1=>?_⟩
  have t1:H1 t=some (.lst []):=by rw [e1 t ntp,ah]
  have K1:Kp [p,t] H H1:=fun b o e nb=>by
   rw [e1 b (fun z=>nb (by rw [z];simp)),ai (au e ht)];exact e
  refine⟨_,_,rfl,rfl,_,rfl,by omega,by omega,fv (fun i σ H2=>∃(ss:List Str) (v:Option V),σ=[some (.ref p),some (.int n),some (.ref t),v]/\Pot H2 p/\H2 t=some (.lst (ss.map V.str))/\ss.length=i/\ss.Nodup/\(∀x∈ss,aB x)/\Kp [p,t] H H2)
   ⟨[],none,rfl,P1,t1,rfl,List.nodup_nil,by simp,K1⟩ ?_ ?_⟩
  ·rintro i σ H2 hi ⟨ss,v,rfl,P2,t2,hl,nd,hnm,K2⟩
   refine⟨_,rfl,_,rfl,p,t,ss,rfl,P2,t2,by omega,fun x H3 hx hxn P3 t3 K3=>⟨ss++[x],_,rfl,P3,t3,by simp [hl],List.nodup_append.mpr ⟨nd,by simp,fun a ha b hb=>?_⟩,fun y hy=>?_,K2.trans K3⟩⟩
   ·have e:b=x:=by simpa using hb
    subst e
    exact fun z=>hxn (z ▸ ha)
   ·rcases List.mem_append.mp hy with z | z
    ·exact hnm y z
    ·have e:y=x:=by simpa using z
     subst e
     exact hx
  ·rintro σ H2 ⟨ss,v,rfl,P2,t2,hl,nd,hnm,K2⟩
   refine⟨_,rfl,t,ss,rfl,SqL.of t2,by omega,fun ss' q hpm hso hq=>?_⟩
   have nd':ss'.Nodup:=hpm.nodup_iff.mpr nd
   have hll:ss'.length=ss.length:=hpm.length_eq
   refine k q ss' _ (P2.keep fun o e=>by rw [ai (au e hq)];exact e) ah (K2.free (fun b hb=>?_) hq) (fun x hx=>hnm x (hpm.mem_iff.mp hx)) (iP hso nd') (by omega) (by omega) (fun b o e nb=>?_)
   ·rcases List.mem_cons.mp hb with rfl | hb
    ·exact P2.some
    ·have e:b=t:=by simpa using hb
     subst e
     exact⟨_,t2⟩
   ·have hbt:b≠t:=au e ht
    have:=K2 b o e (by simp at nb ⊢;exact⟨nb,hbt⟩)
    rw [ai (au this hq)]
    exact this
end
structure br (H:Hp) (rw tk:Addr) (rs:List (Addr×Row)):Prop where
 rl:H rw=some (.lst (bg rs))
 tl:H tk=some (.lst ((nms rs).map V.str))
 rows:∀r∈rs,nC H r.1 r.2
structure GR (ps:List Str) (rs:List (Addr×Row)):Prop where
 nd:(nms rs).Nodup
 ok:∀r∈rs,aB r.2.1/\r.2.2.1∈ps/\r.2.2.2∈ps/\r.2.2.1≠r.2.2.2
theorem tup_ne {H:Hp}{a b:Addr}{xs ys:List V} (h1:H a=some (.tup xs)) (h2:H b=some (.lst ys)):a≠b:=u5 h1 h2 (by intro z;cases z)
theorem jj {H H':Hp}{P:List Addr}{b:Addr}{xs:List V} (k:Kp P H H') (hP:∀c∈P,∃ys,H c=some (.lst ys)) (e:H b=some (.tup xs)):H' b=some (.tup xs) :=
 k b _ e fun hb=>by
  obtain⟨ys,e'⟩:=hP b hb
  exact tup_ne e e' rfl
theorem Pot.lst {H:Hp}{p:Addr} (h:Pot H p):∃ys,H p=Option.some (HO.lst ys):=let ⟨a,b,e,_⟩:=h;⟨_,e⟩
theorem br.kp {H H':Hp}{rw tk:Addr}{rs:List (Addr×Row)}{P:List Addr} (R:br H rw tk rs) (k:Kp P H H') (hP:∀c∈P,∃ys,H c=some (.lst ys)) (h1:rw∉P) (h2:tk∉P):br H' rw tk rs :=
 ⟨k _ _ R.rl h1,k _ _ R.tl h2,fun r hr=>jj k hP (R.rows r hr)⟩
theorem br.new {H:Hp}{rw tk q:Addr}{o:HO}{rs:List (Addr×Row)} (R:br H rw tk rs) (hq:H q=none):br (upd H q o) rw tk rs :=
 R.kp (P:=[]) (Kp.new (Kp.refl _ _) hq) (by simp) (by simp) (by simp)
theorem br.off {H:Hp}{rw tk q:Addr}{o:HO}{ys:List V}{rs:List (Addr×Row)} (R:br H rw tk rs) (h1:rw≠q) (h2:tk≠q) (hq:H q=some (.lst ys)):br (upd H q o) rw tk rs :=
 R.kp (P:=[q]) (Kp.inn (Kp.refl _ _) (by simp)) (fun c hc=>⟨ys,(show c=q by simpa using hc) ▸ hq⟩) (by simpa using h1) (by simpa using h2)
theorem br.add {H H2:Hp}{p rw tk n:Addr}{rs:List (Addr×Row)}{x a b:Str} (R:br H rw tk rs) (hp:Pot H p) (n1:rw≠p) (n2:rw≠tk) (K2:Kp [p,tk] H H2) (t2:H2 tk=some (.lst ((nms rs++[x]).map V.str))) (hn:H2 n=none) :
  br (upd (upd H2 n (.tup [.str x,.str a,.str b])) rw (.lst (bg rs++[.ref n]))) rw tk (rs++[(n,(x,a,b))]):=by
 have hP:∀c∈[p,tk],∃ys,H c=some (.lst ys):=fun c hc=>by
  rcases List.mem_cons.mp hc with rfl | hc
  ·exact hp.lst
  ·have e:c=tk:=by simpa using hc
   subst e;exact⟨_,R.tl⟩
 have r2:H2 rw=some (.lst (bg rs)):=K2 _ _ R.rl (by simp [n1,n2])
 have nrw:n≠rw:=fun z=>by rw [z,r2] at hn;cases hn
 have ntk:tk≠n:=au t2 hn
 refine⟨by rw [ah];simp [bg],by rw [ai n2.symm,ai ntk,t2];simp [nms],fun r hr=>?_⟩
 rcases List.mem_append.mp hr with z | z
 ·have e2:=jj K2 hP (R.rows r z)
  show upd _ _ _ r.1=_
  rw [ai (tup_ne e2 r2),ai (au e2 hn)]
  exact e2
 ·have e:r=(n,(x,a,b)):=by simpa using z
  subst e
  show upd _ _ _ n=_
  rw [ai nrw,ah]
theorem GR.add {ps:List Str}{rs:List (Addr×Row)}{n:Addr}{x a b:Str} (G:GR ps rs) (hx:aB x) (hn:x∉nms rs) (ha:a∈ps) (hb:b∈ps) (hab:a≠b):GR ps (rs++[(n,(x,a,b))]):=by
 refine⟨?_,fun r hr=>?_⟩
 ·rw [nms,List.map_append]
  refine List.nodup_append.mpr ⟨G.nd,by simp,fun y hy z hz=>?_⟩
  have e:z=x:=by simpa using hz
  subst e
  exact fun q=>hn (q ▸ hy)
 ·rcases List.mem_append.mp hr with z | z
  ·exact G.ok r z
  ·have e:r=(n,(x,a,b)):=by simpa using z
   subst e
   exact⟨hx,ha,hb,hab⟩
theorem px {ps:List Str}{x:Str}:ps.Nodup->x∈ps->(ps.filter fun y=>!decide (y=x)).length + 1=ps.length:=by
 induction ps with
 | nil=>intro _ h;cases h
 | cons y t ih =>
  intro hn hm
  have hn':=List.nodup_cons.mp hn
  by_cases e:y=x
  ·subst e
   rw [List.filter_cons,if_neg (by simp),List.filter_eq_self.mpr fun z hz=>by simpa using fun q:z=y=>hn'.1 (q ▸ hz)]
   rfl
  ·rw [List.filter_cons,if_pos (by simpa using e),List.length_cons,List.length_cons,ih hn'.2 ((List.mem_cons.mp hm).resolve_left fun q=>e q.symm)]
theorem rO {x:Str} (h:aB x):PyData.strOk x=true:=by
 unfold PyData.strOk
 rw [Array.all_eq_true']
 intro c hc
 have:=h.az c (by simpa using hc)
 simp;omega
theorem iV {ss:List Str} (h:∀x∈ss,aB x):PyData.canLayAll0 (ss.map PyData.str)=true/\PyData.depthAll (ss.map PyData.str)=0:=by
 induction ss with
 | nil=>exact⟨rfl,rfl⟩
 | cons x t ih =>
  have:=ih fun y hy=>h y (List.mem_cons_of_mem _ hy)
  rw [List.map_cons]
  simp only [PyData.canLayAll0,PyData.canLay0,PyData.depthAll,PyData.depth,rO (h x List.mem_cons_self),this.1,this.2]
  exact⟨rfl,rfl⟩
theorem cY {ss:List Str} (h:∀x∈ss,aB x):SeqAt.shaped (.list (ss.map PyData.str))=true/\SeqAt.shaped (.tuple (ss.map PyData.str))=true:=by
 have q:=iV h
 unfold SeqAt.shaped
 simp only [PyData.canLay0,PyData.depth,q.1,q.2]
 exact⟨by decide,by decide⟩
theorem ft:∀(a b:List Str),PyData.eqvAll (a.map PyData.str) (b.map PyData.str)=decide (a=b)
 | [],[]=>by simp [PyData.eqvAll]
 | [],y::t=>by simp [PyData.eqvAll]
 | x::s,[]=>by simp [PyData.eqvAll]
 | x::s,y::t=>by
  simp only [List.map_cons,PyData.eqvAll,PyData.eqv,ft s t]
  rw [Bool.eq_iff_iff]
  simp
theorem jX {α:Type}:∀{l:List α}{i:Nat} (hi:i < l.length),l.Nodup->l[i]∉l.eraseIdx i
 | x::t,0,_,hn=>(List.nodup_cons.mp hn).1
 | x::t,i + 1,hi,hn=>by
  have hn':=List.nodup_cons.mp hn
  have hi':i < t.length:=by simpa using hi
  show t[i]∉x::t.eraseIdx i
  intro h
  rcases List.mem_cons.mp h with e | h
  ·exact hn'.1 (e ▸ List.getElem_mem hi')
  ·exact jX hi' hn'.2 h
theorem ko {α β:Type} (f:α->β):∀(l:List α) (i:Nat),(l.map f).eraseIdx i=(l.eraseIdx i).map f
 | [],i=>by simp
 | x::t,0=>rfl
 | x::t,i + 1=>by
  show f x::(t.map f).eraseIdx i=f x::(t.eraseIdx i).map f
  rw [ko f t i]
section
variable {P:Program}{w:World}{K:PySem.W.Frag}{mg:Str->Option Value}{base:Heap}
noncomputable def mB:Sp:=fun vs H Q _=>∃(p pl rw tk:Addr) (root:Str) (ps:List Str) (rs:List (Addr×Row)),vs=[.ref p,.ref pl,.str root,.ref rw,.ref tk]/\Pot H p/\H pl=some (.lst (ps.map V.str))/\root∈ps/\ps.Nodup/\(∀x∈ps,aB x)/\ps.length<=5 /\
 br H rw tk rs/\GR ps rs/\rs.length<=300/\rw≠p/\tk≠p/\rw≠tk /\
 ∀(q:Addr) (ts:List Str) (more:List (Addr×Row)) (H':Hp),Pot H' p->br H' rw tk (rs++more)->GR ps (rs++more)->more.length<=7->Kp [p,rw,tk] H H'->H' q=some (.tup (ts.map V.str))->(∀x∈ts,aB x)->ts.Pairwise nlt->ts.length<=5->Q (.ref q) H'
noncomputable abbrev N31:List Str:=["_law_pot_here","_law_places_here","_law_root","_law_rows_here","_law_taken","_law_done","_law_left","_law_tree","_law_goal"]
theorem fZ:aR N31 ["_law_pot_here","_law_places_here","_law_root","_law_rows_here","_law_taken"] (aI (top 31)):=⟨rfl,rfl,rfl,by decide +kernel,rfl,by decide +kernel,by decide +kernel⟩
structure GS (H H1:Hp) (p rw tk d l tr:Addr) (ps:List Str) (ds ls ts:List Str) (rs more:List (Addr×Row)):Prop where
 pot:Pot H1 p
 dd:H1 d=some (.lst (ds.map V.str))
 ll:H1 l=some (.lst (ls.map V.str))
 tt:H1 tr=some (.lst (ts.map V.str))
 ra:br H1 rw tk (rs++more)
 gr:GR ps (rs++more)
 kp:Kp [p,rw,tk] H H1
structure GP (ps:List Str) (ds ls ts:List Str) (more:List (Addr×Row)):Prop where
 d1:∀x∈ds,x∈ps
 l1:∀x∈ls,x∈ps/\x∉ds
 ln:ls.Nodup
 n1:more.length + ls.length + 1=ps.length
 n2:ds.length=more.length + 1
 n3:ts=nms more
theorem GS.new {H H1:Hp}{p rw tk d l tr q:Addr}{o:HO}{ps ds ls ts:List Str}{rs more:List (Addr×Row)} (S:GS H H1 p rw tk d l tr ps ds ls ts rs more) (hq:H1 q=none):GS H (upd H1 q o) p rw tk d l tr ps ds ls ts rs more :=
 ⟨S.pot.keep fun ob e=>by rw [ai (au e hq)];exact e,by rw [ai (au S.dd hq)];exact S.dd,by rw [ai (au S.ll hq)];exact S.ll,by rw [ai (au S.tt hq)];exact S.tt,S.ra.new hq,S.gr,S.kp.new hq⟩
theorem GS.pots {H H1 H2:Hp}{p rw tk d l tr:Addr}{ps ds ls ts:List Str}{rs more:List (Addr×Row)} (S:GS H H1 p rw tk d l tr ps ds ls ts rs more) (n1:rw≠p) (n2:tk≠p) (n3:d≠p) (n4:l≠p) (n5:tr≠p) (P2:Pot H2 p) (e2:∀b,b≠p->H2 b=H1 b) :
  GS H H2 p rw tk d l tr ps ds ls ts rs more :=
 ⟨P2,by rw [e2 d n3];exact S.dd,by rw [e2 l n4];exact S.ll,by rw [e2 tr n5];exact S.tt,S.ra.kp (P:=[p]) (fun b o e nb=>by rw [e2 b (by simpa using nb)];exact e) (fun c hc=>by
  have e:c=p:=by simpa using hc
  subst e;exact S.pot.lst) (by simpa using n1) (by simpa using n2),S.gr,S.kp.trans fun b o e nb=>by rw [e2 b (by simp at nb;exact nb.1)];exact e⟩
theorem qO {f:Addr}{fd:FuncData} (F:Fun K "_law_grown" "_law_grown" (top 31) f fd) (B:Bl mg) (Ft:Fn P w K mg base 1 "_law_take" ["_law_pot_here","_law_many"] de) (Fm:Fn P w K mg base 2 "_law_name" ["_law_pot_here","_law_taken"] hZ) :
  aH P w K mg base CX0 3 f fd ["_law_pot_here","_law_places_here","_law_root","_law_rows_here","_law_taken"] mB:=by
 refine F.ok fZ (fun vs H Q E h=>?_) (fun cdv A outer s H vs Q E hr h=>?_)
 ·obtain⟨p,pl,rw,tk,root,ps,rs,rfl,_⟩:=h
  rfl
 ·obtain⟨p,pl,rw,tk,root,ps,rs,rfl,hp,hpl,hroot,pnd,pnm,p8,R,G,hz,nrp,ntp,nrt,k⟩:=h
  have hr1:aN 1 _:=hr.mono (by decide)
  refine⟨_,aq (aD (i:=5) fZ.nd rfl (Or.inl rfl) (be (aa (pv 2) ae)))
   (aq (fA (i:=6) (N:=["_law_place","_law_root"]) (ix:=[none,some 2]) fZ.nd rfl (Or.inl rfl) ⟨rfl,rfl,rfl,by decide⟩ rfl (cn (pv 1)) (fun _ _ _ _=>bJ 0 (by decide) rfl rfl) (fun _ _ _ _=>i6 (aO cB (pv 0) (pv 1) (aS _))) (fun _ _ _ _=>pv 0))
   (aq (aD (i:=7) fZ.nd rfl (Or.inl rfl) (be ae))
   (aq (rL PassesOwn.never (aO (fc hr) (pv 6) (be ae) (aS _))
    (aq (aD (i:=8) fZ.nd rfl (Or.inl rfl) (bI PySem.F.plainAttrs_list PySem.F.slot_list_pop PySem.F.type_list_pop rN (pv 6) (aa (aC Ft hr1 (aa (pv 0) (aa (aA bo rfl B.len PySem.boot_len (aa (pv 6) ae)) ae))) ae)))
    (aq (da (bI PySem.F.plainAttrs_list PySem.F.slot_list_append PySem.F.type_list_append dG (pv 3) (aa (bR (aa (aC Fm hr (aa (pv 0) (aa (pv 4) ae)))
      (aa (aG aP (pv 5) (aC Ft hr1 (aa (pv 0) (aa (aA bo rfl B.len PySem.boot_len (aa (pv 5) ae)) ae))) (fun _ _=>rfl)) (aa (pv 8) ae)))) ae)))
    (aq (da (bI PySem.F.plainAttrs_list PySem.F.slot_list_append PySem.F.type_list_append dG (pv 7) (aa (aG aP (aG aP (pv 3) (fW fP ak) (fun _ _=>rfl)) ak (fun _ _=>rfl)) ae)))
    (aw (da (bI PySem.F.plainAttrs_list PySem.F.slot_list_append PySem.F.type_list_append dG (pv 5) (aa (pv 8) ae))))))))
   (aw (aM (bT dX rfl B.tuple cM (aa (aA jW rfl B.sorted eS (aa (pv 7) ae)) ae))))))),?_⟩
  refine⟨_,rfl,by show 1<=sizeLine;decide,fun d hd=>?_⟩
  have ndp:d≠p:=fun z=>by obtain⟨o,e⟩:=hp.some;rw [<- z,hd] at e;cases e
  have ndr:d≠rw:=(au R.rl hd).symm
  have ndt:d≠tk:=(au R.tl hd).symm
  have p1:Pot (upd H d (.lst [.str root])) p:=hp.keep fun o e=>by rw [ai ndp.symm];exact e
  have R1:br (upd H d (.lst [.str root])) rw tk rs:=R.new hd
  have K1:Kp [p,rw,tk] H (upd H d (.lst [.str root])):=(Kp.refl _ _).new hd
  have d1:upd H d (.lst [.str root]) d=some (.lst ([root].map V.str)):=ah
  have pl1:upd H d (.lst [.str root]) pl=some (.lst (ps.map V.str)):=by rw [ai (au hpl hd)];exact hpl
  generalize upd H d (.lst [.str root])=H1 at p1 R1 K1 d1 pl1 ⊢
  refine⟨_,rfl,pl,rfl,⟨_,SqL.of pl1⟩,gq (xs:=ps.map V.str) (fits (by simp;omega)) (fun i ys σ H2=>ys=((ps.take i).filter fun y=>!decide (y=root)).map V.str/\H2=H1/\∃v,σ=[v,some (.str root)]) ⟨rfl,rfl,_,rfl⟩
   (fun i ys σ H2 _ q=>⟨by rw [q.1,List.length_map];exact Nat.le_trans (List.length_filter_le _ _) (by simp;omega),by rw [q.2.1];exact SqL.of pl1⟩) ?_ ?_⟩
  ·rintro i y ys σ H2 hy ⟨rfl,rfl,v,rfl⟩
   rw [List.getElem?_map] at hy
   cases hc:ps[i]? with
   | none=>rw [hc] at hy;cases hy
   | some z =>
    rw [hc] at hy
    cases hy
    have tf:=iy (fun z:Str=>!decide (z=root)) ps i z hc
    refine⟨_,rfl,_,rfl,rfl,_,rfl,?_⟩
    have e:(!decide (V.str z=V.str root))=!decide (z=root):=by simp
    rw [e]
    refine di (fun c=>⟨_,rfl,?_,rfl,_,rfl⟩) (fun c=>⟨?_,rfl,_,rfl⟩)
    ·rw [tf,c];simp
    ·rw [tf];simp only [Bool.not_eq_true] at c;rw [c];simp
  rintro ys σ H2 ⟨rfl,rfl,v,rfl⟩ l hl
  rw [take_all ps (by simp)]
  have nlp:l≠p:=fun z=>by obtain⟨o,e⟩:=p1.some;rw [<- z,hl] at e;cases e
  have nlr:l≠rw:=(au R1.rl hl).symm
  have nlt':l≠tk:=(au R1.tl hl).symm
  have nld:l≠d:=(au d1 hl).symm
  have hl0:H l=none:=K1.free (fun b hb=>by
   rcases List.mem_cons.mp hb with rfl | hb
   ·exact p1.some
   rcases List.mem_cons.mp hb with rfl | hb
   ·exact⟨_,R1.rl⟩
   ·have e:b=tk:=by simpa using hb
    subst e;exact⟨_,R1.tl⟩) hl
  have hf1:=px pnd hroot
  have hfm:∀x∈ps.filter (fun y=>!decide (y=root)),x∈ps/\x∉[root]:=fun x hx=>by
   obtain⟨a,b⟩:=List.mem_filter.mp hx
   exact⟨a,by simpa using b⟩
  have hfn:(ps.filter fun y=>!decide (y=root)).Nodup:=pnd.filter _
  generalize ps.filter (fun y=>!decide (y=root))=ls0 at hf1 hfm hfn ⊢
  have p2:Pot (upd H2 l (.lst (ls0.map V.str))) p:=p1.keep fun o e=>by rw [ai nlp.symm];exact e
  have R2:=R1.new (o:=.lst (ls0.map V.str)) hl
  have K2:=K1.new (o:=.lst (ls0.map V.str)) hl
  have d2:upd H2 l (.lst (ls0.map V.str)) d=some (.lst ([root].map V.str)):=by rw [ai nld.symm];exact d1
  have l2:upd H2 l (.lst (ls0.map V.str)) l=some (.lst (ls0.map V.str)):=ah
  generalize upd H2 l (.lst (ls0.map V.str))=H3 at p2 R2 K2 d2 l2 ⊢
  refine⟨Nat.zero_le _,fun tr htr=>?_⟩
  have nrp':tr≠p:=fun z=>by obtain⟨o,e⟩:=p2.some;rw [<- z,htr] at e;cases e
  have nrr:tr≠rw:=(au R2.rl htr).symm
  have nrt':tr≠tk:=(au R2.tl htr).symm
  have nrd:tr≠d:=(au d2 htr).symm
  have nrl:tr≠l:=(au l2 htr).symm
  have htr0:H tr=none:=K2.free (fun b hb=>by
   rcases List.mem_cons.mp hb with rfl | hb
   ·exact p2.some
   rcases List.mem_cons.mp hb with rfl | hb
   ·exact⟨_,R2.rl⟩
   ·have e:b=tk:=by simpa using hb
    subst e;exact⟨_,R2.tl⟩) htr
  have S0:GS H (upd H3 tr (.lst [])) p rw tk d l tr ps [root] ls0 [] rs [] :=
   ⟨p2.keep fun o e=>by rw [ai nrp'.symm];exact e,by rw [ai nrd.symm];exact d2,by rw [ai nrl.symm];exact l2,ah,by rw [List.append_nil];exact R2.new htr,by rw [List.append_nil];exact G,K2.new htr⟩
  have G0:GP ps [root] ls0 [] []:=⟨fun x hx=>by
   have e:x=root:=by simpa using hx
   subst e;exact hroot,hfm,hfn,by simp;omega,rfl,rfl⟩
  refine⟨fun m σ H4=>∃ds ls ts more g,σ=[some (.ref p),some (.ref pl),some (.str root),some (.ref rw),some (.ref tk),some (.ref d),some (.ref l),some (.ref tr),g]/\ls.length=m/\GS H H4 p rw tk d l tr ps ds ls ts rs more/\GP ps ds ls ts more,⟨_,[root],ls0,[],[],none,rfl,rfl,S0,G0⟩,?_⟩
  rintro m σ H4 ⟨ds,ls,ts,more,g,rfl,rfl,S,C⟩
  refine⟨_,rfl,Nat.zero_le _,fun e he=>?_⟩
  have S1:=S.new (o:=.lst []) he
  have e1:upd H4 e (.lst []) e=some (.lst []):=ah
  generalize upd H4 e (.lst [])=H5 at S1 e1 ⊢
  have lnm:∀x∈ls,aB x:=fun x hx=>pnm x (C.l1 x hx).1
  refine⟨.list (ls.map PyData.str),.list [],.lst S1.ll (DVs.strs ls),.lst e1 .nil,(cY lnm).1,(cY (ss:=[]) (by simp)).1,_,rfl,?_⟩
  have ev:PyData.eqv (.list (ls.map PyData.str)) (.list [])=decide (ls=[]):=ft ls []
  rw [ev]
  refine di (fun c=>?_) (fun c=>?_)
  ·
   have hne:ls≠[]:=by simpa using c
   have hlp:0 < ls.length:=by cases ls with | nil=>exact absurd rfl hne | cons _ _=>simp
   have hl8:ls.length<=8:=by have:=C.n1;omega
   refine⟨fun σ' H'=>∃m',m' < ls.length/\∃ds ls ts more g,σ'=[some (.ref p),some (.ref pl),some (.str root),some (.ref rw),some (.ref tk),some (.ref d),some (.ref l),some (.ref tr),g]/\ls.length=m'/\GS H H' p rw tk d l tr ps ds ls ts rs more/\GP ps ds ls ts more,fun σ' H' q=>q,?_⟩
   refine⟨_,rfl,.inl ⟨rfl,_,SqL.of S1.ll⟩,_,rfl,_,rfl,l,_,rfl,.inl (SqL.of S1.ll),p,_,rfl,S1.pot,by rw [List.length_map];omega,by rw [List.length_map];omega,fun i H6 i0 i1 P6 e6=>?_⟩
   rw [List.length_map] at i1
   have S2:=S1.pots nrp ntp ndp nlp nrp' P6 e6
   have hil:i.toNat < ls.length:=by omega
   refine⟨l,ls.map V.str,i,i.toNat,.str ls[i.toNat],rfl,rfl,S2.ll,by omega,by omega,seqIndex_of i0 (by rw [List.length_map];omega),strAt hil,?_⟩
   have hzm:ls[i.toNat]∈ls:=List.getElem_mem hil
   have hze:=C.l1 _ hzm
   have herl:(ls.eraseIdx i.toNat).length + 1=ls.length:=by rw [List.length_eraseIdx,if_pos hil];omega
   have hsub:∀x∈ls.eraseIdx i.toNat,x∈ls:=fun x hx=>List.mem_of_mem_eraseIdx hx
   have hnz:ls[i.toNat]∉ls.eraseIdx i.toNat:=jX hil C.ln
   have hnd':(ls.eraseIdx i.toNat).Nodup:=C.ln.sublist (List.eraseIdx_sublist _ _)
   have em:(ls.map V.str).eraseIdx i.toNat=(ls.eraseIdx i.toNat).map V.str:=ko _ _ _
   rw [em]
   generalize ls[i.toNat]=z at hzm hze hnz ⊢
   generalize ls.eraseIdx i.toNat=ls' at herl hsub hnz hnd' ⊢
   have S3:GS H (upd H6 l (.lst (ls'.map V.str))) p rw tk d l tr ps ds ls' ts rs more :=
    ⟨S2.pot.keep fun o q=>by rw [ai nlp.symm];exact q,by rw [ai nld.symm];exact S2.dd,ah,by rw [ai nrl];exact S2.tt,S2.ra.off nlr.symm nlt'.symm S2.ll,S2.gr,fun b o q nb=>by rw [ai (au q hl0)];exact S2.kp b o q nb⟩
   generalize upd H6 l (.lst (ls'.map V.str))=H7 at S3 ⊢
   have hrl:(rs++more).length<=400:=by rw [List.length_append];have:=C.n1;omega
   refine⟨_,rfl,.inl ⟨rfl,_,SqL.of S3.ra.rl⟩,_,rfl,_,rfl,p,tk,nms (rs++more),rfl,S3.pot,S3.ra.tl,by rw [nms,List.length_map];omega,fun x H8 hx hxn P8 t8 K8=>?_⟩
   have d8:H8 d=some (.lst (ds.map V.str)):=K8 _ _ S3.dd (by simp [ndp,ndt])
   have l8:H8 l=some (.lst (ls'.map V.str)):=K8 _ _ S3.ll (by simp [nlp,nlt'])
   have r8:H8 tr=some (.lst (ts.map V.str)):=K8 _ _ S3.tt (by simp [nrp',nrt'])
   have hdl:=C.n2
   refine⟨_,rfl,_,rfl,_,rfl,d,_,rfl,.inl (SqL.of d8),p,_,rfl,P8,by rw [List.length_map];omega,by rw [List.length_map];have:=C.n1;omega,fun j H9 j0 j1 P9 e9=>?_⟩
   rw [List.length_map] at j1
   have hjl:j.toNat < ds.length:=by omega
   have d9:H9 d=some (.lst (ds.map V.str)):=by rw [e9 d ndp];exact d8
   have l9:H9 l=some (.lst (ls'.map V.str)):=by rw [e9 l nlp];exact l8
   have r9:H9 tr=some (.lst (ts.map V.str)):=by rw [e9 tr nrp'];exact r8
   have t9:H9 tk=some (.lst ((nms (rs++more)++[x]).map V.str)):=by rw [e9 tk ntp];exact t8
   have K9:Kp [p,tk] H7 H9:=K8.trans fun b o q nb=>by rw [e9 b (by simp at nb;exact nb.1)];exact q
   refine aK (j:=j.toNat) (.inl (SqL.of d9)) (by omega) (strAt hjl) ⟨_,rfl,by show 3<=sizeLine;decide,fun n hn=>?_⟩
   have ham:ds[j.toNat]∈ds:=List.getElem_mem hjl
   generalize ds[j.toNat]=a at ham ⊢
   have R10:=S3.ra.add (a:=a) (b:=z) S3.pot nrp nrt K9 t9 hn
   have G10:=S3.gr.add (n:=n) (a:=a) (b:=z) hx hxn (C.d1 a ham) hze.1 (fun q=>hze.2 (q ▸ ham))
   have w9:H9 rw=some (.lst (bg (rs++more))):=K9 _ _ S3.ra.rl (by simp [nrp,nrt])
   have nnr:rw≠n:=au w9 hn
   have p9n:p≠n:=fun q=>by obtain⟨o,e⟩:=P9.some;rw [q,hn] at e;cases e
   refine⟨rw,bg (rs++more),.ref n,rfl,rfl,by rw [ai nnr];exact w9,fits (by rw [List.length_map];omega),?_⟩
   have P10:Pot (upd (upd H9 n (.tup [.str x,.str a,.str z])) rw (.lst (bg (rs++more)++[.ref n]))) p:=P9.keep fun o q=>by rw [ai nrp.symm,ai p9n];exact q
   have d10:upd (upd H9 n (.tup [.str x,.str a,.str z])) rw (.lst (bg (rs++more)++[.ref n])) d=some (.lst (ds.map V.str)):=by rw [ai ndr,ai (au d9 hn)];exact d9
   have l10:upd (upd H9 n (.tup [.str x,.str a,.str z])) rw (.lst (bg (rs++more)++[.ref n])) l=some (.lst (ls'.map V.str)):=by rw [ai nlr,ai (au l9 hn)];exact l9
   have r10:upd (upd H9 n (.tup [.str x,.str a,.str z])) rw (.lst (bg (rs++more)++[.ref n])) tr=some (.lst (ts.map V.str)):=by rw [ai nrr,ai (au r9 hn)];exact r9
   have K10:Kp [p,rw,tk] H (upd (upd H9 n (.tup [.str x,.str a,.str z])) rw (.lst (bg (rs++more)++[.ref n]))):=((S3.kp.trans (K9.mono fun b hb=>by simp at hb ⊢;rcases hb with q | q <;> simp [q])).new hn).inn (by simp)
   generalize upd (upd H9 n (.tup [.str x,.str a,.str z])) rw (.lst (bg (rs++more)++[.ref n]))=H10 at R10 P10 d10 l10 r10 K10 ⊢
   have row10:H10 n=some (.tup [.str x,.str a,.str z]):=R10.rows (n,(x,a,z)) (by simp)
   have rl10:H10 rw=some (.lst (bg (rs++more)++[.ref n])):=by rw [R10.rl];simp [bg]
   refine⟨_,rfl,.inl ⟨rfl,_,SqL.of r10⟩,_,rfl,1,rfl,.inl ⟨rw,_,_,.ref n,rfl,rfl,SqL.of rl10,i4 _ _,aK (j:=0) (.inr (SqT.of row10)) rfl rfl ⟨tr,ts.map V.str,.str x,rfl,rfl,r10,fits (by have h3:ts.length=more.length:=(by rw [C.n3];simp);have:=C.n1;simp;omega),?_⟩⟩⟩
   have R11:=R10.off (o:=.lst (ts.map V.str++[.str x])) nrr.symm nrt'.symm r10
   have P11:Pot (upd H10 tr (.lst (ts.map V.str++[.str x]))) p:=P10.keep fun o q=>by rw [ai nrp'.symm];exact q
   have d11:upd H10 tr (.lst (ts.map V.str++[.str x])) d=some (.lst (ds.map V.str)):=by rw [ai nrd.symm];exact d10
   have l11:upd H10 tr (.lst (ts.map V.str++[.str x])) l=some (.lst (ls'.map V.str)):=by rw [ai nrl.symm];exact l10
   have r11:upd H10 tr (.lst (ts.map V.str++[.str x])) tr=some (.lst ((ts++[x]).map V.str)):=by rw [ah,List.map_append];rfl
   have K11:Kp [p,rw,tk] H (upd H10 tr (.lst (ts.map V.str++[.str x]))):=fun b o q nb=>by rw [ai (au q htr0)];exact K10 b o q nb
   generalize upd H10 tr (.lst (ts.map V.str++[.str x]))=H11 at R11 P11 d11 l11 r11 K11 ⊢
   refine⟨_,rfl,.inl ⟨rfl,_,SqL.of d11⟩,_,rfl,d,ds.map V.str,.str z,rfl,rfl,d11,fits (by have:=C.n2;have:=C.n1;simp;omega),?_⟩
   refine⟨ls'.length,by omega,ds++[z],ls',ts++[x],more++[(n,(x,a,z))],_,rfl,rfl,⟨?_,?_,?_,?_,?_,?_,?_⟩,⟨?_,?_,?_,?_,?_,?_⟩⟩
   ·exact P11.keep fun o q=>by rw [ai ndp.symm];exact q
   ·rw [ah,List.map_append];rfl
   ·rw [ai nld];exact l11
   ·rw [ai nrd];exact r11
   ·have:=R11.off (o:=.lst (ds.map V.str++[.str z])) ndr.symm ndt.symm d11
    rw [List.append_assoc] at this
    exact this
   ·rw [List.append_assoc] at G10;exact G10
   ·exact fun b o q nb=>by rw [ai (au q hd)];exact K11 b o q nb
   ·intro y hy
    rcases List.mem_append.mp hy with q | q
    ·exact C.d1 y q
    ·have e:y=z:=by simpa using q
     subst e;exact hze.1
   ·intro y hy
    have q:=C.l1 y (hsub y hy)
    refine⟨q.1,fun hm=>?_⟩
    rcases List.mem_append.mp hm with w' | w'
    ·exact q.2 w'
    ·have e:y=z:=by simpa using w'
     subst e;exact hnz hy
   ·exact hnd'
   ·have:=C.n1;simp;omega
   ·have:=C.n2;simp;omega
   ·rw [C.n3];simp [nms]
  ·
   have h3:ts.length=more.length:=by rw [C.n3];simp
   have hnd:(nms more).Nodup:=by
    have:=S1.gr.nd
    unfold nms at this
    rw [List.map_append] at this
    exact (List.nodup_append.mp this).2.1
   have hnm:∀x∈ts,aB x:=fun x hx=>by
    rw [C.n3] at hx
    obtain⟨r,hr',rfl⟩:=List.mem_map.mp hx
    exact (S1.gr.ok r (List.mem_append_right _ hr')).1
   refine⟨_,rfl,tr,ts,rfl,SqL.of S1.tt,by have:=C.n1;omega,fun ss' q hpm hso hq=>?_⟩
   have S2:=S1.new (o:=.lst (ss'.map V.str)) hq
   refine⟨q,_,rfl,.inl ⟨SqL.of ah,fun u hu=>?_⟩⟩
   have S3:=S2.new (o:=.tup (ss'.map V.str)) hu
   exact k u ss' more _ S3.pot S3.ra S3.gr (by have:=C.n1;omega) S3.kp ah (fun x hx=>hnm x (hpm.mem_iff.mp hx)) (iP hso (hpm.nodup_iff.mpr (by rw [C.n3];exact hnd))) (by rw [hpm.length_eq];have:=C.n1;omega)
end
theorem ud {a r n:Int} (h1:0<=a) (h2:a < n) (h3:0<=r) (h4:r < n - 1):(a + 1 + r) % n≠a/\0<=(a + 1 + r) % n/\(a + 1 + r) % n < n:=by
 refine⟨fun e=>?_,Int.emod_nonneg _ (by omega),Int.emod_lt_of_pos _ (by omega)⟩
 have q:=Int.mul_ediv_add_emod (a + 1 + r) n
 rw [e] at q
 generalize (a + 1 + r) / n=k at q
 have hk:k<=0\/1<=k:=by omega
 rcases hk with hk | hk
 ·have:=Int.mul_nonpos_of_nonneg_of_nonpos (show 0<=n by omega) hk
  omega
 ·have:=Int.mul_le_mul_of_nonneg_left hk (show 0<=n by omega)
  omega
section
variable {P:Program}{w:World}{K:PySem.W.Frag}{mg:Str->Option Value}{base:Heap}
noncomputable def mM:Sp:=fun vs H Q _=>∃(p pl rw tk:Addr) (many:Int) (ps:List Str) (rs:List (Addr×Row)),vs=[.ref p,.ref pl,.ref rw,.ref tk,.int many]/\Pot H p/\H pl=some (.lst (ps.map V.str))/\ps.Nodup/\ps.length<=5 /\
 br H rw tk rs/\GR ps rs/\rs.length<=300/\0<=many/\many<=100/\rw≠p/\tk≠p/\rw≠tk/\pl≠rw/\pl≠tk /\
 ∀(more:List (Addr×Row)) (H':Hp),Pot H' p->br H' rw tk (rs++more)->GR ps (rs++more)->(more.length:Int)<=many->Kp [p,rw,tk] H H'->Q .non H'
noncomputable abbrev N32:List Str:=["_law_pot_here","_law_places_here","_law_rows_here","_law_taken","_law_many","_law_k","_law_a","_law_b"]
theorem ia:aR N32 ["_law_pot_here","_law_places_here","_law_rows_here","_law_taken","_law_many"] (aI (top 32)):=⟨rfl,rfl,rfl,by decide +kernel,rfl,by decide +kernel,by decide +kernel⟩
theorem sX {f:Addr}{fd:FuncData} (F:Fun K "_law_more" "_law_more" (top 32) f fd) (B:Bl mg) (Ft:Fn P w K mg base 1 "_law_take" ["_law_pot_here","_law_many"] de) (Fm:Fn P w K mg base 2 "_law_name" ["_law_pot_here","_law_taken"] hZ) :
  aH P w K mg base CX0 3 f fd ["_law_pot_here","_law_places_here","_law_rows_here","_law_taken","_law_many"] mM:=by
 refine F.ok ia (fun vs H Q E h=>?_) (fun cdv A outer s H vs Q E hr h=>?_)
 ·obtain⟨p,pl,rw,tk,many,ps,rs,rfl,_⟩:=h
  rfl
 ·obtain⟨p,pl,rw,tk,many,ps,rs,rfl,hp,hpl,pnd,p8,R,G,hz,m0,m1,nrp,ntp,nrt,nlr,nlt',k⟩:=h
  have hr1:aN 1 _:=hr.mono (by decide)
  have nlp:pl≠p:=cN hp hpl
  refine⟨_,aw (cO PassesOwn.never rfl (dF rfl B.range (aa (ay fT (pv 4) (bT qH rfl B.int u6 (aa (eV nD (aA bo rfl B.len PySem.boot_len (aa (pv 1) ae)) ak (aS _)) ae))) ae)) (bw (i:=5) ia.nd rfl (Or.inl rfl))
   (aq (aD (i:=6) ia.nd rfl (Or.inl rfl) (aC Ft hr1 (aa (pv 0) (aa (aA bo rfl B.len PySem.boot_len (aa (pv 1) ae)) ae))))
   (aq (aD (i:=7) ia.nd rfl (Or.inl rfl) (ay dN (ay bL (ay bL (pv 6) ak) (aC Ft hr1 (aa (pv 0) (aa (ay fb (aA bo rfl B.len PySem.boot_len (aa (pv 1) ae)) ak) ae)))) (aA bo rfl B.len PySem.boot_len (aa (pv 1) ae))))
   (aw (da (bI PySem.F.plainAttrs_list PySem.F.slot_list_append PySem.F.type_list_append dG (pv 2) (aa (bR (aa (aC Fm hr (aa (pv 0) (aa (pv 3) ae)))
    (aa (aG aP (pv 1) (pv 6) (fun _ _=>rfl)) (aa (aG aP (pv 1) (pv 7) (fun _ _=>rfl)) ae)))) ae))))))),?_⟩
  have hlen:(ps.map V.str).length=ps.length:=by simp
  refine⟨_,rfl,_,rfl,pl,_,rfl,.inl (SqL.of hpl),_,_,rfl,rfl,.inr ⟨_,rfl,_,_,rfl,rfl,.inl ⟨by omega,by omega⟩,_,rfl,?_,?_,?_⟩⟩
  ·split <;> omega
  ·split <;> omega
  have hj:∀i:Nat,i < (many * (if decide ((1:Int) < ((ps.map V.str).length:Int))=true then 1 else 0)).toNat->1 < ps.length/\(i:Int) < many:=fun i hi=>by
   rw [hlen] at hi
   split at hi
   ·next c=>have c':=of_decide_eq_true c;omega
   ·simp at hi
  have hjm:(((many * (if decide ((1:Int) < ((ps.map V.str).length:Int))=true then 1 else 0)).toNat:Nat):Int)<=many:=by split <;> omega
  refine fv (fun i σ H1=>∃(more:List (Addr×Row)) (g1 g2 g3:Option V),σ=[some (.ref p),some (.ref pl),some (.ref rw),some (.ref tk),some (.int many),g1,g2,g3]/\Pot H1 p/\br H1 rw tk (rs++more)/\GR ps (rs++more)/\more.length=i/\Kp [p,rw,tk] H H1)
   ⟨[],none,none,none,rfl,hp,by rw [List.append_nil];exact R,by rw [List.append_nil];exact G,rfl,Kp.refl _ _⟩ ?_ ?_
  ·rintro i σ H1 hi ⟨more,g1,g2,g3,rfl,P1,R1,G1,hml,K1⟩
   obtain⟨hp1,him⟩:=hj i hi
   have l1:H1 pl=some (.lst (ps.map V.str)):=K1 _ _ hpl (by simp [nlp,nlr,nlt'])
   refine⟨_,rfl,_,rfl,pl,_,rfl,.inl (SqL.of l1),p,_,rfl,P1,by omega,by omega,fun a H2 a0 a1 P2 e2=>?_⟩
   have l2:H2 pl=some (.lst (ps.map V.str)):=by rw [e2 pl nlp];exact l1
   refine⟨_,rfl,_,_,rfl,rfl,_,rfl,_,rfl,pl,_,rfl,.inl (SqL.of l2),_,_,rfl,rfl,p,_,rfl,P2,by omega,by omega,fun r H3 r0 r1 P3 e3=>?_⟩
   have l3:H3 pl=some (.lst (ps.map V.str)):=by rw [e3 pl nlp];exact l2
   refine⟨_,_,rfl,rfl,_,rfl,pl,_,rfl,.inl (SqL.of l3),_,_,rfl,rfl,by show (0:Int) < _;omega,?_⟩
   rw [hlen] at a1 r1 ⊢
   obtain⟨b1,b2,b3⟩:=ud a0 a1 r0 r1
   obtain⟨b,hbe⟩:∃b,b=(a + 1 + r) % (ps.length:Int):=⟨_,rfl⟩
   rw [<- hbe] at b1 b2 b3
   have e13:∀c,c≠p->H3 c=H1 c:=fun c hc=>(e3 c hc).trans (e2 c hc)
   have R3:br H3 rw tk (rs++more):=R1.kp (P:=[p]) (fun c o e nc=>by rw [e13 c (by simpa using nc)];exact e) (fun c hc=>by
    have e:c=p:=by simpa using hc
    subst e;exact P1.lst) (by simpa using nrp) (by simpa using ntp)
   have hrl:(rs++more).length<=400:=by rw [List.length_append];omega
   refine⟨_,rfl,.inl ⟨rfl,_,SqL.of R3.rl⟩,_,rfl,_,rfl,p,tk,nms (rs++more),rfl,P3,R3.tl,by rw [nms,List.length_map];omega,fun x H4 hx hxn P4 t4 K4=>?_⟩
   have l4:H4 pl=some (.lst (ps.map V.str)):=K4 _ _ l3 (by simp [nlp,nlt'])
   have ha:a.toNat < ps.length:=by omega
   have hb:b.toNat < ps.length:=by omega
   refine⟨_,rfl,_,rfl,aK (j:=a.toNat) (.inl (SqL.of l4)) (by omega) (strAt ha) ⟨_,rfl,_,rfl,aK (j:=b.toNat) (.inl (SqL.of l4)) (by omega) (strAt hb) ⟨by show 3<=sizeLine;decide,fun n hn=>?_⟩⟩⟩
   have hab:ps[a.toNat]≠ps[b.toNat]:=by
    have hne:a.toNat≠b.toNat:=by omega
    rcases Nat.lt_or_gt_of_ne hne with y | y
    ·exact List.pairwise_iff_getElem.mp pnd _ _ ha hb y
    ·exact fun z=>List.pairwise_iff_getElem.mp pnd _ _ hb ha y z.symm
   have w4:H4 rw=some (.lst (bg (rs++more))):=K4 _ _ R3.rl (by simp [nrp,nrt])
   have nnr:rw≠n:=au w4 hn
   have p4n:p≠n:=fun q=>by obtain⟨o,e⟩:=P4.some;rw [q,hn] at e;cases e
   have R5:=R3.add (a:=ps[a.toNat]) (b:=ps[b.toNat]) P3 nrp nrt K4 t4 hn
   have G5:=G1.add (n:=n) hx hxn (List.getElem_mem ha) (List.getElem_mem hb) hab
   refine⟨rw,bg (rs++more),.ref n,rfl,rfl,by rw [ai nnr];exact w4,fits (by rw [List.length_map];omega),more++[(n,(x,ps[a.toNat],ps[b.toNat]))],_,_,_,rfl,P4.keep fun o q=>by rw [ai nrp.symm,ai p4n];exact q,?_,?_,by simp [hml],?_⟩
   ·rw [List.append_assoc] at R5;exact R5
   ·rw [List.append_assoc] at G5;exact G5
   ·have K3:Kp [p,rw,tk] H H3:=K1.trans fun c o e nc=>by rw [e13 c (by simp at nc;exact nc.1)];exact e
    exact ((K3.trans (K4.mono fun b hb=>by simp at hb ⊢;rcases hb with q | q <;> simp [q])).new hn).inn (by simp)
  ·rintro σ H1 ⟨more,g1,g2,g3,rfl,P1,R1,G1,hml,K1⟩
   exact k more H1 P1 R1 G1 (by omega) K1
end
noncomputable abbrev aj (tss:List (Addr×List Str)):List V:=tss.map fun x=>V.ref x.1
noncomputable def aU (H:Hp) (tss:List (Addr×List Str)):Prop:=∀x∈tss,H x.1=some (.tup (x.2.map V.str))
structure iw (ts:List Str):Prop where
 nm:∀y∈ts,aB y
 so:ts.Pairwise nlt
 z:ts.length<=5
noncomputable def fV (tss:List (Addr×List Str)):Prop:=∀x∈tss,iw x.2
theorem aU.kp {H H':Hp}{tss:List (Addr×List Str)}{P:List Addr} (R:aU H tss) (k:Kp P H H') (hP:∀c∈P,∃ys,H c=some (.lst ys)):aU H' tss :=
 fun r hr=>jj k hP (R r hr)
theorem aU.new {H:Hp}{q:Addr}{o:HO}{tss:List (Addr×List Str)} (R:aU H tss) (hq:H q=none):aU (upd H q o) tss :=
 R.kp (P:=[]) (Kp.new (Kp.refl _ _) hq) (by simp)
theorem aU.same {H H':Hp}{tss:List (Addr×List Str)} (R:aU H tss) (s:ag H H'):aU H' tss:=fun r hr=>s _ _ (R r hr)
section
variable {P:Program}{w:World}{K:PySem.W.Frag}{mg:Str->Option Value}{base:Heap}
noncomputable def mX:Sp:=fun vs H Q _=>∃(p:Addr),vs=[.ref p,.int 5,.int 16]/\Pot H p /\
 ∀(v u tl pa ra:Addr) (root:Str) (ps:List Str) (rs:List (Addr×Row)) (H':Hp),Pot H' p->H' v=some (.tup [.ref u,.str root,.ref tl])->nB H' u pa ra ps rs->Good ps (rs.map (·.2))->ps.length<=5->rs.length<=40->Kp [p] H H'->∀tss,H' tl=some (.lst (aj tss))->aU H' tss->fV tss->tss.length<=3->Q (.ref v) H'
noncomputable abbrev N34:List Str:=["_law_pot_here","_law_most_places","_law_most_more","_law_places_here","_law_root","_law_rows_here","_law_taken","_law_trees","_law_many"]
theorem dU:aR N34 ["_law_pot_here","_law_most_places","_law_most_more"] (aI (top 34)):=⟨rfl,rfl,rfl,by decide +kernel,rfl,by decide +kernel,by decide +kernel⟩
theorem tU {f:Addr}{fd:FuncData} (F:Fun K "_law_web" "_law_web" (top 34) f fd) (B:Bl mg) (Ft:Fn P w K mg base 1 "_law_take" ["_law_pot_here","_law_many"] de) (Fp:Fn P w K mg base 3 "_law_places" ["_law_pot_here","_law_most"] lx)
  (Fg:Fn P w K mg base 3 "_law_grown" ["_law_pot_here","_law_places_here","_law_root","_law_rows_here","_law_taken"] mB) (Fm:Fn P w K mg base 3 "_law_more" ["_law_pot_here","_law_places_here","_law_rows_here","_law_taken","_law_many"] mM) :
  aH P w K mg base CX0 4 f fd ["_law_pot_here","_law_most_places","_law_most_more"] mX:=by
 refine F.ok dU (fun vs H Q E h=>?_) (fun cdv A outer s H vs Q E hr h=>?_)
 ·obtain⟨p,rfl,_⟩:=h
  rfl
 ·obtain⟨p,rfl,hp,k⟩:=h
  have hr1:aN 1 _:=hr.mono (by decide)
  refine⟨_,aq (aD (i:=3) dU.nd rfl (Or.inr rfl) (aC Fp hr (aa (pv 0) (aa (pv 1) ae))))
   (aq (aD (i:=4) dU.nd rfl (Or.inr rfl) (aG aP (pv 3) (aC Ft hr1 (aa (pv 0) (aa (aA bo rfl B.len PySem.boot_len (aa (pv 3) ae)) ae))) (fun _ _=>rfl)))
   (aq (eA (bR (aa (be ae) (aa (be ae) ae))) (fQ rfl (n:=2) (cm (bw (i:=5) dU.nd rfl (Or.inr rfl)) (cm (bw (i:=6) dU.nd rfl (Or.inr rfl)) fG))))
   (aq (fA (i:=7) (N:=["_law_k","_law_places_here","_law_pot_here","_law_root","_law_rows_here","_law_taken"]) (ix:=[none,some 3,some 0,some 4,some 5,some 6]) dU.nd rfl (Or.inl rfl) ⟨rfl,rfl,rfl,by decide⟩ rfl
    (dF rfl B.range (aa (aC Ft hr1 (aa (pv 0) (aa ak ae))) ae)) (fun _ _ _ _=>bJ 0 (by decide) rfl rfl) (fun _ _ _ _=>bP) (fun _ _ _ _=>aC Fg hr (aa (pv 2) (aa (pv 1) (aa (pv 3) (aa (pv 4) (aa (pv 5) ae)))))))
   (aq (aD (i:=8) dU.nd rfl (Or.inl rfl) (aC Ft hr1 (aa (pv 0) (aa (ay bL (pv 2) ak) ae))))
   (aq (bh (aO dS (aC Ft hr1 (aa (pv 0) (aa ak ae))) ak (aS _)) (aw (aD (i:=8) dU.nd rfl (Or.inl rfl) (ay fb ak (aA bo rfl B.len PySem.boot_len (aa (pv 5) ae))))) bp)
   (aq (da (aC Fm hr (aa (pv 0) (aa (pv 3) (aa (pv 5) (aa (pv 6) (aa (pv 8) ae)))))))
   (aw (aM (bR (aa (bR (aa (bT dX rfl B.tuple cM (aa (pv 3) ae)) (aa (bT dX rfl B.tuple cM (aa (aA oO rfl B.sorted eS (aa (pv 5) ae)) ae)) ae))) (aa (pv 4) (aa (pv 7) ae)))))))))))),?_⟩
  refine⟨_,rfl,_,rfl,p,5,rfl,hp,by decide,by decide,fun pl ps H1 P1 l1 hlH pnm pso p1 p8 K1=>?_⟩
  have nlp:pl≠p:=cN P1 l1
  have pnd:=qT pso
  have hlen:(ps.map V.str).length=ps.length:=by simp
  refine⟨_,rfl,_,rfl,_,rfl,pl,_,rfl,.inl (SqL.of l1),p,_,rfl,P1,by omega,by omega,fun i H2 i0 i1 P2 e2=>?_⟩
  rw [hlen] at i1
  have l2:H2 pl=some (.lst (ps.map V.str)):=by rw [e2 pl nlp];exact l1
  have K2:Kp [p] H H2:=K1.trans fun b o e nb=>by rw [e2 b (by simpa using nb)];exact e
  have hil:i.toNat < ps.length:=by omega
  refine aK (j:=i.toNat) (.inl (SqL.of l2)) (by omega) (strAt hil) ?_
  have hroot:ps[i.toNat]∈ps:=List.getElem_mem hil
  generalize ps[i.toNat]=root at hroot ⊢
  refine⟨Nat.zero_le _,fun rw hrw=>?_⟩
  refine⟨Nat.zero_le _,fun tk htk=>?_⟩
  refine⟨by show 2<=sizeLine;decide,fun pr hpr=>?_⟩
  have nrp:rw≠p:=fun z=>by obtain⟨o,e⟩:=P2.some;rw [<- z,hrw] at e;cases e
  have nlr:pl≠rw:=au l2 hrw
  have nrt:rw≠tk:=fun z=>by rw [z,ah] at htk;cases htk
  have ntp:tk≠p:=fun z=>by obtain⟨o,e⟩:=P2.some;rw [z,ai nrp.symm,e] at htk;cases htk
  have nlt':pl≠tk:=fun z=>by rw [<- z,ai nlr,l2] at htk;cases htk
  have K3:Kp [p] H (upd (upd (upd H2 rw (.lst [])) tk (.lst [])) pr (.tup [.ref rw,.ref tk])):=((K2.new hrw).new htk).new hpr
  have e3:∀b o,H2 b=some o->upd (upd (upd H2 rw (.lst [])) tk (.lst [])) pr (.tup [.ref rw,.ref tk]) b=some o:=((Kp.refl [] H2).new hrw |>.new htk |>.new hpr) |> fun q b o e=>q b o e (by simp)
  have R3:br (upd (upd (upd H2 rw (.lst [])) tk (.lst [])) pr (.tup [.ref rw,.ref tk])) rw tk []:=by
   have hpr1:rw≠pr:=fun z=>by rw [<- z,ai nrt,ah] at hpr;cases hpr
   have hpr2:tk≠pr:=fun z=>by rw [<- z,ah] at hpr;cases hpr
   exact⟨by rw [ai hpr1,ai nrt,ah];rfl,by rw [ai hpr2,ah];rfl,by simp⟩
  have hpr3:upd (upd (upd H2 rw (.lst [])) tk (.lst [])) pr (.tup [.ref rw,.ref tk]) pr=some (.tup [.ref rw,.ref tk]):=ah
  have P3:=P2.keep (e3 p)
  have l3:=e3 _ _ l2
  have hrwH:H rw=none:=K2.free (fun b hb=>by
   have e:b=p:=by simpa using hb
   subst e;exact P2.some) hrw
  have htkH:H tk=none:=(K2.new (o:=.lst []) hrw).free (fun b hb=>by
   have e:b=p:=by simpa using hb
   subst e;rw [ai nrp.symm];exact P2.some) htk
  generalize upd (upd (upd H2 rw (.lst [])) tk (.lst [])) pr (.tup [.ref rw,.ref tk])=H3 at K3 R3 hpr3 P3 l3 ⊢
  have K3':Kp [p,rw,tk] H H3:=K3.mono (by simp)
  refine⟨pr,_,rfl,SqT.of hpr3,rfl,_,_,rfl,_,_,rfl,rfl,?_⟩
  refine⟨_,rfl,p,4,rfl,P3,by decide,by decide,fun c H4 c0 c1 P4 e4=>⟨_,rfl,by omega,by omega,?_⟩⟩
  have R4:br H4 rw tk []:=R3.kp (P:=[p]) (fun b o e nb=>by rw [e4 b (by simpa using nb)];exact e) (fun b hb=>by
   have e:b=p:=by simpa using hb
   subst e;exact P3.lst) (by simpa using nrp) (by simpa using ntp)
  have l4:H4 pl=some (.lst (ps.map V.str)):=by rw [e4 pl nlp];exact l3
  have K4:Kp [p,rw,tk] H H4:=K3'.trans fun b o e nb=>by rw [e4 b (by simp at nb;exact nb.1)];exact e
  refine eP (fits (by omega)) (fun i ys σ H5=>(∃tss,ys=aj tss/\aU H5 tss/\fV tss/\tss.length=i)/\(∃v,σ=[v,some (.ref pl),some (.ref p),some (.str root),some (.ref rw),some (.ref tk)])/\Pot H5 p/\H5 pl=some (.lst (ps.map V.str))/\Kp [p,rw,tk] H H5/\∃rs,br H5 rw tk rs/\GR ps rs/\rs.length<=7 * i)
   ⟨⟨[],rfl,by simp [aU],by simp [fV],rfl⟩,⟨_,rfl⟩,P4,l4,K4,[],R4,⟨List.nodup_nil,by simp⟩,by simp⟩ (fun i ys σ H5 _ q=>by obtain⟨⟨tss,rfl,_,_,hl⟩,_⟩:=q;simp [hl]) ?_ ?_
  ·rintro i ys σ H5 hi ⟨⟨tss,rfl,TA,TO,hyl⟩,⟨v,rfl⟩,P5,l5,K5,rs,R5,G5,z5⟩
   refine⟨_,rfl,_,rfl,_,rfl,_,rfl,_,rfl,p,pl,rw,tk,root,ps,rs,rfl,P5,l5,hroot,pnd,pnm,p8,R5,G5,by omega,nrp,ntp,nrt,fun q ts more H6 P6 R6 G6 m7 K6 q6 qn qs qz=>?_⟩
   have TA6:aU H6 tss:=TA.kp K6 fun b hb=>by
    rcases List.mem_cons.mp hb with rfl | hb
    ·exact P5.lst
    rcases List.mem_cons.mp hb with rfl | hb
    ·exact⟨_,R5.rl⟩
    ·have e:b=tk:=by simpa using hb
     subst e;exact⟨_,R5.tl⟩
   refine⟨⟨tss++[(q,ts)],by simp [aj],fun x hx=>?_,fun x hx=>?_,by simp [hyl]⟩,⟨_,rfl⟩,P6,K6 _ _ l5 (by simp [nlp,nlr,nlt']),K5.trans K6,rs++more,R6,G6,by rw [List.length_append];omega⟩
   ·rcases List.mem_append.mp hx with z | z
    ·exact TA6 x z
    ·have e:x=(q,ts):=by simpa using z
     subst e;exact q6
   ·rcases List.mem_append.mp hx with z | z
    ·exact TO x z
    ·have e:x=(q,ts):=by simpa using z
     subst e;exact⟨qn,qs,qz⟩
  rintro ys σ H5 ⟨⟨tss,rfl,TA,TO,hyl⟩,⟨v,rfl⟩,P5,l5,K5,rs,R5,G5,z5⟩ tl htl
  have z5':rs.length<=21:=by omega
  have ntlp:tl≠p:=fun z=>by obtain⟨o,e⟩:=P5.some;rw [<- z,htl] at e;cases e
  have P6:Pot (upd H5 tl (.lst (aj tss))) p:=P5.keep fun o e=>by rw [ai ntlp.symm];exact e
  have R6:=R5.new (o:=.lst (aj tss)) htl
  have K6:=K5.new (o:=.lst (aj tss)) htl
  have T6:aU (upd H5 tl (.lst (aj tss))) tss:=TA.new htl
  have t6:upd H5 tl (.lst (aj tss)) tl=some (.lst (aj tss)):=ah
  have ntlr:tl≠rw:=(au R5.rl htl).symm
  have ntlt:tl≠tk:=(au R5.tl htl).symm
  have l6:upd H5 tl (.lst (aj tss)) pl=some (.lst (ps.map V.str)):=by rw [ai (au l5 htl)];exact l5
  generalize upd H5 tl (.lst (aj tss))=H6 at P6 R6 K6 l6 T6 t6 ⊢
  refine⟨_,rfl,_,rfl,_,_,rfl,rfl,p,_,rfl,P6,by decide,by decide,fun mn H7 mn0 mn1 P7 e7=>?_⟩
  refine⟨_,rfl,p,8,rfl,P7,by decide,by decide,fun c8 H8 _ _ P8 e8=>⟨rfl,_,rfl,?_⟩⟩
  have e68:∀b,b≠p->H8 b=H6 b:=fun b hb=>(e8 b hb).trans (e7 b hb)
  have R8:br H8 rw tk rs:=R6.kp (P:=[p]) (fun b o e nb=>by rw [e68 b (by simpa using nb)];exact e) (fun b hb=>by
   have e:b=p:=by simpa using hb
   subst e;exact P6.lst) (by simpa using nrp) (by simpa using ntp)
  have l8:H8 pl=some (.lst (ps.map V.str)):=by rw [e68 pl nlp];exact l6
  have K8:Kp [p,rw,tk] H H8:=K6.trans fun b o e nb=>by rw [e68 b (by simp at nb;exact nb.1)];exact e
  have T8:aU H8 tss:=T6.kp (P:=[p]) (fun b o e nb=>by rw [e68 b (by simpa using nb)];exact e) (fun b hb=>by
   have e:b=p:=by simpa using hb
   subst e;exact P6.lst)
  have t8:H8 tl=some (.lst (aj tss)):=by rw [e68 tl ntlp];exact t6
  have hP8:∀b∈[p,rw,tk],∃ys,H8 b=some (.lst ys):=fun b hb=>by
   rcases List.mem_cons.mp hb with rfl | hb
   ·exact P8.lst
   rcases List.mem_cons.mp hb with rfl | hb
   ·exact⟨_,R8.rl⟩
   ·have e:b=tk:=by simpa using hb
    subst e;exact⟨_,R8.tl⟩
  have hz8:(bg rs).length=rs.length:=by simp
  have step:∀(mm:Int),0<=mm->mm + rs.length<=40->∀more:List (Addr×Row),(more.length:Int)<=mm->(rs++more).length<=40:=fun mm _ h2 more h3=>by rw [List.length_append];omega
  refine di (fun c=>?_) (fun c=>?_)
  ·refine⟨_,rfl,rw,_,rfl,.inl (SqL.of R8.rl),_,_,rfl,rfl,?_⟩
   refine⟨_,rfl,_,rfl,_,rfl,_,rfl,_,rfl,p,pl,rw,tk,_,ps,rs,rfl,P8,l8,pnd,p8,R8,G5,by omega,by omega,by omega,nrp,ntp,nrt,nlr,nlt',fun more H9 P9 R9 G9 z9 K9=>?_⟩
   have hz40:(rs++more).length<=40:=step _ (by omega) (by rw [hz8];omega) more z9
   clear z9
   have l9:H9 pl=some (.lst (ps.map V.str)):=K9 _ _ l8 (by simp [nlp,nlr,nlt'])
   have KH:Kp [p] H H9:=fun b o e nb=>(K8.trans K9) b o e (by
    simp at nb ⊢
    exact⟨nb,au e hrwH,au e htkH⟩)
   have T9:aU H9 tss:=T8.kp K9 hP8
   have t9:H9 tl=some (.lst (aj tss)):=K9 _ _ t8 (by simp [ntlp,ntlr,ntlt])
   generalize rs++more=ra9 at R9 G9 hz40
   refine⟨_,rfl,pl,_,rfl,.inl ⟨SqL.of l9,fun pa hpa=>?_⟩⟩
   have R10:=R9.new (o:=.tup (ps.map V.str)) hpa
   have K10:=KH.new (o:=.tup (ps.map V.str)) hpa
   have P10:Pot (upd H9 pa (.tup (ps.map V.str))) p:=P9.keep fun o e=>by rw [ai (au e hpa)];exact e
   have T10:aU (upd H9 pa (.tup (ps.map V.str))) tss:=T9.new hpa
   have t10:upd H9 pa (.tup (ps.map V.str)) tl=some (.lst (aj tss)):=by rw [ai (au t9 hpa)];exact t9
   have a10:upd H9 pa (.tup (ps.map V.str)) pa=some (.tup (ps.map V.str)):=ah
   generalize upd H9 pa (.tup (ps.map V.str))=H10 at R10 K10 P10 a10 T10 t10 ⊢
   refine⟨_,rfl,rw,ra9.map fun r=>(r.1,r.2.1),rfl,.inl (SqL.of (by rw [gz];exact R10.rl)),fun y hy=>?_,by rw [List.length_map];omega,?_,fun rs1 q hpm hpw hq=>?_⟩
   ·obtain⟨x,hx,rfl⟩:=List.mem_map.mp hy
    exact⟨_,R10.rows x hx⟩
   ·rw [List.map_map];exact G9.nd
   obtain⟨rs',hp2,e2'⟩:=iR (fun r:Addr×Row=>(r.1,r.2.1)) rs1 _ hpm
   subst e2'
   rw [gz]
   have s1:=ao (o:=.lst (bg rs')) (ag.refl H10) hq
   refine⟨q,_,rfl,.inl ⟨SqL.of ah,fun ra hra=>?_⟩⟩
   have s2:=ao (o:=.tup (bg rs')) s1 hra
   refine⟨by show 2<=sizeLine;decide,fun u hu=>?_⟩
   have s3:=ao (o:=.tup [.ref pa,.ref ra]) s2 hu
   refine⟨_,rfl,_,rfl,by show 3<=sizeLine;decide,fun v hv=>?_⟩
   have s4:=ao (o:=.tup [.ref u,.str root,.ref tl]) s3 hv
   have hur:ra≠u:=fun z=>by rw [<- z,ah] at hu;cases hu
   have hvu:u≠v:=fun z=>by rw [<- z,ah] at hv;cases hv
   have hvr:ra≠v:=fun z=>by rw [<- z,ai hur,ah] at hv;cases hv
   refine k v u tl pa ra root ps rs' _ (P10.keep fun o e=>s4 _ _ e) ah ⟨?_,s4 _ _ a10,?_,fun x hx=>s4 _ _ (R10.rows x (hp2.mem_iff.mp hx))⟩ ⟨?_,pnm,pso,fun r hr=>?_,?_,by omega,?_⟩ p8 (by rw [hp2.length_eq];exact hz40) (K10.of_same s4) tss (s4 _ _ t10) (T10.same s4) TO (by rw [hyl];omega)
   ·rw [ai hvu,ah]
   ·rw [ai hvr,ai hur,ah]
   ·intro z;rw [z] at p1;simp at p1
   ·obtain⟨x,hx,rfl⟩:=List.mem_map.mp hr
    exact G9.ok x (hp2.mem_iff.mp hx)
   ·rw [List.map_map] at hpw ⊢;exact hpw
   ·rw [List.length_map,hp2.length_eq];omega
  ·refine⟨_,rfl,_,rfl,_,rfl,_,rfl,_,rfl,p,pl,rw,tk,_,ps,rs,rfl,P8,l8,pnd,p8,R8,G5,by omega,mn0,by omega,nrp,ntp,nrt,nlr,nlt',fun more H9 P9 R9 G9 z9 K9=>?_⟩
   have hz40:(rs++more).length<=40:=step mn (by omega) (by omega) more z9
   clear z9
   have l9:H9 pl=some (.lst (ps.map V.str)):=K9 _ _ l8 (by simp [nlp,nlr,nlt'])
   have KH:Kp [p] H H9:=fun b o e nb=>(K8.trans K9) b o e (by
    simp at nb ⊢
    exact⟨nb,au e hrwH,au e htkH⟩)
   have T9:aU H9 tss:=T8.kp K9 hP8
   have t9:H9 tl=some (.lst (aj tss)):=K9 _ _ t8 (by simp [ntlp,ntlr,ntlt])
   generalize rs++more=ra9 at R9 G9 hz40
   refine⟨_,rfl,pl,_,rfl,.inl ⟨SqL.of l9,fun pa hpa=>?_⟩⟩
   have R10:=R9.new (o:=.tup (ps.map V.str)) hpa
   have K10:=KH.new (o:=.tup (ps.map V.str)) hpa
   have P10:Pot (upd H9 pa (.tup (ps.map V.str))) p:=P9.keep fun o e=>by rw [ai (au e hpa)];exact e
   have T10:aU (upd H9 pa (.tup (ps.map V.str))) tss:=T9.new hpa
   have t10:upd H9 pa (.tup (ps.map V.str)) tl=some (.lst (aj tss)):=by rw [ai (au t9 hpa)];exact t9
   have a10:upd H9 pa (.tup (ps.map V.str)) pa=some (.tup (ps.map V.str)):=ah
   generalize upd H9 pa (.tup (ps.map V.str))=H10 at R10 K10 P10 a10 T10 t10 ⊢
   refine⟨_,rfl,rw,ra9.map fun r=>(r.1,r.2.1),rfl,.inl (SqL.of (by rw [gz];exact R10.rl)),fun y hy=>?_,by rw [List.length_map];omega,?_,fun rs1 q hpm hpw hq=>?_⟩
   ·obtain⟨x,hx,rfl⟩:=List.mem_map.mp hy
    exact⟨_,R10.rows x hx⟩
   ·rw [List.map_map];exact G9.nd
   obtain⟨rs',hp2,e2'⟩:=iR (fun r:Addr×Row=>(r.1,r.2.1)) rs1 _ hpm
   subst e2'
   rw [gz]
   have s1:=ao (o:=.lst (bg rs')) (ag.refl H10) hq
   refine⟨q,_,rfl,.inl ⟨SqL.of ah,fun ra hra=>?_⟩⟩
   have s2:=ao (o:=.tup (bg rs')) s1 hra
   refine⟨by show 2<=sizeLine;decide,fun u hu=>?_⟩
   have s3:=ao (o:=.tup [.ref pa,.ref ra]) s2 hu
   refine⟨_,rfl,_,rfl,by show 3<=sizeLine;decide,fun v hv=>?_⟩
   have s4:=ao (o:=.tup [.ref u,.str root,.ref tl]) s3 hv
   have hur:ra≠u:=fun z=>by rw [<- z,ah] at hu;cases hu
   have hvu:u≠v:=fun z=>by rw [<- z,ah] at hv;cases hv
   have hvr:ra≠v:=fun z=>by rw [<- z,ai hur,ah] at hv;cases hv
   refine k v u tl pa ra root ps rs' _ (P10.keep fun o e=>s4 _ _ e) ah ⟨?_,s4 _ _ a10,?_,fun x hx=>s4 _ _ (R10.rows x (hp2.mem_iff.mp hx))⟩ ⟨?_,pnm,pso,fun r hr=>?_,?_,by omega,?_⟩ p8 (by rw [hp2.length_eq];exact hz40) (K10.of_same s4) tss (s4 _ _ t10) (T10.same s4) TO (by rw [hyl];omega)
   ·rw [ai hvu,ah]
   ·rw [ai hvr,ai hur,ah]
   ·intro z;rw [z] at p1;simp at p1
   ·obtain⟨x,hx,rfl⟩:=List.mem_map.mp hr
    exact G9.ok x (hp2.mem_iff.mp hx)
   ·rw [List.map_map] at hpw ⊢;exact hpw
   ·rw [List.length_map,hp2.length_eq];omega
end
end K16
namespace L2
open PySem PySem.Spec PyProof.Rows PySem.Builtin PySem.Builtin.Str
section
variable {X:Cx}
noncomputable def tX:V->List V->Hp->VK->Prop:=fun x xs H Q=>∃z y:Str,x=.str z/\xs=[.str y]/\(y.length == 0)=false/\z.length + 2<=sizeLine/\∀p,H p=none->Q (.ref p) (upd H p (.lst ((Txt.split z y).map V.str)))
theorem split_len (z y:Str) (hz:z.length + 2<=sizeLine):(Txt.split z y).length<=sizeLine/\(partsBetween z (occurrences z y 0 z.length (z.length + 1)) y.length).length<=sizeLine:=by
 have e1:=StrLaws.occ_length_le z y 0 z.length (z.length + 1)
 have e2:(partsBetween z (occurrences z y 0 z.length (z.length + 1)) y.length).length<=sizeLine:=by rw [length_partsBetween];omega
 refine⟨?_,e2⟩
 unfold Txt.split
 split
 ·exact Nat.le_trans (show [z].length<=2 by simp) (by omega)
 ·split
  ·exact Nat.le_trans (show [z].length<=2 by simp) (by omega)
  ·exact e2
theorem eR:MtR X "str.split" tX:=by
 intro pins s σ H x xs v us Q I rx rs h
 obtain⟨z,y,rfl,rfl,hy,hz,q⟩:=h
 obtain⟨t,rfl⟩:=rx
 obtain⟨u',rfl,ru⟩:=vals1 rs
 obtain⟨u,rfl⟩:=ru
 obtain⟨l1,l2⟩:=split_len z y hz
 have fin:∀(l:List (Str×Tok)) (k:Nat),l.map (·.1)=Txt.split z y->EP X pins σ Q (.ref s.heap.objs.size) { s with heap:=s.heap.push { cls:=.type "list",data:=.seq (strValues l).toArray },toks:=k }:=fun l k e=>by
  refine⟨.ref _,_,I.lnew (t':=k) (ys:=(Txt.split z y).map V.str) ?_ (by rw [List.length_map];exact l1),rfl,q _ I.fresh⟩
  rw [<- e]
  exact gu (strsAre_of_values l)
 by_cases h1:(decide (z.length < y.length) || decide (strKind z < strKind y))=true
 ·exact call_meets F.slot_str_split (typeIs_str _ _ _) F.entry_str_split (F.args_str_split_2 _ _) (meets_str_split_cannot_occur z y t u h1) (fin [(z,t)] s.toks (by unfold Txt.split;rw [if_pos h1];rfl))
 ·have h1':=Bool.eq_false_iff.mpr h1
  by_cases hf:(occurrences z y 0 z.length (z.length + 1)).isEmpty=true
  ·exact call_meets F.slot_str_split (typeIs_str _ _ _) F.entry_str_split (F.args_str_split_2 _ _) (meets_str_split_not_found z y t u h1' hy hf) (fin [(z,t)] s.toks (by unfold Txt.split;rw [if_neg h1,if_pos hf];rfl))
  ·have hf':=Bool.eq_false_iff.mpr hf
   refine call_meets F.slot_str_split (typeIs_str _ _ _) F.entry_str_split (F.args_str_split_2 _ _) (meets_str_split_sep z y t u h1' hy hf' (by omega) l2) ?_
   have f:=fin (numbered s.toks (partsBetween z (occurrences z y 0 z.length (z.length + 1)) y.length)) (s.toks + (partsBetween z (occurrences z y 0 z.length (z.length + 1)) y.length).length) (by rw [numbered_texts];unfold Txt.split;rw [if_neg h1,if_neg hf])
   rw [<- strsFrom_eq] at f
   exact f
end
end L2
namespace K16
open PySem L2
noncomputable def jl (c:Nat):List (List Nat)->List Nat
 | []=>[]
 | [x]=>x
 | x::y::r=>x++c::jl c (y::r)
theorem mj {c:Nat}:∀(x y s t:List Nat),c∉x->c∉y->x++c::s=y++c::t->x=y/\s=t
 | [],[],s,t,_,_,h=>⟨rfl,by simpa using h⟩
 | [],b::y,s,t,_,hy,h=>by
  have e:c=b:=(List.cons.inj h).1
  exact absurd (by rw [e];exact List.mem_cons_self) hy
 | a::x,[],s,t,hx,_,h=>by
  have e:a=c:=(List.cons.inj h).1
  exact absurd (by rw [<- e];exact List.mem_cons_self) hx
 | a::x,b::y,s,t,hx,hy,h=>by
  have e:=List.cons.inj h
  obtain⟨e1,e2⟩:=mj x y s t (fun z=>hx (List.mem_cons_of_mem _ z)) (fun z=>hy (List.mem_cons_of_mem _ z)) e.2
  exact⟨by rw [e.1,e1],e2⟩
theorem jt {c:Nat}:∀(ps qs:List (List Nat)),ps≠[]->qs≠[]->(∀p∈ps,c∉p)->(∀q∈qs,c∉q)->jl c ps=jl c qs->ps=qs
 | [],_,h,_,_,_,_=>absurd rfl h
 | _,[],_,h,_,_,_=>absurd rfl h
 | [x],[y],_,_,_,_,e=>by rw [show x=y from e]
 | [x],y::z::r,_,_,hp,_,e=>by
  have e':x=y++c::jl c (z::r):=e
  exact absurd (by rw [e'];simp) (hp x List.mem_cons_self)
 | x::z::r,[y],_,_,_,hq,e=>by
  have e':x++c::jl c (z::r)=y:=e
  exact absurd (by rw [<- e'];simp) (hq y List.mem_cons_self)
 | x::z::r,y::z'::r',_,_,hp,hq,e=>by
  obtain⟨e1,e2⟩:=mj x y _ _ (hp x List.mem_cons_self) (hq y List.mem_cons_self) (show x++c::jl c (z::r)=y++c::jl c (z'::r') from e)
  rw [e1,jt (z::r) (z'::r') (by simp) (by simp) (fun p h=>hp p (List.mem_cons_of_mem _ h)) (fun q h=>hq q (List.mem_cons_of_mem _ h)) e2]
theorem gj (c:Nat):∀ps:List Str,(Str.join ⟨#[c]⟩ ps).cps.toList=jl c (ps.map fun p=>p.cps.toList)
 | []=>rfl
 | [x]=>rfl
 | x::y::r=>by
  show ((x++(⟨#[c]⟩:Str)++Str.join ⟨#[c]⟩ (y::r)).cps).toList=_
  rw [Str.cps_append,Str.cps_append,Array.toList_append,Array.toList_append,gj c (y::r)]
  simp [jl]
theorem jf {x y:Str} (h:x.cps.toList=y.cps.toList):x=y:=Str.ext' (Array.toList_inj.mp h)
noncomputable abbrev blank:Str:=(" ":Str)
noncomputable abbrev feed:Str:=("\n":Str)
theorem blank_mk:blank=⟨#[32]⟩:=by decide
theorem fF:feed=⟨#[10]⟩:=by decide
noncomputable def bx (ws:List Str):Str:=Txt.join blank ws++feed
noncomputable def bare (ws:List Str):Str:=Txt.join blank ws
noncomputable def textOf:List (List Str)->Str
 | []=>("":Str)
 | l::r=>bx l++textOf r
structure dw (l:List Str):Prop where
 ne:l≠[]
 nm:∀x∈l,aB x
 z:l.length<=60
theorem gG (ws:List Str):bare ws=Str.join ⟨#[32]⟩ ws:=by unfold bare;rw [<- blank_mk];exact StrLaws.glued_eq_join _ _
theorem kP:∀ls:List (List Str),textOf ls=Str.join feed (ls.map bare++[("":Str)])
 | []=>rfl
 | [l]=>by
  show bx l++textOf []=bare l++feed++("":Str)
  rfl
 | l::m::r=>by
  show bx l++textOf (m::r)=bare l++feed++Str.join feed ((m::r).map bare++[("":Str)])
  rw [kP (m::r)]
  rfl
theorem gE {l:List Str} (h:∀x∈l,aB x):(bare l).length<=l.length * 9:=by
 rw [gG]
 have q:=StrLaws.join_length_le ⟨#[32]⟩ l
 have e:(⟨#[32]⟩:Str).length=1:=by decide
 have s:(l.map (·.length)).sum<=l.length * 8:=by
  clear q
  induction l with
  | nil=>simp
  | cons x r ih =>
   have:=ih fun y hy=>h y (List.mem_cons_of_mem _ hy)
   have h8:=(h x List.mem_cons_self).hi
   simp only [List.map_cons,List.sum_cons,List.length_cons]
   omega
 rw [e] at q
 omega
theorem kC {l:List Str} (h:dw l):(bx l).length<=541:=by
 have:=gE h.nm
 have hz:=h.z
 show (bare l++feed).length<=541
 have e:feed.length=1:=by decide
 rw [Str.length_append,e]
 omega
theorem text_len:∀{ls:List (List Str)},(∀l∈ls,dw l)->(textOf ls).length<=ls.length * 541
 | [],_=>by decide
 | l::r,h=>by
  have h1:=kC (h l List.mem_cons_self)
  have h2:=text_len (ls:=r) fun m hm=>h m (List.mem_cons_of_mem _ hm)
  show (bx l++textOf r).length<=_
  rw [Str.length_append,List.length_cons]
  omega
theorem qc:∀ls:List (List Str),Txt.join ("":Str) (ls.map bx)=textOf ls:=by
 intro ls
 show Builtin.Str.glued _ _=_
 rw [StrLaws.glued_eq_join]
 induction ls with
 | nil=>rfl
 | cons l r ih =>
  cases r with
  | nil=>show bx l=bx l++("":Str);rw [show (("":Str))=Str.empty from by decide,Str.append_empty]
  | cons m t =>
   show bx l++("":Str)++Str.join ("":Str) ((m::t).map bx)=bx l++textOf (m::t)
   rw [ih,show (("":Str))=Str.empty from by decide,Str.append_empty]
theorem dY (x:V) (r:List V):bE (x::r) (some 1) none=r:=by
 unfold bE
 simp [HT.sIx]
theorem lK (ys:List V) (v:V):bE (ys++[v]) none (some (-1))=ys:=by
 unfold bE
 have e:(-1 + ((ys.length:Int) + 1)).toNat=ys.length:=by omega
 simp [HT.sIx,e]
theorem ji (K:PySem.W.Frag) {X:Cx}{o e:Expr}{to:TE}{t:TA}{name:Str}{apos cpos:Pos}{T id:String}{r:V->List V->Hp->VK->Prop} (pa:PlainAttrs T) (slot:Slot T name id) (hty:typeOf (.builtin id)=pure (.type "method_descriptor")) (hm:MtR X id r) (ho:PE X o to) (ha:PA X [e] t) (hK:X.K=K:=by rfl)
  (hb:attributeBase o name X.env (eval o X.env)=eval o X.env:=by rfl) (hl:(apos.endLine == cpos.line)=true:=by rfl) (hs:starEach [e] X.env=(false,eval e X.env)::starEach [] X.env:=by rfl)
  (hf:((backTo cpos (starEach [e] X.env)).all (fun x=>!x.1) && (backToKw cpos (keywordEach [] X.env)).all (fun x=>x.1.isSome) && decide ([e].length + ([]:List Keyword).length + (if ([]:List Keyword).isEmpty then 0 else 1) < 30))=true:=by rfl)
  (hp:(backTo cpos (starEach [] X.env)).any (·.1)=false:=by rfl):PE X (.Call (.Attribute o name apos) [e] [] cpos) (tBM K T r to t):=by
 subst hK
 exact bI pa slot hty hm ho ha hb hf hl hs hp
theorem rK (K:PySem.W.Frag) {X:Cx} (h:X.K=K:=by rfl):MtR X "str.join" (fun x xs H Q=>∃(z:Str) (p:Addr) (ss:List Str),x=.str z/\xs=[.ref p]/\SqL K H p (ss.map V.str)/\(ss.map (·.length)).sum + ss.length * z.length<=16777216/\Q (.str (Txt.join z ss)) H):=by subst h;exact fK
theorem qt {l:List Str} (h:∀x∈l,aB x):(l.map (·.length)).sum<=l.length * 8:=by
 induction l with
 | nil=>simp
 | cons x r ih =>
  have:=ih fun y hy=>h y (List.mem_cons_of_mem _ hy)
  have h8:=(h x List.mem_cons_self).hi
  simp only [List.map_cons,List.sum_cons,List.length_cons]
  omega
noncomputable def cX (H:Hp) (tss:List (Addr×List Str)):Prop:=∀x∈tss,H x.1=some (.lst (x.2.map V.str))
theorem cX.same {H H':Hp}{tss:List (Addr×List Str)} (R:cX H tss) (s:ag H H'):cX H' tss:=fun r hr=>s _ _ (R r hr)
section
variable {P:Program}{w:World}{K:PySem.W.Frag}{mg:Str->Option Value}{base:Heap}
end
noncomputable abbrev ie (r:Row):List Str:=[r.1,r.2.1,r.2.2]
noncomputable abbrev cU (r:Row):List Str:=("tie":Str)::ie r
noncomputable abbrev bO (ts:List Str):List Str:=("tree":Str)::ts
noncomputable def cK (ps:List Str) (rows:List Row):List (List Str):=(("places":Str)::ps)::rows.map cU
theorem lq:aB ("tie":Str):=gm _ (by simp [cw])
theorem jZ:aB ("places":Str):=gm _ (by simp [cw])
theorem iK:aB ("tree":Str):=gm _ (by simp [cw])
theorem Good.tie {ps:List Str}{rows:List Row} (G:Good ps rows) {r:Row} (hr:r∈rows):dw (cU r):=by
 obtain⟨a,b,c,_⟩:=G.rn r hr
 refine⟨by simp,fun x hx=>?_,by simp⟩
 simp only [List.mem_cons,List.not_mem_nil,or_false] at hx
 rcases hx with rfl | rfl | rfl | rfl
 ·exact lq
 ·exact a
 ·exact G.nm _ b
 ·exact G.nm _ c
theorem Good.places {ps:List Str}{rows:List Row} (G:Good ps rows) (h8:ps.length<=8):dw (("places":Str)::ps) :=
 ⟨by simp,fun x hx=>(List.mem_cons.mp hx).elim (fun e=>e ▸ jZ) (G.nm x),by simp;omega⟩
theorem Good.lines {ps:List Str}{rows:List Row} (G:Good ps rows) (h8:ps.length<=8):∀l∈cK ps rows,dw l:=fun l hl=>by
 rcases List.mem_cons.mp hl with rfl | hl
 ·exact G.places h8
 ·obtain⟨r,hr,rfl⟩:=List.mem_map.mp hl
  exact G.tie hr
theorem iw.line {ts:List Str} (T:iw ts):dw (bO ts) :=
 ⟨by simp,fun x hx=>(List.mem_cons.mp hx).elim (fun e=>e ▸ iK) (T.nm x),by have:=T.z;simp;omega⟩
theorem kz:∀{ls:List (List Str)},(∀l∈ls,dw l)->((ls.map bx).map (·.length)).sum<=ls.length * 541
 | [],_=>by simp
 | l::r,h=>by
  have h1:=kC (h l List.mem_cons_self)
  have h2:=kz (ls:=r) fun m hm=>h m (List.mem_cons_of_mem _ hm)
  simp only [List.map_cons,List.sum_cons,List.length_cons]
  omega
theorem mK {α β γ:Type}{f:α->γ}{g:β->γ}{xs:List α}{ys:List β} (h:xs.map f=ys.map g) {i:Nat}{x:α} (hx:xs[i]?=some x):∃y,ys[i]?=some y/\f x=g y:=by
 have e:=congrArg (fun l:List γ=>l[i]?) h
 simp only [List.getElem?_map,hx,Option.map_some] at e
 cases hy:ys[i]? with
 | none=>rw [hy] at e;cases e
 | some y=>rw [hy] at e;exact⟨y,rfl,Option.some.inj e⟩
theorem dI {lr:List (Addr×List Str)}{i:Nat}{x:V} (h:(aj lr)[i]?=some x):∃r,lr[i]?=some r/\x=.ref r.1:=by
 unfold aj at h
 rw [List.getElem?_map] at h
 cases e:lr[i]? with
 | none=>rw [e] at h;cases h
 | some r=>rw [e] at h;exact⟨r,rfl,(Option.some.inj h).symm⟩
section
variable {P:Program}{w:World}{K:PySem.W.Frag}{mg:Str->Option Value}{base:Heap}
noncomputable def kJ:Sp:=fun vs H Q _=>∃(v pa ra:Addr) (ps:List Str) (rs:List (Addr×Row)),vs=[.ref v]/\nB H v pa ra ps rs/\Good ps (rs.map (·.2))/\ps.length<=8/\∀H',ag H H'->Q (.str (textOf (cK ps (rs.map (·.2))))) H'
end
theorem mq {tss:List (Addr×List Str)} (h:fV tss):∀l∈(tss.map (·.2)).map bO,dw l:=fun l hl=>by
 obtain⟨ts,h1,rfl⟩:=List.mem_map.mp hl
 obtain⟨x,hx,rfl⟩:=List.mem_map.mp h1
 exact (h x hx).line
section
variable {P:Program}{w:World}{K:PySem.W.Frag}{mg:Str->Option Value}{base:Heap}
noncomputable abbrev dr (tl:List (List Str)):Str:=textOf (tl.map bO)
noncomputable def j3:Sp:=fun vs H Q _=>∃(a:Addr) (tss:List (Addr×List Str)),vs=[.ref a]/\H a=some (.lst (aj tss))/\aU H tss/\fV tss/\tss.length<=30/\∀H',ag H H'->Q (.str (dr (tss.map (·.2)))) H'
end
theorem qD {H H':Hp}{p:Addr}{o:HO} (h:ag H H') (hp:H p=none):ag H (upd H' p o):=fun b ob e=>by
 rw [ai (au e hp)];exact h b ob e
theorem kI:∀(ls:List (List Str)) (l:List Str),textOf (ls++[l])=textOf ls++bx l
 | [],l=>by
  show bx l++("":Str)=("":Str)++bx l
  rw [show (("":Str))=Str.empty from by decide,Str.append_empty]
  exact jf (by rw [Str.cps_append];simp [Str.empty])
 | m::r,l=>by
  show bx m++textOf (r++[l])=bx m++textOf r++bx l
  rw [kI r l,Str.append_assoc]
theorem qo:∀(l:List Str) (y:Str),l≠[]->bare (l++[y])=bare l++blank++y:=by
 intro l y hn
 rw [gG,gG,blank_mk]
 induction l with
 | nil=>exact absurd rfl hn
 | cons x r ih =>
  cases r with
  | nil=>rfl
  | cons z t =>
   show x++(⟨#[32]⟩:Str)++Str.join ⟨#[32]⟩ (z::t++[y])=x++(⟨#[32]⟩:Str)++Str.join ⟨#[32]⟩ (z::t)++(⟨#[32]⟩:Str)++y
   rw [ih (by simp)]
   simp only [Str.append_assoc]
section
variable {P:Program}{w:World}{K:PySem.W.Frag}{mg:Str->Option Value}{base:Heap}
noncomputable abbrev N35:List Str:=["_law_web_here","_law_lines","_law_row"]
theorem jK:aR N35 ["_law_web_here"] (aI (top 35)):=⟨rfl,rfl,rfl,by decide +kernel,rfl,by decide +kernel,by decide +kernel⟩
theorem tW {f:Addr}{fd:FuncData} (F:Fun K "_law_web_text" "_law_web_text" (top 35) f fd) (B:Bl mg):aH P w K mg base CX0 1 f fd ["_law_web_here"] kJ:=by
 refine F.ok jK (fun vs H Q E h=>?_) (fun cdv A outer s H vs Q E hr h=>?_)
 ·obtain⟨v,pa,ra,ps,rs,rfl,_⟩:=h
  rfl
 ·obtain⟨v,pa,ra,ps,rs,rfl,W,G,p8,k⟩:=h
  refine⟨_,aq (aD (i:=1) jK.nd rfl (Or.inl rfl) (be (aa (ay b6 (be (aa av ae)) (bT gh rfl B.list gP (aa (aG aP (pv 0) ak (fun _ _=>rfl)) ae))) ae)))
   (aq (cO PassesOwn.never rfl (ez (aG aP (pv 0) ak (fun _ _=>rfl))) (bw (i:=2) jK.nd rfl (Or.inl rfl))
    (aw (da (bI PySem.F.plainAttrs_list PySem.F.slot_list_append PySem.F.type_list_append dG (pv 1) (aa (ay b6 (be (aa av ae)) (bT gh rfl B.list gP (aa (pv 2) ae))) ae)))))
   (aw (aM (bI PySem.F.plainAttrs_str PySem.F.slot_str_join PySem.F.type_str_join fK av
    (aa (cC (N:=["_law_line"]) (ix:=[none]) ⟨rfl,rfl,rfl,by decide⟩ rfl (cn (pv 1)) (fun _ _ _ _=>bJ 0 (by decide) rfl rfl) (fun _ _ _ _=>bP)
     (fun _ _ _ _=>ay b5 (ji K PySem.F.plainAttrs_str PySem.F.slot_str_join PySem.F.type_str_join (rK K) av (aa (pv 0) ae)) av)) ae))))),?_⟩
  have hz:rs.length<=60:=by have:=G.rz;simpa using this
  refine⟨by show 1<=sizeLine;decide,fun b1 hb1=>?_⟩
  have s1:=ao (o:=.lst [.str "places"]) (ag.refl H) hb1
  refine⟨_,rfl,aK (j:=0) (.inr (SqT.of (s1 _ _ W.tp))) rfl rfl ⟨pa,_,rfl,.inr (SqT.of (s1 _ _ W.pl)),fun b2 hb2=>?_⟩⟩
  have s2:=ao (o:=.lst (ps.map V.str)) s1 hb2
  have n12:b1≠b2:=fun z=>by rw [<- z,ah] at hb2;cases hb2
  refine⟨b1,b2,_,_,rfl,rfl,by rw [ai n12,ah],ah,by rw [sizeLine_eq];simp;omega,fun b3 hb3=>?_⟩
  have s3:=ao (o:=.lst ([V.str "places"]++ps.map V.str)) s2 hb3
  have c3:upd (upd (upd H b1 (.lst [.str "places"])) b2 (.lst (ps.map V.str))) b3 (.lst ([V.str "places"]++ps.map V.str)) b3=some (.lst ((("places":Str)::ps).map V.str)):=ah
  generalize upd (upd (upd H b1 (.lst [.str "places"])) b2 (.lst (ps.map V.str))) b3 (.lst ([V.str "places"]++ps.map V.str))=H3 at s3 c3 ⊢
  refine⟨by show 1<=sizeLine;decide,fun li hli=>?_⟩
  have li0:H li=none:=s3.free hli
  have s4:=ao (o:=.lst [.ref b3]) s3 hli
  have c4:upd H3 li (.lst [.ref b3]) b3=some (.lst ((("places":Str)::ps).map V.str)):=by rw [ai (au c3 hli)];exact c3
  have l4:upd H3 li (.lst [.ref b3]) li=some (.lst [.ref b3]):=ah
  generalize upd H3 li (.lst [.ref b3])=H4 at s4 c4 l4 ⊢
  refine⟨_,rfl,aK (j:=1) (.inr (SqT.of (s4 _ _ W.tp))) rfl rfl ⟨ra,rfl,⟨_,SqT.of (s4 _ _ W.rl)⟩,gL (K:=K) (a:=ra) (xs:=bg rs) (fun i σ H5=>(∃g,σ=[some (.ref v),some (.ref li),g])/\ag H H5/\∃lr,H5 li=some (.lst (aj ((b3,("places":Str)::ps)::lr)))/\cX H5 ((b3,("places":Str)::ps)::lr)/\lr.map (·.2)=(rs.take i).map fun r=>cU r.2)
   ⟨⟨_,rfl⟩,s4,[],l4,fun x hx=>by
    have e:x=(b3,("places":Str)::ps):=by simpa using hx
    subst e;exact c4,rfl⟩ (fun i σ H5 _ q=>SqT.of (q.2.1 _ _ W.rl)) ?_ ?_⟩⟩
  ·rintro i x σ H5 hx ⟨⟨g,rfl⟩,s5,lr,l5,La,e⟩
   obtain⟨r,hr',rfl⟩:=qj hx
   have hm:=List.mem_of_getElem? hr'
   have hrow:=s5 _ _ (W.rows r hm)
   refine⟨_,rfl,.inl ⟨rfl,_,SqL.of l5⟩,by show 1<=sizeLine;decide,fun d1 hd1=>?_⟩
   have t1:=ao (o:=.lst [.str "tie"]) (ag.refl H5) hd1
   refine⟨_,rfl,r.1,_,rfl,.inr (SqT.of (t1 _ _ hrow)),fun d2 hd2=>?_⟩
   have t2:=ao (o:=.lst ((ie r.2).map V.str)) t1 hd2
   have m12:d1≠d2:=fun z=>by rw [<- z,ah] at hd2;cases hd2
   refine⟨d1,d2,_,_,rfl,rfl,by rw [ai m12,ah],ah,by show 4<=sizeLine;decide,fun d3 hd3=>?_⟩
   have t3:=ao (o:=.lst ((cU r.2).map V.str)) t2 hd3
   have u3:upd (upd (upd H5 d1 (.lst [.str "tie"])) d2 (.lst ((ie r.2).map V.str))) d3 (.lst ((cU r.2).map V.str)) d3=some (.lst ((cU r.2).map V.str)):=ah
   have hlr:lr.length<=60:=by have:=congrArg List.length e;rw [List.length_map,List.length_map,List.length_take] at this;omega
   refine⟨li,_,_,rfl,rfl,t3 _ _ l5,fits (by simp;omega),⟨_,rfl⟩,qD (s5.trans t3) li0,lr++[(d3,cU r.2)],by rw [ah];simp [aj],fun y hy=>?_,by rw [List.map_append,e,b4 _ _ _ _ hr'];rfl⟩
   have ny:∀z:Addr×List Str,(upd (upd (upd H5 d1 (.lst [.str "tie"])) d2 (.lst ((ie r.2).map V.str))) d3 (.lst ((cU r.2).map V.str))) z.1=some (.lst (z.2.map V.str))->z.1≠li:=fun z hz q=>by
    rw [q,t3 _ _ l5] at hz
    have hz':=HO.lst.inj (Option.some.inj hz)
    cases hh:z.2 with
    | nil=>rw [hh] at hz';cases hz'
    | cons a b=>rw [hh] at hz';cases (List.cons.inj hz').1
   rcases List.mem_append.mp (show y∈((b3,("places":Str)::ps)::lr)++[(d3,cU r.2)] from hy) with z | z
   ·have q:=t3 _ _ (La y z)
    rw [ai (ny y q)];exact q
   ·have e':y=(d3,cU r.2):=by simpa using z
    subst e'
    rw [ai (ny _ u3)];exact u3
  ·rintro σ H5 ⟨⟨g,rfl⟩,s5,lr,l5,La,e⟩
   rw [take_all rs (by simp)] at e
   have hL:=G.lines p8
   have eW:((b3,("places":Str)::ps)::lr).map (·.2)=cK ps (rs.map (·.2)):=by
    rw [List.map_cons,e];simp [cK,List.map_map,Function.comp_def]
   generalize (b3,("places":Str)::ps)::lr=lr' at l5 La eW
   have hlen:lr'.length=rs.length + 1:=by have:=congrArg List.length eW;simpa [cK] using this
   refine⟨rfl,_,rfl,li,rfl,⟨_,SqL.of l5⟩,dZ (xs:=aj lr') (fits (by simp;omega)) (fun i ys σ H6=>ys=((lr'.take i).map fun r=>V.str (bx r.2))/\H6=H5/\∃x,σ=[x]) ⟨rfl,rfl,_,rfl⟩
    (fun i ys σ H6 _ q=>⟨by rw [q.1];simp;omega,by rw [q.2.1];exact SqL.of l5⟩) ?_ ?_⟩
   ·rintro i x ys σ H6 hx ⟨rfl,rfl,z,rfl⟩
    obtain⟨r,hr',rfl⟩:=dI hx
    have hm:=List.mem_of_getElem? hr'
    have hl:dw r.2:=hL r.2 (by rw [<- eW];exact List.mem_map_of_mem hm)
    have hsum:=qt hl.nm
    have hb:=gE hl.nm
    have hlz:=hl.z
    refine⟨rfl,_,rfl,_,r.1,r.2,rfl,rfl,SqL.of (La r hm),?_,_,_,rfl,rfl,?_,(b4 _ _ _ _ hr').symm,rfl,_,rfl⟩
    ·have e1:(" ":Str).length=1:=by decide
     rw [e1]
     omega
    ·have e1:feed.length=1:=by decide
     show (bare r.2).length + feed.length<=sizeLine
     rw [e1,sizeLine_eq]
     omega
   ·rintro ys σ H6 ⟨rfl,rfl,z,rfl⟩ q hq
    rw [take_all lr' (by simp)]
    have e1:(lr'.map fun r=>V.str (bx r.2))=((lr'.map (·.2)).map bx).map V.str:=by simp [List.map_map,Function.comp_def]
    refine⟨("":Str),q,(lr'.map (·.2)).map bx,rfl,rfl,SqL.of (by rw [ah,e1]),?_,?_⟩
    ·rw [eW]
     have:=kz hL
     have e0:("":Str).length=0:=by decide
     have e2:(cK ps (rs.map (·.2))).length=rs.length + 1:=by simp [cK]
     rw [e0]
     rw [e2] at this
     simp only [List.length_map] at this ⊢
     omega
    ·rw [qc,eW]
     exact k _ (ao s5 hq)
noncomputable abbrev N36:List Str:=["_law_trees","_law_text","_law_tree","_law_tie"]
theorem eM:aR N36 ["_law_trees"] (aI (top 36)):=⟨rfl,rfl,rfl,by decide +kernel,rfl,by decide +kernel,by decide +kernel⟩
theorem uB {f:Addr}{fd:FuncData} (F:Fun K "_law_trees_text" "_law_trees_text" (top 36) f fd) (B:Bl mg):aH P w K mg base CX0 1 f fd ["_law_trees"] j3:=by
 refine F.ok eM (fun vs H Q E h=>?_) (fun cdv A outer s H vs Q E hr h=>?_)
 ·obtain⟨a,tss,rfl,_⟩:=h
  rfl
 ·obtain⟨a,tss,rfl,ha,TA,TO,hz,k⟩:=h
  refine⟨_,aq (aD (i:=1) eM.nd rfl (Or.inl rfl) av)
   (aq (cO PassesOwn.never rfl (cn (pv 0)) (bw (i:=2) eM.nd rfl (Or.inl rfl))
    (aq (aD (i:=1) eM.nd rfl (Or.inl rfl) (ay b5 (pv 1) av))
    (aq (cO PassesOwn.never rfl (ez (pv 2)) (bw (i:=3) eM.nd rfl (Or.inl rfl)) (aw (aD (i:=1) eM.nd rfl (Or.inl rfl) (ay b5 (ay b5 (pv 1) av) (pv 3)))))
    (aw (aD (i:=1) eM.nd rfl (Or.inl rfl) (ay b5 (pv 1) av))))))
   (aw (aM (pv 1)))),?_⟩
  have hT:=mq TO
  have tlen:∀i,(dr ((tss.take i).map (·.2))).length<=30 * 541:=fun i=>by
   have q:(dr ((tss.take i).map (·.2))).length<=_:=text_len (ls:=((tss.take i).map (·.2)).map bO) (mq fun x hx=>TO x (List.mem_of_mem_take hx))
   simp only [List.length_map,List.length_take] at q
   omega
  refine⟨_,rfl,a,rfl,⟨_,SqL.of ha⟩,lC (K:=K) (a:=a) (xs:=aj tss) (fun i σ H1=>H1=H/\∃g1 g2,σ=[some (.ref a),some (.str (dr ((tss.take i).map (·.2)))),g1,g2]) ⟨rfl,_,_,rfl⟩ (fun i σ H1 _ q=>by rw [q.1];exact SqL.of ha) ?_ ?_⟩
  ·rintro i x σ H1 hx ⟨rfl,g1,g2,rfl⟩
   obtain⟨r,hr',rfl⟩:=dI hx
   have hm:=List.mem_of_getElem? hr'
   have T:=TO r hm
   have hl0:=tlen i
   have e4:("tree":Str).length=4:=by decide
   have e1:(" ":Str).length=1:=by decide
   have ef:("\n":Str).length=1:=by decide
   have hbl:∀j,(bare (bO (r.2.take j))).length<=369:=fun j=>by
    have q:=gE (l:=bO (r.2.take j)) fun x hx=>(List.mem_cons.mp hx).elim (fun e=>e ▸ iK) fun h=>T.nm x (List.mem_of_mem_take h)
    have:=T.z
    simp only [List.length_cons,List.length_take] at q
    omega
   generalize hX:dr ((tss.take i).map (·.2))=X0 at hl0 ⊢
   refine⟨_,rfl,_,_,rfl,rfl,by rw [e4,sizeLine_eq];omega,?_⟩
   refine⟨_,rfl,r.1,rfl,⟨_,SqT.of (TA r hm)⟩,gL (K:=K) (a:=r.1) (xs:=r.2.map V.str) (fun j σ H2=>H2=H1/\∃g2,σ=[some (.ref a),some (.str (X0++bare (bO (r.2.take j)))),some (.ref r.1),g2]) ⟨rfl,_,rfl⟩ (fun j σ H2 _ q=>by rw [q.1];exact SqT.of (TA r hm)) ?_ ?_⟩
   ·rintro j y σ H2 hy ⟨rfl,g3,rfl⟩
    rw [List.getElem?_map] at hy
    cases hc:r.2[j]? with
    | none=>rw [hc] at hy;cases hy
    | some z =>
     rw [hc] at hy
     cases hy
     have hzn:=T.nm z (List.mem_of_getElem? hc)
     have hz8:=hzn.hi
     have hj:=hbl j
     refine⟨_,rfl,_,_,rfl,rfl,by rw [Str.length_append,e1,sizeLine_eq];omega,_,rfl,_,_,rfl,rfl,by rw [Str.length_append,Str.length_append,e1,sizeLine_eq];omega,rfl,some (.str z),?_⟩
     have eq:X0++bare (bO (r.2.take j))++(" ":Str)++z=X0++bare (bO (r.2.take (j + 1))):=by
      have e5:bO (r.2.take (j + 1))=bO (r.2.take j)++[z]:=by rw [List.take_add_one,hc];rfl
      rw [e5,qo _ _ (by simp)]
      simp only [Str.append_assoc]
     rw [eq]
     rfl
   ·rintro σ H2 ⟨rfl,g3,rfl⟩
    rw [take_all r.2 (by simp)]
    have hj:=hbl r.2.length
    rw [List.take_length] at hj
    refine⟨_,rfl,_,_,rfl,rfl,by rw [Str.length_append,ef,sizeLine_eq];omega,rfl,some (.ref r.1),g3,?_⟩
    have eq:X0++bare (bO r.2)++("\n":Str)=dr ((tss.take (i + 1)).map (·.2)):=by
     rw [b4 _ _ _ _ hr',dr,List.map_append,show List.map bO [r.2]=[bO r.2] from rfl,kI,<- hX,Str.append_assoc]
     rfl
    rw [eq]
    rfl
  ·rintro σ H1 ⟨rfl,g1,g2,rfl⟩
   rw [take_all tss (by simp)]
   exact⟨_,rfl,k _ (ag.refl _)⟩
end
section
variable {P:Program}{w:World}{K:PySem.W.Frag}{mg:Str->Option Value}{base:Heap}
theorem Kp.turn {p:Addr}{H H1 H2:Hp} (k:Kp [p] H H1) (e:∀b,b≠p->H2 b=H1 b):Kp [p] H H2:=fun b o h n=>by rw [e b (by simpa using n)];exact k b o h n
end
noncomputable def vk (r:Row):PyData:=.tuple [.str r.1,.str r.2.1,.str r.2.2]
noncomputable def vQ (ps:List Str) (rows:List Row):PyData:=.tuple [.tuple (ps.map PyData.str),.tuple (rows.map vk)]
mutual
theorem iY:∀d:PyData,d.canLay0=true->PyData.eqv d d=true
 | .none,_=>by simp [PyData.eqv]
 | .bool b,_=>by simp [PyData.eqv]
 | .int i,_=>by simp [PyData.eqv]
 | .str x,_=>by simp [PyData.eqv]
 | .list xs,h=>by rw [PyData.eqv];exact iE xs (by simpa [PyData.canLay0] using h)
 | .tuple xs,h=>by rw [PyData.eqv];exact iE xs (by simpa [PyData.canLay0] using h)
 | .dict _,h=>by simp [PyData.canLay0] at h
theorem iE:∀ds:List PyData,PyData.canLayAll0 ds=true->PyData.eqvAll ds ds=true
 | [],_=>by simp [PyData.eqvAll]
 | d::ds,h=>by
  simp only [PyData.canLayAll0,Bool.and_eq_true] at h
  rw [PyData.eqvAll,iY d h.1,iE ds h.2]
  rfl
end
noncomputable abbrev aX (ts:List Str):PyData:=.tuple (ts.map PyData.str)
noncomputable abbrev tlD (tl:List (List Str)):PyData:=.list (tl.map aX)
theorem eJ {H:Hp}:∀{tss:List (Addr×List Str)},aU H tss->DVs H (aj tss) ((tss.map (·.2)).map aX)
 | [],_=>.nil
 | r::t,h=>.cons (.tup (h r List.mem_cons_self) (DVs.strs _)) (eJ fun x hx=>h x (List.mem_cons_of_mem _ hx))
section
variable {P:Program}{w:World}{K:PySem.W.Frag}{mg:Str->Option Value}{base:Heap}
end
end K16
namespace L2
open PySem PySem.Spec PyProof.Rows PySem.W PySem.Calls
section
variable {X:Cx}
theorem qX:MtR X "str.strip" (fun x xs H Q=>∃z y:Str,x=.str z/\xs=[.str y]/\z.length<=sizeLine/\Q (.str (if stripSame y.cps.contains true true z=true then z else PySem.stripped y.cps.contains true true z)) H):=by
 intro pins s σ H x xs v us Q I rx rs h
 obtain⟨z,y,rfl,rfl,hz,q⟩:=h
 obtain⟨t,rfl⟩:=rx
 obtain⟨u,rfl,ru⟩:=vals1 rs
 obtain⟨t',rfl⟩:=ru
 refine call_gives PySem.F.slot_str_strip rfl PySem.F.entry_str_strip (PySem.F.args_str_strip_2 _ _) (gives_str_strip_chars z y t t') ?_
 by_cases c:stripSame y.cps.contains true true z=true
 ·rw [if_pos c] at q ⊢
  exact⟨.str z,H,I,⟨_,rfl⟩,q⟩
 ·rw [if_neg c] at q ⊢
  exact⟨fits_stripped _ _ _ hz,.str _,H,I.tok _,⟨_,rfl⟩,q⟩
end
end L2
namespace K16
open PySem L2
theorem gY {c A B:Prop} [Decidable c] (hc:¬ c) (h:A):if (!decide c)=true then A else B:=by
 rw [decide_eq_false hc];exact am h
noncomputable def okS (s:Str):Prop:=s.length<=20000/\s.cps.all (· < 128)=true
inductive Dok:PyData->Prop
 | non:Dok .none
 | bl (b:Bool):Dok (.bool b)
 | int (i:Int):Dok (.int i)
 | str (s:Str) (h:okS s):Dok (.str s)
 | tup (ds:List PyData) (hl:ds.length<=60) (h:∀d∈ds,Dok d):Dok (.tuple ds)
 | lst (ds:List PyData) (hl:ds.length<=60) (h:∀d∈ds,Dok d) (hn:∀i j,ds≠[.int i,.int j]):Dok (.list ds)
mutual
theorem DV.same {H H':Hp} (s:ag H H'):∀{x:V}{d:PyData},DV H x d->DV H' x d
 | _,_,.non=>.non
 | _,_,.bl b=>.bl b
 | _,_,.int i=>.int i
 | _,_,.str x=>.str x
 | _,_,.tup e q=>.tup (s _ _ e) (DVs.same s q)
 | _,_,.lst e q=>.lst (s _ _ e) (DVs.same s q)
theorem DVs.same {H H':Hp} (s:ag H H'):∀{xs:List V}{ds:List PyData},DVs H xs ds->DVs H' xs ds
 | _,_,.nil=>.nil
 | _,_,.cons a b=>.cons (DV.same s a) (DVs.same s b)
end
theorem DVs.len {H:Hp}:∀{xs:List V}{ds:List PyData},DVs H xs ds->xs.length=ds.length
 | _,_,.nil=>rfl
 | _,_,.cons _ b=>by rw [List.length_cons,List.length_cons,DVs.len b]
theorem DVs.at {H:Hp}:∀{xs:List V}{ds:List PyData},DVs H xs ds->∀{i:Nat}{x:V},xs[i]?=some x->∃d,ds[i]?=some d/\DV H x d
 | _,_,.nil,i,x,h=>by simp at h
 | _,_,.cons a b,0,x,h=>by cases h;exact⟨_,rfl,a⟩
 | _,_,.cons a b,i + 1,x,h=>DVs.at b (i:=i) (by simpa using h)
theorem DVs.txt {H:Hp}:∀{xs:List V}{ss:List Str},DVs H xs (ss.map PyData.str)->xs=ss.map V.str
 | _,[],.nil=>rfl
 | _,s::r,.cons a b=>by cases a;rw [DVs.txt b];rfl
noncomputable def az (c:Nat):Bool:=decide (97<=c) && decide (c<=122)
noncomputable def bc (s:Str):Bool:=decide (1<=s.length) && decide (s.length<=8) && s.cps.toList.all az
theorem eO {s:Str}:bc s=true ↔ aB s:=by
 unfold bc az
 constructor
 ·intro h
  simp only [Bool.and_eq_true,decide_eq_true_eq,List.all_eq_true] at h
  exact⟨h.1.1,h.1.2,h.2⟩
 ·intro h
  simp only [Bool.and_eq_true,decide_eq_true_eq,List.all_eq_true]
  exact⟨⟨h.lo,h.hi⟩,h.az⟩
noncomputable def bq:PyData->Bool
 | .str s=>bc s
 | _=>false
theorem km {d:PyData} (h:bq d=true):∃s,d=.str s/\aB s:=by
 cases d with
 | str s=>exact⟨s,rfl,eO.mp h⟩
 | _=>cases h
theorem kN {ds:List PyData}:ds.all bq=true->∃ss:List Str,ds=ss.map PyData.str/\∀x∈ss,aB x:=by
 induction ds with
 | nil=>intro _;exact⟨[],rfl,by simp⟩
 | cons d r ih =>
  intro h
  rw [List.all_cons,Bool.and_eq_true] at h
  obtain⟨s,rfl,hs⟩:=km h.1
  obtain⟨ss,rfl,hss⟩:=ih h.2
  exact⟨s::ss,rfl,fun x hx=>by
   rcases List.mem_cons.mp hx with e | e
   ·rw [e];exact hs
   ·exact hss x e⟩
section
variable {P:Program}{w:World}{K:PySem.W.Frag}{mg:Str->Option Value}{base:Heap}
noncomputable def jd:Sp:=fun vs H Q _=>∃(x:V) (d:PyData),vs=[x]/\DV H x d/\Dok d/\∀H',ag H H'->Q (.bl (bq d)) H'
theorem vy:aR ["thing"] ["thing"] (aI (top 15)):=⟨rfl,rfl,rfl,by decide +kernel,rfl,by decide +kernel,by decide +kernel⟩
theorem qV {f:Addr}{fd:FuncData} (F:Fun K "is_name" "is_name" (top 15) f fd) (B:Bl mg):aH P w K mg base CX0 1 f fd ["thing"] jd:=by
 refine F.ok vy (fun vs H Q E h=>?_) (fun cdv A outer s H vs Q E hr h=>?_)
 ·obtain⟨x,d,rfl,_⟩:=h
  rfl
 ·obtain⟨x,d,rfl,hx,hd,k⟩:=h
  obtain⟨tl,hl⟩:=B.lng
  refine⟨_,aq (bh (PW.pt (bW (bQ (bN (aA (dE (T:="str")) rfl B.isinstance bG (aa (pv 0) (aa (dn (v:=.ty "str") rfl B.str gU rfl) ae)))))
    (cP (bQ (rB gX gX ak (aA gi rfl B.len PySem.boot_len (aa (pv 0) ae)) (cq (v:=.int 8) rfl hl ⟨_,rfl⟩)))))) (aw (aM cy)) bp)
   (aw (aM (aA (eh rfl) rfl B.all eG (aa (cC (N:=["letter"]) (ix:=[none]) ⟨rfl,rfl,rfl,by decide⟩ rfl (ur (pv 0)) (fun _ _ _ _=>bJ 0 (by decide) rfl rfl) (fun _ _ _ _=>bP)
    (fun _ _ _ _=>lh kD kD av (pv 0) av)) ae)))),?_⟩
  have kF:bq d=false->Q (.bl false) H:=fun e=>by have:=k H (ag.refl _);rw [e] at this;exact this
  cases hx with
  | non=>exact⟨_,rfl,_,_,false,rfl,.non,rfl,false,rfl,am (am (kF rfl))⟩
  | int i=>exact⟨_,rfl,_,_,false,rfl,.int i,rfl,false,rfl,am (am (kF rfl))⟩
  | bl b=>exact⟨_,rfl,_,_,false,rfl,.bl b,rfl,false,rfl,am (am (kF rfl))⟩
  | tup e _=>exact⟨_,rfl,_,_,false,rfl,.tup e,rfl,false,rfl,am (am (kF rfl))⟩
  | lst e _=>exact⟨_,rfl,_,_,false,rfl,.lst e,rfl,false,rfl,am (am (kF rfl))⟩
  | str x =>
   obtain⟨hx1,hx2⟩:okS x:=by cases hd with | str _ h=>exact h
   refine⟨_,rfl,_,_,true,rfl,.str x,?kit,true,rfl,aL ?_⟩
   case kit=>rfl
   refine⟨_,rfl,x,rfl,by rw [sizeLine_eq];omega,_,_,rfl,rfl,_,rfl,?_⟩
   by_cases c1:1<=x.length
   ·refine cI (by omega) ⟨_,_,rfl,rfl,_,rfl,?_⟩
    by_cases c2:x.length<=8
    ·refine cD (by omega) ?_
     refine⟨_,rfl,x,rfl,hx2,rM (fits (by omega)) (fun i ys σ H1=>ys=(x.cps.toList.take i).map (fun c=>V.bl (az c))/\ag H H1/\∃v,σ=[v]) ⟨rfl,ag.refl _,_,rfl⟩ (fun i ys σ H1 hi q=>by rw [q.1];simp;omega) ?_ ?_⟩
     ·rintro i c ys σ H1 hc ⟨rfl,hs,v,rfl⟩
      have hc':x.cps.toList[i]?=some c:=by simpa using hc
      have en:(x.cps.toList.take (i + 1)).map (fun c=>V.bl (az c))=(x.cps.toList.take i).map (fun c=>V.bl (az c))++[V.bl (az c)]:=(b4 _ _ _ _ hc')
      refine⟨_,rfl,_,_,rfl,rfl,_,rfl,?_⟩
      show if (!decide ([c] < [97]))=true then _ else _
      by_cases d1:97<=c
      ·refine gY (by rw [lt1];omega) ⟨_,_,rfl,rfl,?_,hs,_,rfl⟩
       show _++[V.bl (!decide ([122] < [c]))]=_
       rw [en]
       have:(!decide ([122] < [c]))=az c:=by
        unfold az
        rw [decide_eq_true d1]
        by_cases d2:c<=122
        ·rw [decide_eq_false (by rw [lt1];omega),decide_eq_true d2];rfl
        ·rw [decide_eq_true (by rw [lt1];omega),decide_eq_false d2];rfl
       rw [this]
      ·refine cD (by rw [lt1];omega) ⟨?_,hs,_,rfl⟩
       rw [en]
       have:az c=false:=by unfold az;rw [decide_eq_false d1];rfl
       rw [this]
     ·rintro ys σ H1 ⟨rfl,hs,v,rfl⟩ p hp
      have ea:(x.cps.toList.take x.length).map (fun c=>V.bl (az c))=(x.cps.toList.map az).map V.bl:=by
       rw [List.take_of_length_le (by simp [Str.length]),List.map_map];rfl
      rw [ea]
      refine⟨p,x.cps.toList.map az,rfl,SqL.of ah,?_⟩
      have e:(x.cps.toList.map az).all id=bc x:=by
       unfold bc
       rw [decide_eq_true c1,decide_eq_true c2,List.all_map];rfl
      rw [e]
      exact k _ (ao hs hp)
    ·refine gY (by omega) ?_
     have e:bc x=false:=by unfold bc;rw [decide_eq_false c2];simp
     exact kF e
   ·refine cb (by omega) ?_
    have e:bc x=false:=by unfold bc;rw [decide_eq_false c1];rfl
    exact⟨_,rfl,am (kF e)⟩
end
theorem aH.or {P:Program}{w:World}{K:PySem.W.Frag}{mg:Str->Option Value}{base:Heap}{CX:CXT}{k:Nat}{f:Addr}{fd:FuncData}{ps:List Str}{sp sp':Sp} (F:aH P w K mg base CX k f fd ps sp) (G:aH P w K mg base CX k f fd ps sp') :
  aH P w K mg base CX k f fd ps (fun vs H Q E=>sp vs H Q E\/sp' vs H Q E) :=
 ⟨fun vs H Q E h=>h.elim (F.len vs H Q E) (G.len vs H Q E),fun A outer s H args us vs Q E hr he hb hv hs=>hs.elim (F.run A outer s H args us vs Q E hr he hb hv) (G.run A outer s H args us vs Q E hr he hb hv)⟩
theorem tO {ss:List Str} (h:∀i (hi:i + 1 < ss.length),nlt ss[i] ss[i + 1]):ss.Pairwise nlt:=by
 rw [List.pairwise_iff_getElem]
 have key:∀(k i:Nat) (hk:i + k + 1 < ss.length),nlt ss[i] (ss[i + k + 1]'hk):=by
  intro k
  induction k with
  | zero=>intro i hk;exact h i hk
  | succ k ih =>
   intro i hk
   have h1:=ih i (by omega)
   have h2:=h (i + k + 1) (by omega)
   exact List.lt_trans h1 h2
 intro i j hi hj hij
 have:=key (j - i - 1) i (by omega)
 have e:i + (j - i - 1) + 1=j:=by omega
 simpa [e] using this
section
variable {P:Program}{w:World}{K:PySem.W.Frag}{mg:Str->Option Value}{base:Heap}
noncomputable def p9 (K:PySem.W.Frag):Sp:=fun vs H Q _=>∃(p:Addr) (ss:List Str),vs=[.ref p]/\Sq K H p (ss.map V.str)/\¬ ss.Pairwise nlt/\ss.length<=1000/\∀H',ag H H'->Q (.bl false) H'
theorem oo {f:Addr}{fd:FuncData} (F:Fun K "is_rising" "is_rising" (top 16) f fd) (B:Bl mg):aH P w K mg base CX0 1 f fd ["names"] (p9 K):=by
 refine F.ok nJ (fun vs H Q E h=>?_) (fun cdv A outer s H vs Q E hr h=>?_)
 ·obtain⟨p,ss,rfl,_⟩:=h
  rfl
 ·obtain⟨p,ss,rfl,hq,hp,hz,k⟩:=h
  refine⟨_,aw (aM (aA (eh rfl) rfl B.all eG (aa (cC (N:=["at","names"]) (ix:=[none,some 0]) ⟨rfl,rfl,rfl,by decide⟩ rfl
   (kU rfl B.range (aa ak (aa (aA bo rfl B.len PySem.boot_len (aa (pv 0) ae)) ae))) (fun _ _ _ _=>bJ 0 (by decide) rfl rfl) (fun _ _ _ _=>bP)
   (fun _ _ _ _=>eV kA (aG (bU K) (pv 1) (ay fb (pv 0) ak) (fun _ _=>rfl)) (aG (bU K) (pv 1) (pv 0) (fun _ _=>rfl)) (aS _))) ae))),?_⟩
  have hz':(ss.map V.str).length<=1000:=by simpa using hz
  let at':Nat->Bool:=fun j=>decide ((ss.getD j default).cps.toList < (ss.getD (j + 1) default).cps.toList)
  refine⟨_,rfl,p,ss.map V.str,rfl,hq,1,_,rfl,⟨by decide,by decide,by omega,by omega⟩,eP (fits (by omega)) (fun i ys σ H1=>ys=((List.range i).map at').map V.bl/\ag H H1/\∃v,σ=[v,some (.ref p)])
   ⟨rfl,ag.refl _,_,rfl⟩ (fun i ys σ H1 _ q=>by rw [q.1];simp) ?_ ?_⟩
  ·rintro i ys σ H1 hi ⟨rfl,hs,v,rfl⟩
   have hl:i + 1 < ss.length:=by rw [List.length_map] at hi;omega
   refine⟨_,rfl,_,rfl,_,_,rfl,rfl,aK (j:=i) (hq.same hs) (by omega) (strAt (by omega)) ⟨_,rfl,_,rfl,aK (j:=i + 1) (hq.same hs) (by push_cast;omega) (strAt hl) ⟨_,_,rfl,rfl,?_,hs,_,rfl⟩⟩⟩
   have e1:ss.getD i default=ss[i]:=by rw [List.getD_eq_getElem?_getD,List.getElem?_eq_getElem (by omega)];rfl
   have e2:ss.getD (i + 1) default=ss[i + 1]:=by rw [List.getD_eq_getElem?_getD,List.getElem?_eq_getElem hl];rfl
   show _++[V.bl (decide (ss[i].cps.toList < ss[i + 1].cps.toList))]=_
   rw [List.range_succ,List.map_append,List.map_append]
   show _=_++[V.bl (decide ((ss.getD i default).cps.toList < (ss.getD (i + 1) default).cps.toList))]
   rw [e1,e2]
  ·rintro ys σ H1 ⟨rfl,hs,v,rfl⟩ q hqn
   refine⟨q,_,rfl,SqL.of ah,?_⟩
   have e:(((List.range (((ss.map V.str).length:Int) - 1).toNat).map at').all id)=false:=by
    cases c:(((List.range (((ss.map V.str).length:Int) - 1).toNat).map at').all id) with
    | false=>rfl
    | true =>
     refine absurd (tO fun i hi=>?_) hp
     have:=List.all_eq_true.mp c (at' i) (List.mem_map.mpr ⟨i,List.mem_range.mpr (by rw [List.length_map];omega),rfl⟩)
     have h2:(ss.getD i default).cps.toList < (ss.getD (i + 1) default).cps.toList:=of_decide_eq_true this
     have e1:ss.getD i default=ss[i]:=by rw [List.getD_eq_getElem?_getD,List.getElem?_eq_getElem (by omega)];rfl
     have e2:ss.getD (i + 1) default=ss[i + 1]:=by rw [List.getD_eq_getElem?_getD,List.getElem?_eq_getElem hi];rfl
     rw [e1,e2] at h2
     exact h2
   rw [e]
   exact k _ (ao hs hqn)
noncomputable def cW (ss:List Str):Bool:=@decide (ss.Pairwise nlt) (Classical.propDecidable _)
theorem gR {ss:List Str}:cW ss=true ↔ ss.Pairwise nlt:=@decide_eq_true_iff _ (Classical.propDecidable _)
theorem uh {ss:List Str} (h:¬ ss.Pairwise nlt):cW ss=false:=@decide_eq_false _ (Classical.propDecidable _) h
noncomputable def iQ (K:PySem.W.Frag):Sp:=fun vs H Q _=>∃(p:Addr) (ss:List Str),vs=[.ref p]/\Sq K H p (ss.map V.str)/\ss.length<=1000/\∀H',ag H H'->Q (.bl (cW ss)) H'
theorem pK {f:Addr}{fd:FuncData} (F:Fun K "is_rising" "is_rising" (top 16) f fd) (B:Bl mg):aH P w K mg base CX0 1 f fd ["names"] (iQ K) :=
 (aH.or (oN F B) (oo F B)).imp fun vs H Q E h=>by
  obtain⟨p,ss,e,hq,hz,k⟩:=h
  by_cases c:ss.Pairwise nlt
  ·exact .inl ⟨p,ss,e,hq,c,hz,fun H' s=>by have:=k H' s;rw [gR.mpr c] at this;exact this⟩
  ·exact .inr ⟨p,ss,e,hq,c,hz,fun H' s=>by have:=k H' s;rw [uh c] at this;exact this⟩
noncomputable def dg (ds:List PyData):List Str:=ds.filterMap fun | .str s=>some s | _=>none
theorem ek (ss:List Str):dg (ss.map PyData.str)=ss:=by
 unfold dg
 induction ss with
 | nil=>rfl
 | cons s r ih=>rw [List.map_cons,List.filterMap_cons];simp only [ih]
noncomputable def bH:PyData->Bool
 | .tuple ds=>ds.all bq && cW (dg ds)
 | _=>false
theorem qE {d:PyData} (h:bH d=true):∃ss:List Str,d=.tuple (ss.map PyData.str)/\(∀x∈ss,aB x)/\ss.Pairwise nlt:=by
 cases d with
 | tuple ds =>
  unfold bH at h
  rw [Bool.and_eq_true] at h
  obtain⟨ss,rfl,hs⟩:=kN h.1
  exact⟨ss,rfl,hs,by have:=gR.mp h.2;rwa [ek] at this⟩
 | _=>cases h
noncomputable def iT:Sp:=fun vs H Q _=>∃(x:V) (d:PyData),vs=[x]/\DV H x d/\Dok d/\∀H',ag H H'->Q (.bl (bH d)) H'
theorem vC:aR ["thing"] ["thing"] (aI (top 17)):=⟨rfl,rfl,rfl,by decide +kernel,rfl,by decide +kernel,by decide +kernel⟩
theorem pN {f:Addr}{fd:FuncData} (F:Fun K "is_sorted_names" "is_sorted_names" (top 17) f fd) (B:Bl mg) (F1:Fn P w K mg base 1 "is_name" ["thing"] jd) (F2:Fn P w K mg base 1 "is_rising" ["names"] (iQ K)) :
  aH P w K mg base CX0 2 f fd ["thing"] iT:=by
 refine F.ok vC (fun vs H Q E h=>?_) (fun cdv A outer s H vs Q E hr h=>?_)
 ·obtain⟨x,d,rfl,_⟩:=h
  rfl
 ·obtain⟨x,d,rfl,hx,hd,k⟩:=h
  refine⟨_,aq (bh (bQ (bN (aA (dE (T:="tuple")) rfl B.isinstance bG (aa (pv 0) (aa (dn (v:=.ty "tuple") rfl B.tuple cM rfl) ae))))) (aw (aM cy)) bp)
   (aw (aM (dq (aA (eh rfl) rfl B.all eG (aa (cC (N:=["name"]) (ix:=[none]) ⟨rfl,rfl,rfl,by decide⟩ rfl (ez (pv 0)) (fun _ _ _ _=>bJ 0 (by decide) rfl rfl) (fun _ _ _ _=>bP)
    (fun _ _ _ _=>aC F1 hr (aa (pv 0) ae))) ae)) (fe (aC F2 hr (aa (pv 0) ae)))))),?_⟩
  have kF:bH d=false->Q (.bl false) H:=fun e=>by have:=k H (ag.refl _);rw [e] at this;exact this
  cases hx with
  | non=>exact⟨_,rfl,_,_,false,rfl,.non,rfl,false,rfl,am (kF rfl)⟩
  | int i=>exact⟨_,rfl,_,_,false,rfl,.int i,rfl,false,rfl,am (kF rfl)⟩
  | bl b=>exact⟨_,rfl,_,_,false,rfl,.bl b,rfl,false,rfl,am (kF rfl)⟩
  | str z=>exact⟨_,rfl,_,_,false,rfl,.str z,rfl,false,rfl,am (kF rfl)⟩
  | lst e _=>exact⟨_,rfl,_,_,false,rfl,.lst e,rfl,false,rfl,am (kF rfl)⟩
  | @tup p xs ds hp q =>
   obtain⟨hz,hds⟩:ds.length<=60/\∀d∈ds,Dok d:=by cases hd with | tup _ a b=>exact⟨a,b⟩
   have hxl:=DVs.len q
   refine⟨_,rfl,_,_,true,rfl,.tup hp,rfl,true,rfl,aL ?_⟩
   refine⟨_,rfl,p,rfl,⟨_,SqT.of hp⟩,iZ (xs:=xs) (fits (by omega)) (fun i ys σ H1=>ys=(ds.take i).map (fun d=>V.bl (bq d))/\ag H H1/\∃v,σ=[v]) ⟨rfl,ag.refl _,_,rfl⟩
    (fun i ys σ H1 _ q=>⟨by rw [q.1];simp;omega,fB q.2.1 (SqT.of hp)⟩) ?_ ?_⟩
   ·rintro i x ys σ H1 hx ⟨rfl,hs1,v,rfl⟩
    obtain⟨d',hd',dv⟩:=DVs.at q hx
    exact⟨_,rfl,x,d',rfl,DV.same hs1 dv,hds d' (List.mem_of_getElem? hd'),fun H2 hs2=>⟨(b4 _ _ _ _ hd').symm,hs1.trans hs2,_,rfl⟩⟩
   ·rintro ys σ H1 ⟨rfl,hs1,v,rfl⟩ r hr'
    have ea:(ds.take xs.length).map (fun d=>V.bl (bq d))=(ds.map bq).map V.bl:=by rw [hxl,List.take_length,List.map_map];rfl
    rw [ea]
    have hs2:=ao (o:=.lst ((ds.map bq).map V.bl)) hs1 hr'
    refine⟨r,ds.map bq,rfl,SqL.of ah,_,rfl,?_⟩
    have e2:(ds.map bq).all id=ds.all bq:=by rw [List.all_map];rfl
    rw [e2]
    cases c:ds.all bq with
    | false =>
     have:=k _ hs2
     have e:bH (.tuple ds)=false:=by show (ds.all bq && _)=false;rw [c];rfl
     rw [e] at this
     exact aL this
    | true =>
     obtain⟨ss,rfl,hss⟩:=kN c
     have ex:=DVs.txt q
     subst ex
     refine am ⟨_,rfl,p,ss,rfl,.inr (fB hs2 (SqT.of hp)),by simp at hz;omega,fun H3 hs3=>?_⟩
     have:=k _ (hs2.trans hs3)
     have e:bH (.tuple (ss.map PyData.str))=cW ss:=by show ((ss.map PyData.str).all bq && cW (dg _))=_;rw [c,ek];rfl
     rw [e] at this
     exact this
noncomputable def eB (d:PyData) (ss:List Str):Bool:=match d with | .str s=>decide (s∈ss) | _=>false
noncomputable def lw (K:PySem.W.Frag):Sp:=fun vs H Q _=>∃(x:V) (d:PyData) (p:Addr) (ss:List Str),vs=[x,.ref p]/\DV H x d/\Sq K H p (ss.map V.str)/\Q (.bl (eB d ss)) H
theorem vq:aR ["thing","names"] ["thing","names"] (aI (top 18)):=⟨rfl,rfl,rfl,by decide +kernel,rfl,by decide +kernel,by decide +kernel⟩
theorem qL {f:Addr}{fd:FuncData} (F:Fun K "is_among" "is_among" (top 18) f fd) (B:Bl mg):aH P w K mg base CX0 1 f fd ["thing","names"] (lw K):=by
 refine F.ok vq (fun vs H Q E h=>?_) (fun cdv A outer s H vs Q E hr h=>?_)
 ·obtain⟨x,d,p,ss,rfl,_⟩:=h
  rfl
 ·obtain⟨x,d,p,ss,rfl,hx,hp,k⟩:=h
  refine⟨_,aw (aM (dq (aA (dE (T:="str")) rfl B.isinstance bG (aa (pv 0) (aa (dn (v:=.ty "str") rfl B.str gU rfl) ae)))
   (fe (eV iL (pv 0) (pv 1) (by with_unfolding_all rfl))))),?_⟩
  cases hx with
  | non=>exact⟨_,rfl,_,_,false,rfl,.non,rfl,false,rfl,aL k⟩
  | int i=>exact⟨_,rfl,_,_,false,rfl,.int i,rfl,false,rfl,aL k⟩
  | bl b=>exact⟨_,rfl,_,_,false,rfl,.bl b,rfl,false,rfl,aL k⟩
  | tup e _=>exact⟨_,rfl,_,_,false,rfl,.tup e,rfl,false,rfl,aL k⟩
  | lst e _=>exact⟨_,rfl,_,_,false,rfl,.lst e,rfl,false,rfl,aL k⟩
  | str x =>
   refine⟨_,rfl,_,_,true,rfl,.str x,rfl,true,rfl,am ⟨_,rfl,_,rfl,p,ss.map V.str,rfl,hp,rfl,ed ss,?_⟩⟩
   show Q (.bl (inV (.str x) (ss.map V.str))) H
   rw [eo]
   exact k
end
noncomputable def bF (ps:List Str):PyData->Bool
 | .tuple [a,.str s,.str t]=>bq a && (decide (s∈ps) && (decide (t∈ps) && !decide (s=t)))
 | _=>false
theorem mP {ps:List Str}{d:PyData} (h:bF ps d=true):∃n s t:Str,d=.tuple [.str n,.str s,.str t]/\aB n/\s∈ps/\t∈ps/\s≠t:=by
 unfold bF at h
 split at h
 ·rename_i a s t
  simp only [Bool.and_eq_true,decide_eq_true_eq,Bool.not_eq_true',decide_eq_false_iff_not] at h
  obtain⟨n,rfl,hn⟩:=km h.1
  exact⟨n,s,t,rfl,hn,h.2.1,h.2.2.1,h.2.2.2⟩
 ·cases h
theorem rH {ps:List Str}{ds:List PyData} (h:ds.length≠3):bF ps (.tuple ds)=false:=by
 unfold bF
 split
 ·rename_i e;cases e;exact absurd rfl h
 ·rfl
noncomputable def neD:PyData->PyData->Bool
 | .str s,.str t=>!decide (s=t)
 | _,_=>false
theorem tV {ps:List Str} (a b e:PyData):bF ps (.tuple [a,b,e])=(bq a && (eB b ps && (eB e ps && neD b e))):=by
 cases b with
 | str s =>
  cases e with
  | str t=>rfl
  | _=>show false=(bq a && (decide (s∈ps) && (false && _)));simp
 | _=>show false=(bq a && (false && _));simp
section
variable {P:Program}{w:World}{K:PySem.W.Frag}{mg:Str->Option Value}{base:Heap}
noncomputable def mW:Sp:=fun vs H Q _=>∃(x:V) (d:PyData) (q:Addr) (ps:List Str),vs=[x,.ref q]/\DV H x d/\Dok d/\H q=some (.tup (ps.map V.str))/\∀H',ag H H'->Q (.bl (bF ps d)) H'
theorem ig:aR ["thing","places","name","start","end"] ["thing","places"] (aI (top 19)):=⟨rfl,rfl,rfl,by decide +kernel,rfl,by decide +kernel,by decide +kernel⟩
theorem tq {f:Addr}{fd:FuncData} (F:Fun K "is_tie_row" "is_tie_row" (top 19) f fd) (B:Bl mg) (F1:Fn P w K mg base 1 "is_name" ["thing"] jd) (F2:Fn P w K mg base 1 "is_among" ["thing","names"] (lw K)) :
  aH P w K mg base CX0 2 f fd ["thing","places"] mW:=by
 refine F.ok ig (fun vs H Q E h=>?_) (fun cdv A outer s H vs Q E hr h=>?_)
 ·obtain⟨x,d,q,ps,rfl,_⟩:=h
  rfl
 ·obtain⟨x,d,q,ps,rfl,hx,hd,hq,k⟩:=h
  refine⟨_,aq (bh (PW.pt (bW (bQ (bN (aA (dE (T:="tuple")) rfl B.isinstance bG (aa (pv 0) (aa (dn (v:=.ty "tuple") rfl B.tuple cM rfl) ae)))))
    (cP (aO cB (aA bo rfl B.len PySem.boot_len (aa (pv 0) ae)) ak (aS _))))) (aw (aM cy)) bp)
   (aq (eA (pv 0) (fQ rfl (n:=3) (cm (bw (i:=2) ig.nd rfl (Or.inl rfl)) (cm (bw (i:=3) ig.nd rfl (Or.inl rfl)) (cm (bw (i:=4) ig.nd rfl (Or.inl rfl)) fG)))))
   (aw (aM (dq (aC F1 hr (aa (pv 2) ae)) (dq (aC F2 hr (aa (pv 3) (aa (pv 1) ae))) (dq (aC F2 hr (aa (pv 4) (aa (pv 1) ae))) (fe (eV cB (pv 3) (pv 4) (aS _))))))))),?_⟩
  have kF:bF ps d=false->∀H',ag H H'->Q (.bl false) H':=fun e H' s=>by have:=k H' s;rw [e] at this;exact this
  cases hx with
  | non=>exact⟨_,rfl,_,_,false,rfl,.non,rfl,false,rfl,am (am (kF rfl H (ag.refl _)))⟩
  | int i=>exact⟨_,rfl,_,_,false,rfl,.int i,rfl,false,rfl,am (am (kF rfl H (ag.refl _)))⟩
  | bl b=>exact⟨_,rfl,_,_,false,rfl,.bl b,rfl,false,rfl,am (am (kF rfl H (ag.refl _)))⟩
  | str z=>exact⟨_,rfl,_,_,false,rfl,.str z,rfl,false,rfl,am (am (kF rfl H (ag.refl _)))⟩
  | lst e _=>exact⟨_,rfl,_,_,false,rfl,.lst e,rfl,false,rfl,am (am (kF rfl H (ag.refl _)))⟩
  | @tup p xs ds hp' qs =>
   have hxl:=DVs.len qs
   refine⟨_,rfl,_,_,true,rfl,.tup hp',rfl,true,rfl,aL ⟨_,rfl,p,_,rfl,.inr (SqT.of hp'),rfl,_,rfl,?_⟩⟩
   by_cases c:ds.length=3
   ·obtain⟨a,b,e,rfl⟩:∃a b e,ds=[a,b,e]:=by
     match ds,c with
     | [a,b,e],_=>exact⟨a,b,e,rfl⟩
    cases qs with
    | @cons x1 _ _ _ d1 r =>
     cases r with
     | @cons x2 _ _ _ d2 r =>
      cases r with
      | @cons x3 _ _ _ d3 r =>
       cases r
       obtain⟨k1,k2,k3⟩:Dok a/\Dok b/\Dok e:=by cases hd with | tup _ _ z=>exact⟨z _ (by simp),z _ (by simp),z _ (by simp)⟩
       refine cD rfl ?_
       refine⟨_,rfl,p,_,rfl,SqT.of hp',rfl,_,_,rfl,_,_,rfl,_,_,rfl,rfl,?_⟩
       rw [tV] at k
       refine⟨_,rfl,x1,a,rfl,d1,k1,fun H1 s1=>⟨bq a,rfl,?_⟩⟩
       cases n1:bq a with
       | false=>rw [n1] at k;exact aL (k H1 s1)
       | true =>
        rw [n1] at k
        refine am ⟨_,rfl,_,rfl,x2,b,q,ps,rfl,DV.same s1 d2,.inr (fB s1 (SqT.of hq)),eB b ps,rfl,?_⟩
        cases n2:eB b ps with
        | false=>rw [n2] at k;exact aL (k H1 s1)
        | true =>
         rw [n2] at k
         refine am ⟨_,rfl,_,rfl,x3,e,q,ps,rfl,DV.same s1 d3,.inr (fB s1 (SqT.of hq)),eB e ps,rfl,?_⟩
         cases n3:eB e ps with
         | false=>rw [n3] at k;exact aL (k H1 s1)
         | true =>
          rw [n3] at k
          refine am ?_
          cases d2 with
          | str s' =>
           cases d3 with
           | str t' =>
            refine⟨_,rfl,_,rfl,rfl,?_⟩
            have e:(!decide (V.str s'=V.str t'))=neD (PyData.str s') (PyData.str t'):=by
             show _=!decide (s'=t')
             by_cases z:s'=t'
             ·subst z;simp
             ·rw [decide_eq_false (fun w=>z (V.str.inj w)),decide_eq_false z]
            rw [e]
            exact k H1 s1
           | _=>cases n3
          | _=>cases n2
   ·refine gY (fun z=>c ?_) (kF (rH c) H (ag.refl _))
    have:=V.int.inj z
    rw [hxl] at this
    omega
end
noncomputable def dh:PyData->List PyData
 | .tuple ds=>ds
 | _=>[]
noncomputable def mH:PyData->Bool
 | .tuple _=>true
 | _=>false
noncomputable def cS:PyData->Str
 | .tuple (.str n::_)=>n
 | _=>""
noncomputable def dW:PyData->Bool
 | .tuple [a,b]=>bH a && (!(dh a).isEmpty && (mH b && ((dh b).all (bF (dg (dh a))) && cW ((dh b).map cS))))
 | _=>false
theorem rE {ds:List PyData} (h:ds.length≠2):dW (.tuple ds)=false:=by
 unfold dW
 split
 ·rename_i e;cases e;exact absurd rfl h
 ·rfl
theorem uz {H:Hp}{ps:List Str}:∀{xs:List V}{ds:List PyData},DVs H xs ds->ds.all (bF ps)=true->∀{i:Nat}{x:V},xs[i]?=some x->∃(d:PyData) (a:Addr) (ys:List V),ds[i]?=some d/\x=.ref a/\H a=some (.tup (V.str (cS d)::ys)):=by
 intro xs ds q h i x hx
 obtain⟨d,hd,dv⟩:=DVs.at q hx
 obtain⟨n,s,t,rfl,hn,_⟩:=mP (List.all_eq_true.mp h d (List.mem_of_getElem? hd))
 cases dv with
 | @tup a ys _ e r =>
  cases r with
  | cons r1 r2 =>
   cases r1
   exact⟨_,a,_,hd,rfl,e⟩
section
variable {P:Program}{w:World}{K:PySem.W.Frag}{mg:Str->Option Value}{base:Heap}
noncomputable def mJ:Sp:=fun vs H Q _=>(∃(x:V) (d:PyData),vs=[x]/\DV H x d/\Dok d/\∀H',ag H H'->Q (.bl (dW d)) H')\/∃a:Addr,vs=[.ref a]/\H a=some (.dK [])/\Q (.bl false) H
theorem jM:aR ["thing","places","rows"] ["thing"] (aI (top 20)):=⟨rfl,rfl,rfl,by decide +kernel,rfl,by decide +kernel,by decide +kernel⟩
theorem sQ {f:Addr}{fd:FuncData} (F:Fun K "is_web" "is_web" (top 20) f fd) (B:Bl mg) (F1:Fn P w K mg base 2 "is_sorted_names" ["thing"] iT) (F2:Fn P w K mg base 2 "is_tie_row" ["thing","places"] mW)
  (F3:Fn P w K mg base 1 "is_rising" ["names"] (iQ K)):aH P w K mg base CX0 3 f fd ["thing"] mJ:=by
 refine F.ok jM (fun vs H Q E h=>?_) (fun cdv A outer s H vs Q E hr h=>?_)
 ·rcases h with ⟨x,d,rfl,_⟩ | ⟨a,rfl,_⟩ <;> rfl
 ·have hr1:aN 1 _:=hr.mono (by decide)
  refine⟨_,aq (bh (PW.pt (bW (bQ (bN (aA (dE (T:="tuple")) rfl B.isinstance bG (aa (pv 0) (aa (dn (v:=.ty "tuple") rfl B.tuple cM rfl) ae)))))
    (cP (aO cB (aA bo rfl B.len PySem.boot_len (aa (pv 0) ae)) ak (aS _))))) (aw (aM cy)) bp)
   (aq (eA (pv 0) (fQ rfl (n:=2) (cm (bw (i:=1) jM.nd rfl (Or.inr rfl)) (cm (bw (i:=2) jM.nd rfl (Or.inl rfl)) fG))))
   (aq (bh (PW.pt (bW (bQ (bN (aC F1 hr (aa (pv 1) ae)))) (bW (aO dS (aA bo rfl B.len PySem.boot_len (aa (pv 1) ae)) ak (aS _))
    (cP (bQ (bN (aA (dE (T:="tuple")) rfl B.isinstance bG (aa (pv 2) (aa (dn (v:=.ty "tuple") rfl B.tuple cM rfl) ae))))))))) (aw (aM cy)) bp)
   (aw (aM (dq (aA (eh rfl) rfl B.all eG (aa (cC (N:=["row","places"]) (ix:=[none,some 1]) ⟨rfl,rfl,rfl,by decide⟩ rfl (ez (pv 2)) (fun _ _ _ _=>bJ 0 (by decide) rfl rfl) (fun _ _ _ _=>bP)
    (fun _ _ _ _=>aC F2 hr (aa (pv 0) (aa (pv 1) ae)))) ae))
    (fe (aC F3 hr1 (aa (cC (N:=["row"]) (ix:=[none]) ⟨rfl,rfl,rfl,by decide⟩ rfl (ez (pv 2)) (fun _ _ _ _=>bJ 0 (by decide) rfl rfl) (fun _ _ _ _=>bP)
     (fun _ _ _ _=>aG (bU K) (pv 0) ak (fun _ _=>rfl))) ae)))))))),?_⟩
  rcases h with ⟨x,d,rfl,hx,hd,k⟩ | ⟨a,rfl,ha,k⟩
  rotate_left
  ·exact⟨_,rfl,_,_,false,rfl,.dK ha,rfl,false,rfl,am (am k)⟩
  have kF:dW d=false->∀H',ag H H'->Q (.bl false) H':=fun e H' s=>by have:=k H' s;rw [e] at this;exact this
  cases hx with
  | non=>exact⟨_,rfl,_,_,false,rfl,.non,rfl,false,rfl,am (am (kF rfl H (ag.refl _)))⟩
  | int i=>exact⟨_,rfl,_,_,false,rfl,.int i,rfl,false,rfl,am (am (kF rfl H (ag.refl _)))⟩
  | bl b=>exact⟨_,rfl,_,_,false,rfl,.bl b,rfl,false,rfl,am (am (kF rfl H (ag.refl _)))⟩
  | str z=>exact⟨_,rfl,_,_,false,rfl,.str z,rfl,false,rfl,am (am (kF rfl H (ag.refl _)))⟩
  | lst e _=>exact⟨_,rfl,_,_,false,rfl,.lst e,rfl,false,rfl,am (am (kF rfl H (ag.refl _)))⟩
  | @tup v xs ds hv qs =>
   have hxl:=DVs.len qs
   refine⟨_,rfl,_,_,true,rfl,.tup hv,rfl,true,rfl,aL ⟨_,rfl,v,_,rfl,.inr (SqT.of hv),rfl,_,rfl,?_⟩⟩
   by_cases c:ds.length=2
   rotate_left
   ·refine gY (fun z=>c ?_) (kF (rE c) H (ag.refl _))
    have:=V.int.inj z
    rw [hxl] at this
    omega
   obtain⟨a,b,rfl⟩:∃a b,ds=[a,b]:=by
    match ds,c with
    | [a,b],_=>exact⟨a,b,rfl⟩
   cases qs with
   | @cons x1 _ _ _ d1 r =>
    cases r with
    | @cons x2 _ _ _ d2 r =>
     cases r
     obtain⟨ka,kb⟩:Dok a/\Dok b:=by cases hd with | tup _ _ z=>exact⟨z _ (by simp),z _ (by simp)⟩
     refine cD rfl ?_
     refine⟨_,rfl,v,_,rfl,SqT.of hv,rfl,_,_,rfl,_,_,rfl,rfl,?_⟩
     have ew:dW (.tuple [a,b])=(bH a && (!(dh a).isEmpty && (mH b && ((dh b).all (bF (dg (dh a))) && cW ((dh b).map cS))))):=rfl
     refine⟨_,rfl,x1,a,rfl,d1,ka,fun H1 s1=>⟨bH a,rfl,?_⟩⟩
     cases ca:bH a with
     | false=>exact am (am (kF (by rw [ew,ca];rfl) H1 s1))
     | true =>
      obtain⟨ps,rfl,pnm,pso⟩:=qE ca
      cases d1 with
      | @tup pa ys _ hpa qp =>
       have ex:=DVs.txt qp
       subst ex
       have hpz:ps.length<=60:=by cases ka with | tup _ z _=>simpa using z
       refine aL ⟨_,rfl,pa,_,rfl,.inr (SqT.of (s1 _ _ hpa)),rfl,_,rfl,?_⟩
       have et:dg (dh (.tuple (ps.map PyData.str)))=ps:=ek ps
       cases ps with
       | nil=>exact am (am (kF (by rw [ew,ca];rfl) H1 s1))
       | cons p0 pr =>
        generalize hps:p0::pr=ps at *
        refine cb (fun z=>?_) ?_
        ·have z':=V.int.inj z
         rw [List.length_map,<- hps] at z'
         simp at z'
         omega
        have en:(!(dh (.tuple (ps.map PyData.str))).isEmpty)=true:=by rw [<- hps];rfl
        rw [ca,en,et] at ew
        cases d2 with
        | non=>exact⟨_,rfl,_,_,false,rfl,.non,rfl,false,rfl,am (kF (by rw [ew];rfl) H1 s1)⟩
        | int i=>exact⟨_,rfl,_,_,false,rfl,.int i,rfl,false,rfl,am (kF (by rw [ew];rfl) H1 s1)⟩
        | bl b=>exact⟨_,rfl,_,_,false,rfl,.bl b,rfl,false,rfl,am (kF (by rw [ew];rfl) H1 s1)⟩
        | str z=>exact⟨_,rfl,_,_,false,rfl,.str z,rfl,false,rfl,am (kF (by rw [ew];rfl) H1 s1)⟩
        | lst e _=>exact⟨_,rfl,_,_,false,rfl,.lst (s1 _ _ e),rfl,false,rfl,am (kF (by rw [ew];rfl) H1 s1)⟩
        | @tup ra zs rs hra qr =>
         have hzl:=DVs.len qr
         obtain⟨hrz,hrd⟩:rs.length<=60/\∀d∈rs,Dok d:=by cases kb with | tup _ y z=>exact⟨y,z⟩
         have ew2:dW (.tuple [.tuple (ps.map PyData.str),.tuple rs])=(rs.all (bF ps) && cW (rs.map cS)):=by rw [ew];rfl
         refine⟨_,rfl,_,_,true,rfl,.tup (s1 _ _ hra),rfl,true,rfl,aL ?_⟩
         refine⟨_,rfl,ra,rfl,⟨_,SqT.of (s1 _ _ hra)⟩,iZ (xs:=zs) (fits (by omega)) (fun i ys σ H2=>ys=(rs.take i).map (fun d=>V.bl (bF ps d))/\ag H H2/\∃x,σ=[x,some (.ref pa)]) ⟨rfl,s1,_,rfl⟩
          (fun i ys σ H2 _ q=>⟨by rw [q.1];simp;omega,SqT.of (q.2.1 _ _ hra)⟩) ?_ ?_⟩
         ·rintro i x ys σ H2 hx ⟨rfl,s2,y,rfl⟩
          obtain⟨d',hd',dv⟩:=DVs.at qr hx
          exact⟨_,rfl,_,rfl,x,d',pa,ps,rfl,DV.same s2 dv,hrd d' (List.mem_of_getElem? hd'),s2 _ _ hpa,fun H3 s3=>⟨(b4 _ _ _ _ hd').symm,s2.trans s3,_,rfl⟩⟩
         ·rintro ys σ H2 ⟨rfl,s2,y,rfl⟩ q hqn
          have ea:(rs.take zs.length).map (fun d=>V.bl (bF ps d))=(rs.map (bF ps)).map V.bl:=by rw [hzl,List.take_length,List.map_map];rfl
          rw [ea]
          have s3:=ao (o:=.lst ((rs.map (bF ps)).map V.bl)) s2 hqn
          refine⟨q,rs.map (bF ps),rfl,SqL.of ah,_,rfl,?_⟩
          have e2:(rs.map (bF ps)).all id=rs.all (bF ps):=by rw [List.all_map];rfl
          rw [e2]
          cases cr:rs.all (bF ps) with
          | false=>exact aL (kF (by rw [ew2,cr];rfl) _ s3)
          | true =>
           rw [cr] at ew2
           refine am ⟨_,rfl,ra,rfl,⟨_,SqT.of (s3 _ _ hra)⟩,iZ (xs:=zs) (fits (by omega)) (fun i ys σ H4=>ys=(rs.take i).map (fun d=>V.str (cS d))/\ag H H4/\∃x,σ=[x]) ⟨rfl,s3,_,rfl⟩
            (fun i ys σ H4 _ q=>⟨by rw [q.1];simp;omega,SqT.of (q.2.1 _ _ hra)⟩) ?_ ?_⟩
           ·rintro i x ys σ H4 hx ⟨rfl,s4,z,rfl⟩
            obtain⟨d',a',ys',hd',rfl,ha'⟩:=uz qr cr hx
            exact⟨_,rfl,aK (j:=0) (.inr (SqT.of (s4 _ _ ha'))) rfl rfl ⟨(b4 _ _ _ _ hd').symm,s4,_,rfl⟩⟩
           ·rintro ys σ H4 ⟨rfl,s4,z,rfl⟩ q2 hq2
            have eb:(rs.take zs.length).map (fun d=>V.str (cS d))=(rs.map cS).map V.str:=by rw [hzl,List.take_length,List.map_map];rfl
            rw [eb]
            refine⟨q2,rs.map cS,rfl,.inl (SqL.of ah),by simp;omega,fun H5 s5=>?_⟩
            have:=k H5 ((ao s4 hq2).trans s5)
            rw [ew2] at this
            exact this
end
noncomputable def cut (c:Nat):List Nat->List (List Nat)
 | []=>[[]]
 | x::r=>if x=c then []::cut c r else match cut c r with | []=>[[x]] | p::ps=>(x::p)::ps
theorem dJ (c:Nat):∀l:List Nat,∃p ps,cut c l=p::ps
 | []=>⟨_,_,rfl⟩
 | x::r=>by
  unfold cut
  by_cases h:x=c
  ·rw [if_pos h];exact⟨_,_,rfl⟩
  ·rw [if_neg h]
   obtain⟨p,ps,e⟩:=dJ c r
   rw [e];exact⟨_,_,rfl⟩
theorem eu (c:Nat) (r:List Nat):cut c (c::r)=[]::cut c r:=by
 rw [cut,if_pos rfl]
theorem dm {c x:Nat} (h:x≠c) {r p:List Nat}{ps:List (List Nat)} (e:cut c r=p::ps):cut c (x::r)=(x::p)::ps:=by
 rw [cut,if_neg h,e]
theorem eT (c:Nat):∀l:List Nat,∀p∈cut c l,c∉p
 | [],p,hp=>by
  have e:p=[]:=by simpa [cut] using hp
  rw [e];simp
 | x::r,p,hp=>by
  by_cases h:x=c
  ·subst h
   rw [eu] at hp
   rcases List.mem_cons.mp hp with z | z
   ·rw [z];simp
   ·exact eT x r p z
  ·obtain⟨q,qs,e⟩:=dJ c r
   rw [dm h e] at hp
   have ih:=eT c r
   rw [e] at ih
   rcases List.mem_cons.mp hp with z | z
   ·rw [z]
    intro hc
    rcases List.mem_cons.mp hc with w | w
    ·exact h w.symm
    ·exact ih q List.mem_cons_self w
   ·exact ih p (List.mem_cons_of_mem _ z)
theorem eC (c:Nat):∀l:List Nat,jl c (cut c l)=l
 | []=>rfl
 | x::r=>by
  obtain⟨q,qs,e⟩:=dJ c r
  have ih:=eC c r
  by_cases h:x=c
  ·subst h
   rw [eu,e]
   rw [e] at ih
   show []++x::jl x (q::qs)=_
   rw [ih];rfl
  ·rw [dm h e]
   rw [e] at ih
   cases qs with
   | nil =>
    show x::q=x::r
    have:q=r:=ih
    rw [this]
   | cons y t =>
    show (x::q)++c::jl c (y::t)=x::r
    have:q++c::jl c (y::t)=r:=ih
    rw [List.cons_append,this]
theorem ei (z:Str) (c:Nat):Txt.split z ⟨#[c]⟩≠[]:=by
 unfold Txt.split
 split
 ·simp
 ·split
  ·simp
  ·rw [StrLaws.partsBetween_eq]
   obtain⟨p,r,e⟩:=StrLaws.partsFrom_ne z (⟨#[c]⟩:Str).length 0 (Builtin.Str.occurrences z ⟨#[c]⟩ 0 z.length (z.length + 1))
   rw [e];simp
theorem j2 (z:Str) (c:Nat):(Txt.split z ⟨#[c]⟩).map (fun p=>p.cps.toList)=cut c z.cps.toList:=by
 refine jt (c:=c) _ _ (by simpa using ei z c) ?_ ?_ ?_ ?_
 ·obtain⟨p,ps,e⟩:=dJ c z.cps.toList
  rw [e];simp
 ·intro p hp
  obtain⟨q,hq,rfl⟩:=List.mem_map.mp hp
  exact StrLaws.split_free _ c q hq
 ·exact eT c _
 ·rw [<- gj,StrLaws.join_split,eC]
theorem fJ (c:Nat):∀a b:List Nat,∃(ini:List (List Nat)) (la he:List Nat) (tl:List (List Nat)),cut c a=ini++[la]/\cut c b=he::tl/\cut c (a++b)=ini++(la++he)::tl
 | [],b=>by
  obtain⟨p,ps,e⟩:=dJ c b
  exact⟨[],[],p,ps,rfl,e,by simpa using e⟩
 | x::r,b=>by
  obtain⟨ini,la,he,tl,e1,e2,e3⟩:=fJ c r b
  by_cases h:x=c
  ·subst h
   refine⟨[]::ini,la,he,tl,by rw [eu,e1];rfl,e2,?_⟩
   rw [List.cons_append,eu,e3];rfl
  ·cases ini with
   | nil =>
    refine⟨[],x::la,he,tl,dm h e1,e2,?_⟩
    rw [List.cons_append,dm h (show cut c (r++b)=(la++he)::tl from e3)];rfl
   | cons i0 is =>
    refine⟨(x::i0)::is,la,he,tl,dm h (show cut c r=i0::(is++[la]) from e1),e2,?_⟩
    rw [List.cons_append,dm h (show cut c (r++b)=i0::(is++(la++he)::tl) from e3)];rfl
noncomputable def MB (b:Nat) (l:List Nat):Prop:=∀p∈cut 10 l,p.count 32<=b
theorem MB.parts {b:Nat}{x y:List Nat} (h:MB b (x++y)):MB b x/\MB b y:=by
 obtain⟨ini,la,he,tl,e1,e2,e3⟩:=fJ 10 x y
 unfold MB at h ⊢
 rw [e3] at h
 rw [e1,e2]
 have hm:=h (la++he) (by simp)
 rw [List.count_append] at hm
 refine⟨fun p hp=>?_,fun p hp=>?_⟩
 ·rcases List.mem_append.mp hp with z | z
  ·exact h p (List.mem_append_left _ z)
  ·have e:p=la:=by simpa using z
   subst e;omega
 ·rcases List.mem_cons.mp hp with z | z
  ·subst z;omega
  ·exact h p (List.mem_append_right _ (List.mem_cons_of_mem _ z))
theorem MB.app {b c:Nat}{x y:List Nat} (h:MB b x) (k:MB c y):MB (b + c) (x++y):=by
 obtain⟨ini,la,he,tl,e1,e2,e3⟩:=fJ 10 x y
 unfold MB at h k ⊢
 rw [e3]
 rw [e1] at h
 rw [e2] at k
 have h1:=h la (by simp)
 have k1:=k he (by simp)
 intro p hp
 rcases List.mem_append.mp hp with z | z
 ·have:=h p (List.mem_append_left _ z);omega
 ·rcases List.mem_cons.mp z with z | z
  ·subst z;rw [List.count_append];omega
  ·have:=k p (List.mem_cons_of_mem _ z);omega
theorem MB.mono {b c:Nat}{x:List Nat} (h:MB b x) (hc:b<=c):MB c x:=fun p hp=>Nat.le_trans (h p hp) hc
noncomputable def NL (l:List Nat):Nat:=(cut 10 l).length
theorem gQ (x y:List Nat):NL (x++y) + 1=NL x + NL y:=by
 obtain⟨ini,la,he,tl,e1,e2,e3⟩:=fJ 10 x y
 unfold NL
 rw [e1,e2,e3]
 simp;omega
theorem ux (x:List Nat):1<=NL x:=by
 obtain⟨p,ps,e⟩:=dJ 10 x
 unfold NL
 rw [e];simp
structure TxB (b n m:Nat) (z:Str):Prop where
 mb:MB b z.cps.toList
 nl:NL z.cps.toList<=n
 ln:z.cps.toList.length<=m
 az:∀c∈z.cps.toList,c < 128
theorem TxB.mono {b n m b' n' m':Nat}{z:Str} (h:TxB b n m z) (h1:b<=b') (h2:n<=n') (h3:m<=m'):TxB b' n' m' z :=
 ⟨h.mb.mono h1,Nat.le_trans h.nl h2,Nat.le_trans h.ln h3,h.az⟩
theorem uq (c:Nat):MB 1 [c]/\NL [c]<=2:=by
 unfold MB NL
 by_cases h:c=10
 ·subst h
  rw [eu]
  exact⟨fun p hp=>by simp [cut] at hp;subst hp;simp,by simp [cut]⟩
 ·rw [dm h (show cut 10 []=[]::[] from rfl)]
  exact⟨fun p hp=>by
   have e:p=[c]:=by simpa using hp
   rw [e]
   exact Nat.le_trans (List.count_le_length) (by simp),by simp⟩
theorem TxB.sign {b n m:Nat}{z z':Str} (h:TxB b n m z) {x y u v:List Nat} (e:z.cps.toList=x++u++y) (e':z'.cps.toList=x++v++y) (hv:v.length<=1) (ha:∀c∈v,c < 128):TxB (2 * b + 1) (n + 1) (2 * m + 2) z':=by
 have hm:=h.mb
 have hn:=h.nl
 have hl:=h.ln
 have hz:=h.az
 rw [e] at hm hn hl hz
 have hy:=(MB.parts hm).2
 have hx:=(MB.parts (MB.parts hm).1).1
 have n1:=gQ (x++u) y
 have n2:=gQ x u
 have n3:=ux u
 have hv':MB 1 v/\NL v<=2:=by
  match v,hv with
  | [],_=>exact⟨fun p hp=>by simp [cut] at hp;subst hp;simp,by simp [NL,cut]⟩
  | [c],_=>exact uq c
 have n4:=gQ (x++v) y
 have n5:=gQ x v
 refine⟨?_,?_,?_,?_⟩
 ·rw [e'];exact ((hx.app hv'.1).app hy).mono (by omega)
 ·rw [e'];have:=hv'.2;omega
 ·rw [e'];simp only [List.length_append] at hl ⊢;omega
 ·rw [e'];intro c hc
  rcases List.mem_append.mp hc with w | w
  ·rcases List.mem_append.mp w with q | q
   ·exact hz c (by simp [q])
   ·exact ha c q
  ·exact hz c (by simp [w])
noncomputable def wt (ls:List Str):Nat:=(ls.map fun l=>l.cps.toList.length + 1).sum
theorem bV (a b:List Str):wt (a++b)=wt a + wt b:=by unfold wt;rw [List.map_append,List.sum_append]
theorem el (x:Str) (b:List Str):wt (x::b)=x.cps.toList.length + 1 + wt b:=by unfold wt;rw [List.map_cons,List.sum_cons]
theorem fL (ls:List Str) (i:Nat):wt (ls.take i)<=wt ls:=by
 have:=bV (ls.take i) (ls.drop i);rw [List.take_append_drop] at this;omega
theorem fI (ls:List Str) (i:Nat):wt (ls.drop i)<=wt ls:=by
 have:=bV (ls.take i) (ls.drop i);rw [List.take_append_drop] at this;omega
theorem eK (ls:List Str) {i:Nat}{x:Str} (h:ls[i]?=some x):wt (ls.take i) + (x.cps.toList.length + 1) + wt (ls.drop (i + 1))=wt ls:=by
 obtain⟨hi,e⟩:=List.getElem?_eq_some_iff.mp h
 have e1:ls=ls.take i++x::ls.drop (i + 1):=by rw [<- e,List.getElem_cons_drop,List.take_append_drop]
 have:=congrArg wt e1
 rw [bV,el] at this
 omega
theorem mF (ls:List Str) {i:Nat}{x y:Str} (h:ls[i]?=some x):wt (ls.set i y) + x.cps.toList.length=wt ls + y.cps.toList.length:=by
 obtain⟨hi,e⟩:=List.getElem?_eq_some_iff.mp h
 have:=eK ls h
 rw [List.set_eq_take_append_cons_drop,if_pos hi,bV,el]
 omega
theorem fS (c:Nat):∀ls:List Str,ls≠[]->(jl c (ls.map fun p=>p.cps.toList)).length + 1=wt ls
 | [],h=>absurd rfl h
 | [x],_=>by show x.cps.toList.length + 1=_;rw [el];rfl
 | x::y::r,_=>by
  have ih:=fS c (y::r) (by simp)
  show (x.cps.toList++c::jl c ((y::r).map fun p=>p.cps.toList)).length + 1=_
  rw [el,List.length_append,List.length_cons]
  omega
theorem gN {c d:Nat}:∀{ls:List (List Nat)},d∈jl c ls->d=c\/∃l∈ls,d∈l
 | [],h=>by cases h
 | [x],h=>.inr ⟨x,by simp,h⟩
 | x::y::r,h=>by
  have h':d∈x++c::jl c (y::r):=h
  rcases List.mem_append.mp h' with z | z
  ·exact .inr ⟨x,by simp,z⟩
  ·rcases List.mem_cons.mp z with w | w
   ·exact .inl w
   ·rcases gN w with q | ⟨l,hl,q⟩
    ·exact .inl q
    ·exact .inr ⟨l,List.mem_cons_of_mem _ hl,q⟩
theorem iW {c:Nat}:∀{ls:List (List Nat)},(∀l∈ls,c∉l)->(jl c ls).count c<=ls.length - 1
 | [],_=>by simp [jl]
 | [x],h=>by
  show x.count c<=_
  rw [List.count_eq_zero.mpr (h x (by simp))];exact Nat.zero_le _
 | x::y::r,h=>by
  have ih:=iW (ls:=y::r) fun l hl=>h l (List.mem_cons_of_mem _ hl)
  show (x++c::jl c (y::r)).count c<=_
  rw [List.count_append,List.count_cons_self,List.count_eq_zero.mpr (h x (by simp))]
  simp only [List.length_cons] at ih ⊢
  omega
theorem kX (c:Nat):∀l:List Nat,(cut c l).length=l.count c + 1
 | []=>rfl
 | x::r=>by
  have ih:=kX c r
  by_cases h:x=c
  ·subst h
   rw [eu,List.count_cons_self,List.length_cons,ih]
  ·obtain⟨p,ps,e⟩:=dJ c r
   rw [dm h e,List.count_cons_of_ne h,<- ih,e]
   rfl
theorem lX (c:Nat) (ls:List Str):(Txt.join ⟨#[c]⟩ ls).cps.toList=jl c (ls.map fun p=>p.cps.toList):=by
 rw [show Txt.join ⟨#[c]⟩ ls=Str.join ⟨#[c]⟩ ls from StrLaws.glued_eq_join _ _,gj]
structure Ln (b:Nat) (l:Str):Prop where
 nf:10∉l.cps.toList
 bl:l.cps.toList.count 32<=b
 az:∀c∈l.cps.toList,c < 128
theorem Ln.mono {b c:Nat}{l:Str} (h:Ln b l) (k:b<=c):Ln c l:=⟨h.nf,Nat.le_trans h.bl k,h.az⟩
structure Ls (b n m:Nat) (ls:List Str):Prop where
 ln:∀l∈ls,Ln b l
 n:ls.length<=n
 m:wt ls<=m
theorem kj (z:Str):(Txt.split z feed).map (fun p=>p.cps.toList)=cut 10 z.cps.toList:=by
 rw [fF];exact j2 z 10
theorem oY (z:Str):(Txt.split z blank).map (fun p=>p.cps.toList)=cut 32 z.cps.toList:=by
 rw [blank_mk];exact j2 z 32
theorem TxB.ls {b n m:Nat}{z:Str} (h:TxB b n m z):Ls b n (m + 1) (Txt.split z feed):=by
 have e:=kj z
 have ne:Txt.split z feed≠[]:=by rw [fF];exact ei z 10
 refine⟨fun l hl=>?_,?_,?_⟩
 ·have hm:l.cps.toList∈cut 10 z.cps.toList:=by rw [<- e];exact List.mem_map_of_mem hl
  refine⟨eT 10 _ _ hm,h.mb _ hm,fun c hc=>?_⟩
  refine h.az c ?_
  have:z.cps.toList=jl 10 (cut 10 z.cps.toList):=(eC 10 _).symm
  rw [this]
  generalize cut 10 z.cps.toList=ps at hm
  clear this e ne hl
  induction ps with
  | nil=>cases hm
  | cons x r ih =>
   cases r with
   | nil =>
    have q:l.cps.toList=x:=by simpa using hm
    show c∈x
    rw [<- q];exact hc
   | cons y t =>
    show c∈x++10::jl 10 (y::t)
    rcases List.mem_cons.mp hm with q | q
    ·rw [<- q];exact List.mem_append_left _ hc
    ·exact List.mem_append_right _ (List.mem_cons_of_mem _ (ih q))
 ·have q:=congrArg List.length e
  rw [List.length_map] at q
  rw [q];exact h.nl
 ·have q:=fS 10 _ ne
  rw [e,eC] at q
  have:=h.ln
  omega
theorem Ls.text {b n m:Nat}{ls:List Str} (h:Ls b n (m + 1) ls) (hn:1<=n):TxB b n m (Txt.join feed ls):=by
 have e:(Txt.join feed ls).cps.toList=jl 10 (ls.map fun p=>p.cps.toList):=by rw [fF];exact lX 10 ls
 cases ls with
 | nil =>
  have e0:(Txt.join feed []).cps.toList=[]:=e
  refine⟨?_,?_,?_,?_⟩ <;> rw [e0]
  ·intro p hp;simp [cut] at hp;subst hp;simp
  ·simpa [NL,cut] using hn
  ·exact Nat.zero_le _
  ·intro c hc;cases hc
 | cons x r =>
  have ec:cut 10 (jl 10 ((x::r).map fun p=>p.cps.toList))=(x::r).map fun p=>p.cps.toList:=by
   refine jt (c:=10) _ _ ?_ (by simp) (eT 10 _) ?_ (eC 10 _)
   ·obtain⟨p,ps,q⟩:=dJ 10 (jl 10 ((x::r).map fun p=>p.cps.toList))
    rw [q];simp
   ·intro p hp
    obtain⟨l,hl,rfl⟩:=List.mem_map.mp hp
    exact (h.ln l hl).nf
  have hl:=fS 10 (x::r) (by simp)
  refine⟨?_,?_,?_,?_⟩ <;> rw [e]
  ·intro p hp
   rw [ec] at hp
   obtain⟨l,hl,rfl⟩:=List.mem_map.mp hp
   exact (h.ln l hl).bl
  ·unfold NL
   rw [ec,List.length_map];exact h.n
  ·have:=h.m;omega
  ·intro c hc
   rcases gN hc with q | ⟨l,hl,q⟩
   ·omega
   ·obtain⟨l',hl',rfl⟩:=List.mem_map.mp hl
    exact (h.ln l' hl').az c q
theorem Ls.of {b n m:Nat}{ls ls':List Str} (h:Ls b n m ls) (hm:∀l∈ls',l∈ls) (hn:ls'.length<=n + 1) (hw:wt ls'<=2 * wt ls):Ls (2 * b + 1) (n + 1) (2 * m) ls' :=
 ⟨fun l hl=>(h.ln l (hm l hl)).mono (by omega),hn,Nat.le_trans hw (by have:=h.m;omega)⟩
theorem Ls.put {b n m:Nat}{ls:List Str}{i:Nat}{l l':Str} (h:Ls b n m ls) (hi:ls[i]?=some l) (h1:Ln (b + 1) l') (h2:l'.cps.toList.length<=2 * l.cps.toList.length + 1):Ls (2 * b + 1) (n + 1) (2 * m) (ls.take i++[l']++ls.drop (i + 1)):=by
 have hl:=(List.getElem?_eq_some_iff.mp hi).1
 have hw:=eK ls hi
 refine⟨fun x hx=>?_,?_,?_⟩
 ·rcases List.mem_append.mp hx with z | z
  ·rcases List.mem_append.mp z with q | q
   ·exact (h.ln x (List.mem_of_mem_take q)).mono (by omega)
   ·have e:x=l':=by simpa using q
    rw [e];exact h1.mono (by omega)
  ·exact (h.ln x (List.mem_of_mem_drop z)).mono (by omega)
 ·have:=h.n
  simp only [List.length_append,List.length_take,List.length_drop,List.length_cons,List.length_nil]
  omega
 ·rw [bV,bV,el]
  have:=h.m
  show wt (ls.take i) + (l'.cps.toList.length + 1 + 0) + wt (ls.drop (i + 1))<=_
  omega
theorem Ln.words {b:Nat}{l:Str} (h:Ln b l):(Txt.split l blank).length<=b + 1/\wt (Txt.split l blank)=l.cps.toList.length + 1/\∀x∈Txt.split l blank,32∉x.cps.toList/\∀c∈x.cps.toList,c∈l.cps.toList:=by
 have e:=oY l
 have ne:Txt.split l blank≠[]:=by rw [blank_mk];exact ei l 32
 refine⟨?_,?_,fun x hx=>?_⟩
 ·have q:=congrArg List.length e
  rw [List.length_map,kX] at q
  have:=h.bl;omega
 ·have q:=fS 32 _ ne
  rw [e,eC] at q
  omega
 ·have hm:x.cps.toList∈cut 32 l.cps.toList:=by rw [<- e];exact List.mem_map_of_mem hx
  refine⟨eT 32 _ _ hm,fun c hc=>?_⟩
  have:l.cps.toList=jl 32 (cut 32 l.cps.toList):=(eC 32 _).symm
  rw [this]
  generalize cut 32 l.cps.toList=ps at hm
  clear this e ne hx
  induction ps with
  | nil=>cases hm
  | cons y r ih =>
   cases r with
   | nil =>
    have q:x.cps.toList=y:=by simpa using hm
    show c∈y
    rw [<- q];exact hc
   | cons y' t =>
    show c∈y++32::jl 32 (y'::t)
    rcases List.mem_cons.mp hm with q | q
    ·rw [<- q];exact List.mem_append_left _ hc
    ·exact List.mem_append_right _ (List.mem_cons_of_mem _ (ih q))
theorem Ln.row {b:Nat}{l:Str} (h:Ln b l) {ws:List Str} (hm:∀x∈ws,x∈Txt.split l blank) (hn:ws.length<=(Txt.split l blank).length + 1) (hw:wt ws<=2 * wt (Txt.split l blank)) :
  Ln (b + 1) (Txt.join blank ws)/\(Txt.join blank ws).cps.toList.length<=2 * l.cps.toList.length + 1:=by
 obtain⟨w1,w2,w3⟩:=h.words
 have e:(Txt.join blank ws).cps.toList=jl 32 (ws.map fun p=>p.cps.toList):=by rw [blank_mk];exact lX 32 ws
 have mem:∀c∈jl 32 (ws.map fun p=>p.cps.toList),c=32\/c∈l.cps.toList:=fun c hc=>by
  rcases gN hc with q | ⟨y,hy,q⟩
  ·exact .inl q
  ·obtain⟨x,hx,rfl⟩:=List.mem_map.mp hy
   exact .inr ((w3 x (hm x hx)).2 c q)
 refine⟨⟨?_,?_,?_⟩,?_⟩ <;> rw [e]
 ·intro hc
  rcases mem 10 hc with q | q
  ·cases q
  ·exact h.nf q
 ·have q:=iW (c:=32) (ls:=ws.map fun p=>p.cps.toList) fun y hy=>by
   obtain⟨x,hx,rfl⟩:=List.mem_map.mp hy
   exact (w3 x (hm x hx)).1
  rw [List.length_map] at q
  omega
 ·intro c hc
  rcases mem c hc with q | q
  ·omega
  ·exact h.az c q
 ·cases ws with
  | nil=>exact Nat.zero_le _
  | cons x r =>
   have:=fS 32 (x::r) (by simp)
   omega
noncomputable def dj (x:V) (H:Hp):Prop:=(∃d,DV H x d/\∀s,d≠.str s)\/∃a,x=.ref a/\H a=some (.dK [])
theorem dj.same {x:V}{H H':Hp} (h:dj x H) (s:ag H H'):dj x H':=by
 rcases h with ⟨d,a,b⟩ | ⟨a,e,ha⟩
 ·exact .inl ⟨d,DV.same s a,b⟩
 ·exact .inr ⟨a,e,s _ _ ha⟩
noncomputable def lines (z:Str):List (List Str):=(Txt.split z feed).dropLast.map fun l=>Txt.split l blank
noncomputable def df (z:Str):Prop:=(Txt.split z feed).getLast?=some ("":Str)
theorem iG (z:Str):∃ini la,Txt.split z feed=ini++[la]:=by
 have ne:Txt.split z feed≠[]:=by rw [fF];exact ei z 10
 exact⟨_,_,(List.dropLast_concat_getLast ne).symm⟩
section
variable {P:Program}{w:World}{K:PySem.W.Frag}{mg:Str->Option Value}{base:Heap}
noncomputable def iO (CT:Addr):Sp:=fun vs H Q E=>(∃(z:Str) (b n m:Nat),vs=[.str z]/\TxB b n m z/\n<=900/\m<=20000 /\
  (df z->∀(q:Addr) (lr:List (Addr×List Str)) (H':Hp),ag H H'->H' q=some (.lst (aj lr))->cX H' lr->lr.map (·.2)=lines z->Q (.ref q) H') /\
  (¬ df z->∀H',ag H H'->E (.ref CT) none H'))\/∃x,vs=[x]/\dj x H/\E (.ref CT) none H
theorem nP:aR ["text","lines"] ["text"] (aI (top 22)):=⟨rfl,rfl,rfl,by decide +kernel,rfl,by decide +kernel,by decide +kernel⟩
theorem str_len (z:Str):z.length=z.cps.toList.length:=by simp [Str.length]
theorem rY {f CT:Addr}{fd:FuncData} (F:Fun K "lines_in" "lines_in" (top 22) f fd) (B:Bl mg) (hx:mg "NoText"=some (.ref CT)) (hC:dD base CT):aH P w K mg base (CXE P w) 1 f fd ["text"] (iO CT):=by
 refine F.okX nP (fun vs H Q E h=>?_) (fun cdv A outer s H vs Q E hr h=>?_)
 ·rcases h with ⟨z,b,n,m,rfl,_⟩ | ⟨x,rfl,_⟩ <;> rfl
 ·refine⟨_,aq (bh (bQ (bN (aA (dE (T:="str")) rfl B.isinstance bG (aa (pv 0) (aa (dn (v:=.ty "str") rfl B.str gU rfl) ae))))) (aw (eU (W:=fun H=>E (.ref CT) none H) hx hC hr.hd (aa av ae) (fun pins σ H s h' ea args I m hW=>fO I m hW))) bp)
   (aq (aD (i:=1) nP.nd rfl (Or.inl rfl) (bI PySem.F.plainAttrs_str PySem.F.slot_str_split PySem.F.type_str_split eR (pv 0) (aa av ae)))
   (aq (bh (aO cB (aG aP (pv 1) (fW fP ak) (fun _ _=>rfl)) av (aS _)) (aw (eU (W:=fun H=>E (.ref CT) none H) hx hC hr.hd (aa av ae) (fun pins σ H s h' ea args I m hW=>fO I m hW))) bp)
   (aw (aM (cC (N:=["line"]) (ix:=[none]) ⟨rfl,rfl,rfl,by decide⟩ rfl (cn (aZ bA (pv 1) ba (bb (fW fP ak)))) (fun _ _ _ _=>bJ 0 (by decide) rfl rfl) (fun _ _ _ _=>bP)
    (fun _ _ _ _=>ji K PySem.F.plainAttrs_str PySem.F.slot_str_split PySem.F.type_str_split eR (pv 0) (aa av ae))))))),?_⟩
  rcases h with ⟨z,b,n,m,rfl,T,hn,hm,kq,ke⟩ | ⟨x,rfl,hx',k⟩
  ·refine⟨_,rfl,_,_,true,rfl,.str _,rfl,true,rfl,aL ?_⟩
   have hz:=T.ln
   have hls:=T.ls
   refine⟨_,rfl,rfl,z,feed,rfl,rfl,by decide,by rw [sizeLine_eq,str_len];omega,fun p hp=>?_⟩
   obtain⟨ini,la,e⟩:=iG z
   have e1:(Txt.split z feed).map V.str=ini.map V.str++[V.str la]:=by rw [e];simp
   have hel:df z ↔ la="":=by unfold df;rw [e];simp
   have hli:lines z=ini.map fun l=>Txt.split l blank:=by unfold lines;rw [e];simp
   have hil:ini.length<=n:=by have:=hls.n;rw [e] at this;simp at this;omega
   have hlo:∀l∈ini,l.length + 2<=sizeLine:=fun l hl=>by
    have h1:=hls.m
    rw [e,bV] at h1
    obtain⟨i,hi⟩:=List.getElem?_of_mem hl
    have h2:=eK ini hi
    rw [sizeLine_eq,str_len];omega
   rw [e1]
   have s1:=ao (o:=.lst (ini.map V.str++[V.str la])) (ag.refl H) hp
   have p1:upd H p (.lst (ini.map V.str++[V.str la])) p=some (.lst (ini.map V.str++[V.str la])):=ah
   generalize upd H p (.lst (ini.map V.str++[V.str la]))=H1 at s1 p1 ⊢
   refine⟨_,rfl,1,rfl,.inl ⟨p,_,_,.str la,rfl,rfl,SqL.of p1,i4 _ _,rfl,_,rfl,?_⟩⟩
   by_cases hla:la=""
   ·subst hla
    refine cD rfl ?_
    refine⟨_,rfl,1,rfl,_,rfl,p,_,rfl,SqL.of p1,fun q hq=>?_⟩
    rw [lK]
    have s2:=ao (o:=.lst (ini.map V.str)) s1 hq
    have q2:upd H1 q (.lst (ini.map V.str)) q=some (.lst (ini.map V.str)):=ah
    generalize upd H1 q (.lst (ini.map V.str))=H2 at s2 q2 ⊢
    refine⟨q,rfl,⟨_,SqL.of q2⟩,dZ (xs:=ini.map V.str) (fits (by simp;omega)) (fun i ys σ H3=>(∃lr,ys=aj lr/\cX H3 lr/\lr.map (·.2)=(ini.take i).map fun l=>Txt.split l blank)/\ag H2 H3/\∃v,σ=[v]) ⟨⟨[],rfl,by simp [cX],rfl⟩,ag.refl _,_,rfl⟩
     (fun i ys σ H3 _ z=>?_) ?_ ?_⟩
    ·obtain⟨⟨lr,rfl,_,e⟩,s3,_⟩:=z
     have:=congrArg List.length e
     rw [List.length_map,List.length_map,List.length_take] at this
     exact⟨by simp [this];omega,SqL.of (s3 _ _ q2)⟩
    ·rintro i x ys σ H3 hx ⟨⟨lr,rfl,La,e⟩,s3,v,rfl⟩
     rw [List.getElem?_map] at hx
     cases hc:ini[i]? with
     | none=>rw [hc] at hx;cases hx
     | some l =>
      rw [hc] at hx
      cases hx
      refine⟨_,rfl,rfl,l,blank,rfl,rfl,by decide,hlo l (List.mem_of_getElem? hc),fun n hn=>?_⟩
      refine⟨⟨lr++[(n,Txt.split l blank)],by simp [aj],fun y hy=>?_,?_⟩,ao s3 hn,_,rfl⟩
      ·rcases List.mem_append.mp hy with z | z
       ·rw [ai (au (La y z) hn)];exact La y z
       ·have e':y=(n,Txt.split l blank):=by simpa using z
        subst e'
        exact ah
      ·rw [b4 _ _ _ _ hc,List.map_append,e];rfl
    ·rintro ys σ H3 ⟨⟨lr,rfl,La,e⟩,s3,v,rfl⟩ r hr'
     rw [take_all ini (by simp)] at e
     have s4:=ao (o:=.lst (aj lr)) s3 hr'
     exact kq (hel.mpr rfl) r lr _ (s2.trans s4) ah (La.same (ao (ag.refl _) hr')) (by rw [e,hli])
   ·refine dR (fun z=>hla (by cases z;rfl)) ?_
    exact⟨by show 1<=sizeLine;decide,ke (fun z=>hla (hel.mp z)) _ s1⟩
  ·rcases hx' with ⟨d,dv,hd⟩ | ⟨a,rfl,ha⟩
   ·cases dv with
    | non=>exact⟨_,rfl,_,_,false,rfl,.non,rfl,false,rfl,am ⟨by show 1<=sizeLine;decide,k⟩⟩
    | int i=>exact⟨_,rfl,_,_,false,rfl,.int i,rfl,false,rfl,am ⟨by show 1<=sizeLine;decide,k⟩⟩
    | bl b=>exact⟨_,rfl,_,_,false,rfl,.bl b,rfl,false,rfl,am ⟨by show 1<=sizeLine;decide,k⟩⟩
    | tup e _=>exact⟨_,rfl,_,_,false,rfl,.tup e,rfl,false,rfl,am ⟨by show 1<=sizeLine;decide,k⟩⟩
    | lst e _=>exact⟨_,rfl,_,_,false,rfl,.lst e,rfl,false,rfl,am ⟨by show 1<=sizeLine;decide,k⟩⟩
    | str z=>exact absurd rfl (hd z)
   ·exact⟨_,rfl,_,_,false,rfl,.dK ha,rfl,false,rfl,am ⟨by show 1<=sizeLine;decide,k⟩⟩
noncomputable def i3 (CT:Addr):Sp:=fun vs H Q E=>∃(a:Addr) (x y:Str) (ss:List Str),vs=[.str x,.ref a]/\H a=some (.lst ((y::ss).map V.str))/\x.length<=100 /\
 (y=x->∀q H',ag H H'->H' q=some (.tup (ss.map V.str))->Q (.ref q) H')/\(y≠x->E (.ref CT) none H)
theorem vf:aR ["word","words"] ["word","words"] (aI (top 23)):=⟨rfl,rfl,rfl,by decide +kernel,rfl,by decide +kernel,by decide +kernel⟩
theorem qu {f CT:Addr}{fd:FuncData} (F:Fun K "names_behind" "names_behind" (top 23) f fd) (B:Bl mg) (hx:mg "NoText"=some (.ref CT)) (hC:dD base CT):aH P w K mg base (CXE P w) 1 f fd ["word","words"] (i3 CT):=by
 refine F.okX vf (fun vs H Q E h=>?_) (fun cdv A outer s H vs Q E hr h=>?_)
 ·obtain⟨a,x,y,ss,rfl,_⟩:=h
  rfl
 ·obtain⟨a,x,y,ss,rfl,ha,hxl,k,ke⟩:=h
  refine⟨_,aq (bh (aO cB (aG aP (pv 1) ak (fun _ _=>rfl)) (pv 0) (aS _)) (aw (eU (W:=fun H=>E (.ref CT) none H) hx hC hr.hd (aa (ay b5 av (pv 0)) ae) (fun pins σ H s h' ea args I m hW=>fO I m hW))) bp)
   (aw (aM (bT dX rfl B.tuple cM (aa (aZ bA (pv 1) (bb ak) ba) ae)))),?_⟩
  refine⟨_,rfl,aK (j:=0) (.inl (SqL.of ha)) rfl rfl ⟨_,rfl,rfl,_,rfl,?_⟩⟩
  by_cases hy:y=x
  ·subst hy
   refine cD rfl ?_
   refine⟨_,rfl,_,rfl,a,_,rfl,SqL.of ha,fun p hp=>?_⟩
   rw [List.map_cons,dY]
   have s1:=ao (o:=.lst (ss.map V.str)) (ag.refl H) hp
   exact⟨p,_,rfl,.inl ⟨SqL.of ah,fun l hl=>k rfl l _ (ao s1 hl) ah⟩⟩
  ·refine dR (fun z=>hy (by cases z;rfl)) ?_
   refine⟨_,rfl,_,_,rfl,rfl,?_,?_⟩
   ·have e:(Str.ofString "a line does not begin with ").length=27:=by decide
    show (Str.ofString "a line does not begin with ").length + x.length<=sizeLine
    rw [e,sizeLine_eq];omega
   ·exact⟨by show 1<=sizeLine;decide,ke hy⟩
end
noncomputable abbrev wD (ps:List Str) (rs:List (List Str)):PyData:=.tuple [aX ps,.tuple (rs.map aX)]
structure IsW (ps:List Str) (rs:List (List Str)):Prop where
 ne:ps≠[]
 pn:∀x∈ps,aB x
 po:ps.Pairwise nlt
 rn:∀r∈rs,∃n a b,r=[n,a,b]/\aB n/\a∈ps/\b∈ps/\a≠b
 ro:(rs.map fun r=>r.headD "").Pairwise nlt
theorem lI {ps r:List Str}:bF ps (aX r)=true ↔ ∃n a b,r=[n,a,b]/\aB n/\a∈ps/\b∈ps/\a≠b:=by
 constructor
 ·intro h
  obtain⟨n,a,b,e,h1,h2,h3,h4⟩:=mP h
  refine⟨n,a,b,?_,h1,h2,h3,h4⟩
  have e':r.map PyData.str=[n,a,b].map PyData.str:=PyData.tuple.inj e
  have:=congrArg dg e'
  rwa [ek,ek] at this
 ·rintro⟨n,a,b,rfl,h1,h2,h3,h4⟩
  show (bq (.str n) && (decide (a∈ps) && (decide (b∈ps) && !decide (a=b))))=true
  have:bq (.str n)=true:=eO.mpr h1
  simp [this,h2,h3,h4]
theorem qI (r:List Str):cS (aX r)=r.headD "":=by
 cases r <;> rfl
theorem qF {ss:List Str}:(ss.map PyData.str).all bq=true ↔ ∀x∈ss,aB x:=by
 rw [List.all_eq_true]
 constructor
 ·intro h x hx
  exact eO.mp (h (.str x) (List.mem_map_of_mem hx))
 ·intro h d hd
  obtain⟨x,hx,rfl⟩:=List.mem_map.mp hd
  exact eO.mpr (h x hx)
theorem iD {ss:List Str}:bH (aX ss)=true ↔ (∀x∈ss,aB x)/\ss.Pairwise nlt:=by
 show ((ss.map PyData.str).all bq && cW (dg (ss.map PyData.str)))=true ↔ _
 rw [ek,Bool.and_eq_true,qF,gR]
theorem lL {ps:List Str}{rs:List (List Str)}:dW (wD ps rs)=true ↔ IsW ps rs:=by
 show (bH (aX ps) && (!(ps.map PyData.str).isEmpty && (true && ((rs.map aX).all (bF (dg (ps.map PyData.str))) && cW ((rs.map aX).map cS)))))=true ↔ _
 have e1:(rs.map aX).map cS=rs.map fun r=>r.headD "":=by
  rw [List.map_map]
  exact List.map_congr_left fun r _=>qI r
 rw [ek,e1]
 simp only [Bool.and_eq_true,iD,gR,Bool.true_and,List.all_eq_true]
 constructor
 ·rintro⟨⟨h1,h2⟩,h3,h4,h5⟩
  refine⟨fun z=>?_,h1,h2,fun r hr=>lI.mp (h4 _ (List.mem_map_of_mem hr)),h5⟩
  subst z;simp at h3
 ·intro h
  refine⟨⟨h.pn,h.po⟩,?_,fun d hd=>?_,h.ro⟩
  ·cases ps with
   | nil=>exact absurd rfl h.ne
   | cons x r=>rfl
  ·obtain⟨r,hr,rfl⟩:=List.mem_map.mp hd
   exact lI.mpr (h.rn r hr)
structure cV (z:Str) (ps:List Str) (rs:List (List Str)):Prop where
 en:df z
 li:lines z=(("places":Str)::ps)::rs.map fun r=>("tie":Str)::r
 ok:IsW ps rs
structure eD (z:Str) (tl:List (List Str)):Prop where
 en:df z
 li:lines z=tl.map fun r=>("tree":Str)::r
 ok:∀t∈tl,(∀x∈t,aB x)/\t.Pairwise nlt
noncomputable abbrev cJ (z:Str):Prop:=TxB 47 45 16100 z
theorem sF {x:Str} (h:∀c∈x.cps.toList,c < 128):x.cps.all (· < 128)=true:=by
 rw [Array.all_eq_true']
 intro c hc
 have:=h c (by simpa using hc)
 simpa using this
theorem cJ.bd {z:Str} (h:cJ z):(lines z).length<=44/\∀ws∈lines z,ws≠[]/\ws.length<=48/\∀x∈ws,okS x:=by
 have L:=h.ls
 obtain⟨ini,la,e⟩:=iG z
 have hli:lines z=ini.map fun l=>Txt.split l blank:=by unfold lines;rw [e];simp
 rw [hli]
 refine⟨?_,fun ws hw=>?_⟩
 ·have:=L.n
  rw [e] at this
  simp at this ⊢
  omega
 ·obtain⟨l,hl,rfl⟩:=List.mem_map.mp hw
  have hm:l∈Txt.split z feed:=by rw [e];exact List.mem_append_left _ hl
  have hL:=L.ln l hm
  obtain⟨w1,w2,w3⟩:=hL.words
  refine⟨by rw [blank_mk];exact ei l 32,w1,fun x hx=>⟨?_,sF fun c hc=>hL.az c ((w3 x hx).2 c hc)⟩⟩
  obtain⟨i,hi⟩:=List.getElem?_of_mem hx
  have h1:=eK _ hi
  obtain⟨j,hj⟩:=List.getElem?_of_mem hm
  have h2:=eK _ hj
  have:=L.m
  rw [str_len];omega
theorem jc {ws:List Str} (h1:ws.length<=60) (h2:∀x∈ws,okS x):Dok (aX ws) :=
 .tup _ (by simpa using h1) fun d hd=>by
  obtain⟨x,hx,rfl⟩:=List.mem_map.mp hd
  exact .str x (h2 x hx)
theorem lD {H:Hp}{tss:List (Addr×List Str)}{n:Addr}{t:List Str} (h:aU H tss) (hn:H n=some (.tup (t.map V.str))):aU H (tss++[(n,t)]):=fun y hy=>by
 rcases List.mem_append.mp hy with z | z
 ·exact h y z
 ·have e':y=(n,t):=by simpa using z
  subst e';exact hn
section
variable {P:Program}{w:World}{K:PySem.W.Frag}{mg:Str->Option Value}{base:Heap}
noncomputable def kS (CT:Addr):Sp:=fun vs H Q E=>∃x,vs=[x]/\((∃z,x=.str z/\cJ z /\
  (∀ps rs,cV z ps rs->∀v H',ag H H'->DV H' (.ref v) (wD ps rs)->Q (.ref v) H')/\((∀ps rs,¬ cV z ps rs)->∀H',ag H H'->E (.ref CT) none H'))\/(dj x H/\E (.ref CT) none H))
noncomputable abbrev N24:List Str:=["text","lines","places","rows","web"]
theorem fY:aR N24 ["text"] (aI (top 24)):=⟨rfl,rfl,rfl,by decide +kernel,rfl,by decide +kernel,by decide +kernel⟩
theorem o7 {f CT:Addr}{fd:FuncData} (F:Fun K "read_web" "read_web" (top 24) f fd) (B:Bl mg) (hx:mg "NoText"=some (.ref CT)) (hC:dD base CT) (F1:FnX P w K mg base 1 "lines_in" ["text"] (iO CT)) (F2:FnX P w K mg base 1 "names_behind" ["word","words"] (i3 CT))
  (F3:Fn P w K mg base 3 "is_web" ["thing"] mJ):aH P w K mg base (CXE P w) 4 f fd ["text"] (kS CT):=by
 refine F.okX fY (fun vs H Q E h=>?_) (fun cdv A outer s H vs Q E hr h=>?_)
 ·obtain⟨x,rfl,_⟩:=h
  rfl
 ·obtain⟨x,rfl,h⟩:=h
  have hr1:aN 1 _:=hr.mono (by decide)
  have rse:∀(pins:List (Addr×Obj)) (σ:L2.St) (H':Hp) (s':Shared) (h':Heap) (ea:Addr) (args:List Value),Inv (aE (CXE P w) P w K mg base N24 "read_web" (aI (top 24)) f cdv A outer s H E) pins σ H' s'->s'.heap.MadeExcOf h' ea (.ref CT) args->E (.ref CT) none H'->(aE (CXE P w) P w K mg base N24 "read_web" (aI (top 24)) f cdv A outer s H E).xe (.ref ea) { s' with heap:=h' }:=fun pins σ H s h' ea args I m hW=>fO I m hW
  refine⟨_,aq (aD (i:=1) fY.nd rfl (Or.inl rfl) (fR F1 hr1 jF (aa (pv 0) ae)))
   (aq (bh (aO dS (aA bo rfl B.len PySem.boot_len (aa (pv 1) ae)) ak (aS _)) (aw (eU (W:=fun H=>E (.ref CT) none H) hx hC hr.hd (aa av ae) rse)) bp)
   (aq (aD (i:=2) fY.nd rfl (Or.inl rfl) (fR F2 hr1 jF (aa av (aa (aG aP (pv 1) ak (fun _ _=>rfl)) ae))))
   (aq (kB (i:=3) (N:=["words"]) (ix:=[none]) fY.nd rfl (Or.inl rfl) ⟨rfl,rfl,rfl,by decide⟩ (cn (aZ bA (pv 1) (bb ak) ba)) (fun _ _ _ _=>bJ 0 (by decide) rfl rfl) (fun _ _ _ _=>bP)
    (fun _ _ _ _=>fR F2 hr1 mZ (aa av (aa (pv 0) ae))))
   (aq (aD (i:=4) fY.nd rfl (Or.inl rfl) (bR (aa (pv 2) (aa (bT dX rfl B.tuple cM (aa (pv 3) ae)) ae))))
   (aq (bh (bQ (bN (aC F3 hr (aa (pv 4) ae)))) (aw (eU (W:=fun H=>E (.ref CT) none H) hx hC hr.hd (aa av ae) rse)) bp)
   (aw (aM (pv 4)))))))),?_⟩
  rcases h with ⟨z,rfl,T,kq,ke⟩ | ⟨hn,k⟩
  ·obtain⟨hl44,hws⟩:=T.bd
   refine⟨_,rfl,.inl ⟨z,47,45,16100,rfl,T,by decide,by decide,fun hen li lr H1 s1 l1 La e1=>?_,fun hne H1 s1=>ke (fun ps rs W=>hne W.en) H1 s1⟩⟩
   have hll:lr.length<=44:=by have:=congrArg List.length e1;rw [List.length_map] at this;omega
   cases lr with
   | nil =>
    refine⟨_,rfl,li,_,rfl,.inl (SqL.of l1),rfl,_,rfl,cI rfl ⟨by show 1<=sizeLine;decide,ke (fun ps rs W=>?_) H1 s1⟩⟩
    have:=W.li
    rw [<- e1] at this
    cases this
   | cons h0 lr =>
    obtain⟨a0,w0⟩:=h0
    have hw0:=hws w0 (by rw [<- e1];simp)
    obtain⟨y,ss,rfl⟩:∃y ss,w0=y::ss:=by cases w0 with | nil=>exact absurd rfl hw0.1 | cons y ss=>exact⟨y,ss,rfl⟩
    refine⟨_,rfl,li,_,rfl,.inl (SqL.of l1),rfl,_,rfl,cb (fun z=>?_) ?_⟩
    ·have z':((aj ((a0,y::ss)::lr)).length:Int)=0:=V.int.inj z
     simp at z'
     omega
    refine⟨_,rfl,aK (j:=0) (.inl (SqL.of l1)) rfl rfl ⟨a0,"places",y,ss,rfl,La _ List.mem_cons_self,by decide,fun hy pa H2 s2 pa2=>?_,fun hy=>ke (fun ps rs W=>?_) H1 s1⟩⟩
    ·subst hy
     refine⟨_,rfl,_,rfl,li,_,rfl,SqL.of (s2 _ _ l1),fun q hq=>?_⟩
     rw [show aj ((a0,("places":Str)::ss)::lr)=V.ref a0::aj lr from rfl,dY]
     have s3:=ao (o:=.lst (aj lr)) s2 hq
     have q3:upd H2 q (.lst (aj lr)) q=some (.lst (aj lr)):=ah
     have pa3:upd H2 q (.lst (aj lr)) pa=some (.tup (ss.map V.str)):=by rw [ai (au pa2 hq)];exact pa2
     generalize upd H2 q (.lst (aj lr))=H3 at s3 q3 pa3 ⊢
     simp only [List.length_cons] at hll
     refine⟨q,rfl,⟨_,SqL.of q3⟩,dZ (xs:=aj lr) (fits (by simp;omega)) (fun i ys σ H4=>(∃rr:List (Addr×List Str),ys=aj rr/\aU H4 rr/\(lr.take i).map (·.2)=rr.map fun r=>("tie":Str)::r.2)/\ag H3 H4/\∃v,σ=[v]) ⟨⟨[],rfl,by simp [aU],rfl⟩,ag.refl _,_,rfl⟩
      (fun i ys σ H4 _ z=>?_) ?_ ?_⟩
     ·obtain⟨⟨rr,rfl,_,e⟩,s4,_⟩:=z
      have:=congrArg List.length e
      rw [List.length_map,List.length_map,List.length_take] at this
      exact⟨by rw [show (aj rr).length=rr.length from by simp [aj]];omega,SqL.of (s4 _ _ q3)⟩
     ·rintro i x ys σ H4 hx ⟨⟨rr,rfl,Ra,e⟩,s4,v,rfl⟩
      obtain⟨l,hl,rfl⟩:=dI hx
      have hmem:l∈lr:=List.mem_of_getElem? hl
      have hla:=(s3.trans s4) _ _ (La l (List.mem_cons_of_mem _ hmem))
      have hlw:=hws l.2 (by rw [<- e1];exact List.mem_cons_of_mem _ (List.mem_map_of_mem hmem))
      obtain⟨y,ts,hyt⟩:∃y ts,l.2=y::ts:=by cases hh:l.2 with | nil=>exact absurd hh hlw.1 | cons y ss=>exact⟨y,ss,rfl⟩
      rw [hyt] at hla
      refine⟨_,rfl,l.1,"tie",y,ts,rfl,hla,by decide,fun hy n H5 s5 n5=>⟨⟨rr++[(n,ts)],by simp [aj],lD (Ra.same s5) n5,?_⟩,s4.trans s5,_,rfl⟩,fun hy=>ke (fun ps rs W=>?_) _ ((s1.trans s3).trans s4)⟩
      ·subst hy
       rw [b4 _ _ _ _ hl,e,List.map_append,hyt];rfl
      ·have h2:=W.li
       rw [<- e1] at h2
       have h3:=(List.cons.inj h2).2
       obtain⟨r,hr',e5⟩:=mK h3 hl
       rw [hyt] at e5
       exact hy (List.cons.inj e5).1
     ·rintro ys σ H4 ⟨⟨rr,rfl,Ra,e⟩,s4,v,rfl⟩ n hn
      rw [take_all lr (by simp [aj])] at e
      have s5:=ao (o:=.lst (aj rr)) s4 hn
      refine⟨_,rfl,_,rfl,n,_,rfl,.inl ⟨SqL.of ah,fun ra hra=>?_⟩⟩
      have s6:=ao (o:=.tup (aj rr)) s5 hra
      have ra6:upd (upd H4 n (.lst (aj rr))) ra (.tup (aj rr)) ra=some (.tup (aj rr)):=ah
      have R6:aU (upd (upd H4 n (.lst (aj rr))) ra (.tup (aj rr))) rr:=Ra.same (ao (ao (ag.refl _) hn) hra)
      generalize upd (upd H4 n (.lst (aj rr))) ra (.tup (aj rr))=H6 at s6 ra6 R6 ⊢
      refine⟨by show 2<=sizeLine;decide,fun u hu=>?_⟩
      have s7:=ao (o:=.tup [V.ref pa,V.ref ra]) s6 hu
      have u7:upd H6 u (.tup [V.ref pa,V.ref ra]) u=some (.tup [V.ref pa,V.ref ra]):=ah
      have R7:=R6.same (ao (o:=.tup [V.ref pa,V.ref ra]) (ag.refl _) hu)
      have ra7:=ao (o:=.tup [V.ref pa,V.ref ra]) (ag.refl _) hu _ _ ra6
      generalize upd H6 u (.tup [V.ref pa,V.ref ra])=H7 at s7 u7 R7 ra7 ⊢
      have dv:DV H7 (.ref u) (wD ss (rr.map (·.2))):=.tup u7 (.cons (.tup (s7 _ _ pa3) (DVs.strs ss)) (.cons (.tup ra7 (eJ R7)) .nil))
      have hlines:lines z=(("places":Str)::ss)::(rr.map (·.2)).map fun r=>("tie":Str)::r:=by
       rw [<- e1]
       show (("places":Str)::ss)::lr.map (·.2)=_
       rw [e,List.map_map];rfl
      have hrl:rr.length<=44:=by have:=congrArg List.length e;rw [List.length_map,List.length_map] at this;omega
      have dok:Dok (wD ss (rr.map (·.2))):=.tup _ (by show 2<=60;decide) fun d hd=>by
       rcases List.mem_cons.mp hd with rfl | hd
       ·refine jc ?_ ?_
        ·have:=hw0.2.1;simp only [List.length_cons] at this;omega
        ·exact fun x hx=>hw0.2.2 x (List.mem_cons_of_mem _ hx)
       ·have e':d=.tuple ((rr.map (·.2)).map aX):=by simpa using hd
        subst e'
        refine .tup _ (by rw [List.length_map,List.length_map];omega) fun d hd=>?_
        obtain⟨t,ht,rfl⟩:=List.mem_map.mp hd
        have:=hws (("tie":Str)::t) (by rw [hlines];exact List.mem_cons_of_mem _ (List.mem_map_of_mem (f:=fun r=>("tie":Str)::r) ht))
        refine jc ?_ ?_
        ·have:=this.2.1;simp only [List.length_cons] at this;omega
        ·exact fun x hx=>this.2.2 x (List.mem_cons_of_mem _ hx)
      refine⟨_,rfl,.inl ⟨.ref u,_,rfl,dv,dok,fun H8 s8=>⟨_,rfl,?_⟩⟩⟩
      have s9:=((s1.trans s3).trans s7).trans s8
      cases hb:dW (wD ss (rr.map (·.2))) with
      | true=>exact aL ⟨_,rfl,kq ss _ ⟨hen,hlines,lL.mp hb⟩ u H8 s9 (DV.same s8 dv)⟩
      | false =>
       refine am ⟨by show 1<=sizeLine;decide,ke (fun ps rs W=>?_) H8 s9⟩
       have h2:=W.li
       rw [hlines] at h2
       obtain⟨h3,h4⟩:=List.cons.inj h2
       have h5:rr.map (·.2)=rs:=by
        have:=congrArg (List.map List.tail) h4
        rw [List.map_map,List.map_map] at this
        simpa [Function.comp_def] using this
       rw [(List.cons.inj h3).2,h5,lL.mpr W.ok] at hb
       cases hb
    ·have h2:=W.li
     rw [<- e1] at h2
     exact hy (List.cons.inj (List.cons.inj h2).1).1
  ·exact⟨_,rfl,.inr ⟨x,rfl,hn,k⟩⟩
end
section
variable {P:Program}{w:World}{K:PySem.W.Frag}{mg:Str->Option Value}{base:Heap}
noncomputable def j5 (CT:Addr):Sp:=fun vs H Q E=>∃x,vs=[x]/\((∃z,x=.str z/\cJ z /\
  (∀tl,eD z tl->∀v H',ag H H'->DV H' (.ref v) (tlD tl)->Q (.ref v) H')/\((∀tl,¬ eD z tl)->∀H',ag H H'->E (.ref CT) none H'))\/(dj x H/\E (.ref CT) none H))
theorem nW:aR ["text","trees"] ["text"] (aI (top 25)):=⟨rfl,rfl,rfl,by decide +kernel,rfl,by decide +kernel,by decide +kernel⟩
theorem oE {f CT:Addr}{fd:FuncData} (F:Fun K "read_trees" "read_trees" (top 25) f fd) (B:Bl mg) (hx:mg "NoText"=some (.ref CT)) (hC:dD base CT) (F1:FnX P w K mg base 1 "lines_in" ["text"] (iO CT)) (F2:FnX P w K mg base 1 "names_behind" ["word","words"] (i3 CT))
  (F3:Fn P w K mg base 2 "is_sorted_names" ["thing"] iT):aH P w K mg base (CXE P w) 3 f fd ["text"] (j5 CT):=by
 refine F.okX nW (fun vs H Q E h=>?_) (fun cdv A outer s H vs Q E hr h=>?_)
 ·obtain⟨x,rfl,_⟩:=h
  rfl
 ·obtain⟨x,rfl,h⟩:=h
  have hr1:aN 1 _:=hr.mono (by decide)
  refine⟨_,aq (kB (i:=1) (N:=["words"]) (ix:=[none]) nW.nd rfl (Or.inl rfl) ⟨rfl,rfl,rfl,by decide⟩ (cn (fR F1 hr1 jF (aa (pv 0) ae))) (fun _ _ _ _=>bJ 0 (by decide) rfl rfl) (fun _ _ _ _=>bP)
    (fun _ _ _ _=>fR F2 hr1 mZ (aa av (aa (pv 0) ae))))
   (aq (bh (bQ (bN (aA (eh rfl) rfl B.all eG (aa (cC (N:=["tree"]) (ix:=[none]) ⟨rfl,rfl,rfl,by decide⟩ rfl (cn (pv 1)) (fun _ _ _ _=>bJ 0 (by decide) rfl rfl) (fun _ _ _ _=>bP) (fun _ _ _ _=>aC F3 hr (aa (pv 0) ae))) ae))))
    (aw (eU (W:=fun H=>E (.ref CT) none H) hx hC hr.hd (aa av ae) (fun pins σ H s h' ea args I m hW=>fO I m hW))) bp)
   (aw (aM (pv 1)))),?_⟩
  rcases h with ⟨z,rfl,T,kq,ke⟩ | ⟨hn,k⟩
  ·obtain⟨hl44,hws⟩:=T.bd
   refine⟨_,rfl,.inl ⟨z,47,45,16100,rfl,T,by decide,by decide,fun hen li lr H1 s1 l1 La e1=>?_,fun hne H1 s1=>ke (fun tl W=>hne W.en) H1 s1⟩⟩
   have hll:lr.length<=44:=by have:=congrArg List.length e1;rw [List.length_map] at this;omega
   refine⟨li,rfl,⟨_,SqL.of l1⟩,dZ (xs:=aj lr) (fits (by simp;omega)) (fun i ys σ H4=>(∃rr:List (Addr×List Str),ys=aj rr/\aU H4 rr/\(lr.take i).map (·.2)=rr.map fun r=>("tree":Str)::r.2)/\ag H1 H4/\∃v,σ=[v]) ⟨⟨[],rfl,by simp [aU],rfl⟩,ag.refl _,_,rfl⟩
    (fun i ys σ H4 _ z=>?_) ?_ ?_⟩
   ·obtain⟨⟨rr,rfl,_,e⟩,s4,_⟩:=z
    have:=congrArg List.length e
    rw [List.length_map,List.length_map,List.length_take] at this
    exact⟨by rw [show (aj rr).length=rr.length from by simp [aj]];omega,SqL.of (s4 _ _ l1)⟩
   ·rintro i x ys σ H4 hx ⟨⟨rr,rfl,Ra,e⟩,s4,v,rfl⟩
    obtain⟨l,hl,rfl⟩:=dI hx
    have hmem:l∈lr:=List.mem_of_getElem? hl
    have hla:=s4 _ _ (La l hmem)
    have hlw:=hws l.2 (by rw [<- e1];exact List.mem_map_of_mem hmem)
    obtain⟨y,ts,hyt⟩:∃y ts,l.2=y::ts:=by cases hh:l.2 with | nil=>exact absurd hh hlw.1 | cons y ss=>exact⟨y,ss,rfl⟩
    rw [hyt] at hla
    refine⟨_,rfl,l.1,"tree",y,ts,rfl,hla,by decide,fun hy n H5 s5 n5=>⟨⟨rr++[(n,ts)],by simp [aj],lD (Ra.same s5) n5,?_⟩,s4.trans s5,_,rfl⟩,fun hy=>ke (fun tl W=>?_) _ (s1.trans s4)⟩
    ·subst hy
     rw [b4 _ _ _ _ hl,e,List.map_append,hyt];rfl
    ·have h2:=W.li
     rw [<- e1] at h2
     obtain⟨r,hr',e5⟩:=mK h2 hl
     rw [hyt] at e5
     exact hy (List.cons.inj e5).1
   ·rintro ys σ H4 ⟨⟨rr,rfl,Ra,e⟩,s4,v,rfl⟩ n hn
    rw [take_all lr (by simp [aj])] at e
    have s5:=ao (o:=.lst (aj rr)) s4 hn
    have n5:upd H4 n (.lst (aj rr)) n=some (.lst (aj rr)):=ah
    have R5:=Ra.same (ao (o:=.lst (aj rr)) (ag.refl _) hn)
    generalize upd H4 n (.lst (aj rr))=H5 at s5 n5 R5 ⊢
    have hlines:lines z=(rr.map (·.2)).map fun r=>("tree":Str)::r:=by rw [<- e1,e,List.map_map];rfl
    have hrl:rr.length<=44:=by have:=congrArg List.length e;rw [List.length_map,List.length_map] at this;omega
    have dok:∀t∈rr,Dok (aX t.2):=fun t ht=>by
     have:=hws (("tree":Str)::t.2) (by rw [hlines];exact List.mem_map_of_mem (f:=fun r=>("tree":Str)::r) (List.mem_map_of_mem ht))
     refine jc ?_ fun x hx=>this.2.2 x (List.mem_cons_of_mem _ hx)
     have:=this.2.1;simp only [List.length_cons] at this;omega
    refine⟨_,rfl,n,rfl,⟨_,SqL.of n5⟩,dZ (xs:=aj rr) (fits (by simp;omega)) (fun i ys σ H6=>ys=(rr.take i).map (fun t=>V.bl (bH (aX t.2)))/\ag H5 H6/\∃v,σ=[v]) ⟨rfl,ag.refl _,_,rfl⟩
     (fun i ys σ H6 _ z=>⟨by rw [z.1,List.length_map,List.length_take];omega,SqL.of (z.2.1 _ _ n5)⟩) ?_ ?_⟩
    ·rintro i x ys σ H6 hx ⟨rfl,s6,v,rfl⟩
     obtain⟨t,ht,rfl⟩:=dI hx
     have hmem:t∈rr:=List.mem_of_getElem? ht
     refine⟨_,rfl,.ref t.1,aX t.2,rfl,.tup (s6 _ _ (R5 t hmem)) (DVs.strs t.2),dok t hmem,fun H7 s7=>⟨?_,s6.trans s7,_,rfl⟩⟩
     rw [b4 _ _ _ _ ht]
    ·rintro ys σ H6 ⟨rfl,s6,v,rfl⟩ p hp
     rw [take_all rr (by simp [aj])]
     have s7:=ao (o:=.lst (rr.map fun t=>V.bl (bH (aX t.2)))) s6 hp
     have p7:upd H6 p (.lst (rr.map fun t=>V.bl (bH (aX t.2)))) p=some (.lst (rr.map fun t=>V.bl (bH (aX t.2)))):=ah
     generalize upd H6 p (.lst (rr.map fun t=>V.bl (bH (aX t.2))))=H7 at s7 p7 ⊢
     refine⟨p,rr.map fun t=>bH (aX t.2),rfl,SqL.of (by rw [p7,List.map_map];rfl),_,rfl,?_⟩
     have s8:=(s1.trans s5).trans s7
     cases hb:(rr.map fun t=>bH (aX t.2)).all id with
     | true =>
      refine aL ⟨_,rfl,kq (rr.map (·.2)) ⟨hen,hlines,fun t ht=>?_⟩ n H7 s8 (.lst (s7 _ _ n5) (eJ (R5.same s7)))⟩
      obtain⟨r,hr',rfl⟩:=List.mem_map.mp ht
      exact iD.mp (List.all_eq_true.mp hb _ (List.mem_map_of_mem hr'))
     | false =>
      refine am ⟨by show 1<=sizeLine;decide,ke (fun tl W=>?_) H7 s8⟩
      have h4:=W.li
      rw [hlines] at h4
      have h5:rr.map (·.2)=tl:=by
       have:=congrArg (List.map List.tail) h4
       rw [List.map_map,List.map_map] at this
       simpa [Function.comp_def] using this
      have:(rr.map fun t=>bH (aX t.2)).all id=true:=by
       rw [List.all_eq_true]
       intro b hb'
       obtain⟨r,hr',rfl⟩:=List.mem_map.mp hb'
       exact iD.mpr (W.ok r.2 (by rw [<- h5];exact List.mem_map_of_mem hr'))
      rw [this] at hb
      cases hb
  ·exact⟨_,rfl,.inr ⟨x,rfl,hn,k⟩⟩
end
theorem ma (x:Str):¬ nlt x x:=fun h=>List.lt_irrefl _ h
theorem sE {x y:Str} (h:nlt x y) (h':nlt y x):False:=List.lt_irrefl _ (List.lt_trans h h')
theorem ut:∀{a b:List Str},a.Pairwise nlt->b.Pairwise nlt->(∀x,x∈a ↔ x∈b)->a=b:=by
 intro a
 induction a with
 | nil =>
  intro b _ _ h
  cases b with
  | nil=>rfl
  | cons y s=>exact absurd ((h y).mpr List.mem_cons_self) (by simp)
 | cons x r ih =>
  intro b ha hb h
  obtain⟨ha1,ha2⟩:=List.pairwise_cons.mp ha
  cases b with
  | nil=>exact absurd ((h x).mp List.mem_cons_self) (by simp)
  | cons y s =>
   obtain⟨hb1,hb2⟩:=List.pairwise_cons.mp hb
   have e:x=y:=by
    rcases List.mem_cons.mp ((h x).mp List.mem_cons_self) with e | e
    ·exact e
    ·rcases List.mem_cons.mp ((h y).mpr List.mem_cons_self) with e' | e'
     ·exact e'.symm
     ·exact (sE (hb1 x e) (ha1 y e')).elim
   subst e
   rw [ih ha2 hb2 fun z=>⟨fun hz=>?_,fun hz=>?_⟩]
   ·rcases List.mem_cons.mp ((h z).mp (List.mem_cons_of_mem _ hz)) with e | e
    ·subst e;exact (ma _ (ha1 _ hz)).elim
    ·exact e
   ·rcases List.mem_cons.mp ((h z).mpr (List.mem_cons_of_mem _ hz)) with e | e
    ·subst e;exact (ma _ (hb1 _ hz)).elim
    ·exact e
theorem jG:bootBuiltins "set"=some (.type "set"):=by decide +kernel
theorem oX (w:World) {X:Cx} (hc:X.calm=true) (h:X.w=w:=by rfl):bz X (.type "set") (fun xs H Q=>∃(p:Addr) (ss:List Str),xs=[.ref p]/\SqT X.K H p (ss.map V.str)/\ss.length < 3000 /\
  ∀(a:Addr),H a=none->Q (.ref a) (upd H a (bD w a (aJ ss.reverse)))):=by subst h;exact pj hc
theorem iz (w:World) {X:Cx} (hc:X.calm=true) (h:X.w=w:=by rfl):bz X (.builtin "sorted") (fun xs H Q=>∃(a:Addr) (ss:List Str),xs=[.ref a]/\H a=some (bD w a ss)/\ss.length < 64 /\
  ∀(ss':List Str) (q:Addr),ss'.Perm ss->PyProof.Rows.sortedS ss'=true->H q=none->Q (.ref q) (upd H q (.lst (ss'.map V.str)))):=by subst h;exact og hc
theorem jY (w:World) {X:Cx} (hc:X.calm=true) (h:X.w=w:=by rfl):bz X (.type "set") (fun xs H Q=>∃(p:Addr) (ss:List Str),xs=[.ref p]/\SqL X.K H p (ss.map V.str)/\ss.length < 3000 /\
  ∀(a:Addr),H a=none->Q (.ref a) (upd H a (bD w a (aJ ss.reverse)))):=by subst h;exact o8 hc
theorem sL (c:Nat):bv.cps.contains c=az c:=by
 have hl:bv.cps.toList=(List.range 26).map (97 + ·):=by decide +kernel
 have h1:bv.cps.contains c=bv.cps.toList.contains c:=by rw [Array.contains_toList]
 rw [h1,hl]
 unfold az
 rw [Bool.eq_iff_iff,List.contains_iff_mem,List.mem_map,Bool.and_eq_true,decide_eq_true_eq,decide_eq_true_eq]
 constructor
 ·rintro⟨a,ha,rfl⟩
  have:=List.mem_range.mp ha
  omega
 ·rintro⟨h1,h2⟩
  exact⟨c - 97,List.mem_range.mpr (by omega),by omega⟩
theorem mC {α:Type} (g:α->Bool):∀l:List α,l.all g=true->l.takeWhile g=l
 | [],_=>rfl
 | a::r,h=>by
  rw [List.all_cons,Bool.and_eq_true] at h
  rw [List.takeWhile_cons,h.1]
  simp only [if_true]
  rw [mC g r h.2]
theorem jC {α:Type} (g:α->Bool):∀l:List α,l.all g=false->(l.takeWhile g).length < l.length
 | [],h=>by cases h
 | a::r,h=>by
  rw [List.takeWhile_cons]
  cases c:g a with
  | false=>simp
  | true =>
   rw [List.all_cons,c,Bool.true_and] at h
   have:=jC g r h
   simp only [if_true,List.length_cons]
   omega
theorem lZ {α:Type} (g:α->Bool):∀l:List α,l.all g=false->(l.drop (l.takeWhile g).length).all g=false
 | [],h=>by cases h
 | a::r,h=>by
  rw [List.takeWhile_cons]
  cases c:g a with
  | false=>simp [c]
  | true =>
   rw [List.all_cons,c,Bool.true_and] at h
   have:=lZ g r h
   simpa using this
theorem strip_nil {x:Str} (h:1<=x.length):decide ((if stripSame bv.cps.contains true true x=true then x else PySem.stripped bv.cps.contains true true x)=Str.ofString "")=x.cps.toList.all az:=by
 have eg:bv.cps.contains=az:=funext sL
 rw [eg]
 have hl:x.cps.toList.length=x.length:=by simp [Str.length]
 have e0:∀y:Str,y=Str.ofString ""->y.length=0:=fun y e=>by rw [e];decide
 cases c:x.cps.toList.all az with
 | true =>
  have lo:stripLo az true x=x.length:=by unfold stripLo;rw [if_pos rfl,mC _ _ c,hl]
  have hi:stripHi az true x x.length=x.length:=by
   unfold stripHi
   rw [if_pos rfl,List.drop_of_length_le (by omega)]
   simp
  have ns:¬ stripSame az true true x=true:=by
   unfold stripSame
   rw [lo]
   intro z
   rw [Bool.and_eq_true] at z
   have:=eq_of_beq z.1
   omega
  rw [if_neg ns]
  refine decide_eq_true ?_
  unfold PySem.stripped
  rw [lo,hi]
  unfold Builtin.Str.strSub
  have:(x.cps.extract x.length x.length)=#[]:=by simp [Str.length]
  rw [this]
  decide
 | false =>
  refine decide_eq_false fun z=>?_
  have z0:=e0 _ z
  by_cases ss:stripSame az true true x=true
  ·rw [if_pos ss] at z0;omega
  ·rw [if_neg ss] at z0
   have l1:=jC az _ c
   have d1:=lZ az _ c
   have lo:stripLo az true x=(x.cps.toList.takeWhile az).length:=by unfold stripLo;rw [if_pos rfl]
   have d2:(x.cps.toList.drop (x.cps.toList.takeWhile az).length).reverse.all az=false:=by rw [List.all_reverse];exact d1
   have l2:=jC az _ d2
   rw [List.length_reverse,List.length_drop] at l2
   have hi:stripHi az true x (stripLo az true x)=x.length - (((x.cps.toList.drop (x.cps.toList.takeWhile az).length).reverse).takeWhile az).length:=by unfold stripHi;rw [if_pos rfl,lo]
   unfold PySem.stripped Builtin.Str.strSub Str.length at z0
   rw [hi,lo] at z0
   rw [Array.size_extract] at z0
   unfold Str.length at z0 hl h
   omega
section
variable {P:Program}{w:World}{K:PySem.W.Frag}{mg:Str->Option Value}{base:Heap}
end
section
variable {P:Program}{w:World}{K:PySem.W.Frag}{mg:Str->Option Value}{base:Heap}
noncomputable def lJ:Sp:=fun vs H Q _=>∃(a:Addr) (ws:List Str),vs=[.ref a]/\H a=some (.lst (ws.map V.str))/\ws.length<=60/\(∀x∈ws,okS x)/\∀H',ag H H'->Q (if ws.all bc then .ref a else .non) H'
theorem vm:aR ["_law_words"] ["_law_words"] (aI (top 40)):=⟨rfl,rfl,rfl,by decide +kernel,rfl,by decide +kernel,by decide +kernel⟩
theorem pU {f:Addr}{fd:FuncData} (F:Fun K "_law_names" "_law_names" (top 40) f fd) (B:Bl mg):aH P w K mg base CX0 1 f fd ["_law_words"] lJ:=by
 refine F.ok vm (fun vs H Q E h=>?_) (fun cdv A outer s H vs Q E hr h=>?_)
 ·obtain⟨a,ws,rfl,_⟩:=h
  rfl
 ·obtain⟨a,ws,rfl,ha,hz,ho,k⟩:=h
  refine⟨_,aq (bh (bQ (bN (aA (eh rfl) rfl B.all eG (aa (cC (N:=["_law_word"]) (ix:=[none]) ⟨rfl,rfl,rfl,by decide⟩ rfl (cn (pv 0)) (fun _ _ _ _=>bJ 0 (by decide) rfl rfl) (fun _ _ _ _=>bP)
    (fun _ _ _ _=>dq (lh gX gX ak (aA gi rfl B.len PySem.boot_len (aa (pv 0) ae)) ak) (fe (eV dS (ji K PySem.F.plainAttrs_str PySem.F.slot_str_strip PySem.F.type_str_strip qX (pv 0) (aa av ae)) av (by with_unfolding_all rfl))))) ae)))) (aw (aM cu)) bp)
   (aw (aM (pv 0))),?_⟩
  refine⟨_,rfl,a,rfl,⟨_,SqL.of ha⟩,dZ (xs:=ws.map V.str) (fits (by simp;omega)) (fun i ys σ H1=>ys=(ws.take i).map (fun x=>V.bl (bc x))/\H1=H/\∃v,σ=[v]) ⟨rfl,rfl,_,rfl⟩
   (fun i ys σ H1 _ q=>⟨by rw [q.1,List.length_map,List.length_take];omega,by rw [q.2.1];exact SqL.of ha⟩) ?_ ?_⟩
  ·rintro i x ys σ H1 hx ⟨rfl,rfl,v,rfl⟩
   rw [List.getElem?_map] at hx
   cases hc:ws[i]? with
   | none=>rw [hc] at hx;cases hx
   | some x =>
    rw [hc] at hx
    cases hx
    have hs:=ho x (List.mem_of_getElem? hc)
    have hxs:x.length<=sizeLine:=by have:=hs.1;rw [sizeLine_eq];omega
    rw [b4 _ _ _ _ hc]
    refine⟨_,rfl,x,rfl,hxs,_,_,rfl,rfl,_,rfl,?_⟩
    by_cases c1:1<=x.length
    ·refine cI (by omega) ⟨_,_,rfl,rfl,_,rfl,?_⟩
     by_cases c2:x.length<=8
     ·refine cI (by omega) ?_
      refine⟨_,rfl,rfl,x,bv,rfl,rfl,hxs,?_⟩
      refine⟨rfl,?_,rfl,_,rfl⟩
      have e:decide (V.str (if stripSame bv.cps.contains true true x=true then x else PySem.stripped bv.cps.contains true true x)=V.str (Str.ofString ""))=bc x:=by
       unfold bc
       rw [decide_eq_true c1,decide_eq_true c2,<- strip_nil c1]
       show _=decide _
       generalize (if stripSame bv.cps.contains true true x=true then x else PySem.stripped bv.cps.contains true true x)=y
       by_cases z:y=Str.ofString ""
       ·rw [decide_eq_true z,decide_eq_true (by rw [z])]
       ·rw [decide_eq_false z,decide_eq_false (fun w=>z (V.str.inj w))]
      rw [e]
     ·have e:bc x=false:=by unfold bc;rw [decide_eq_false c2];simp
      refine cb (by omega) ?_
      rw [e]
      exact⟨rfl,rfl,_,rfl⟩
    ·have e:bc x=false:=by unfold bc;rw [decide_eq_false c1];simp
     rw [e]
     refine cb (by omega) ⟨_,rfl,aL ?_⟩
     exact⟨rfl,rfl,_,rfl⟩
  ·rintro ys σ H1 ⟨rfl,rfl,v,rfl⟩ p hp
   rw [take_all ws (by simp)]
   have s1:=ao (o:=.lst (ws.map fun x=>V.bl (bc x))) (ag.refl H1) hp
   have p1:upd H1 p (.lst (ws.map fun x=>V.bl (bc x))) p=some (.lst (ws.map fun x=>V.bl (bc x))):=ah
   generalize upd H1 p (.lst (ws.map fun x=>V.bl (bc x)))=H2 at s1 p1 ⊢
   refine⟨p,ws.map bc,rfl,SqL.of (by rw [p1,List.map_map];rfl),_,rfl,?_⟩
   have e:(ws.map bc).all id=ws.all bc:=by rw [List.all_map];rfl
   rw [e]
   have:=k H2 s1
   cases hb:ws.all bc with
   | true=>rw [hb] at this;exact aL ⟨_,rfl,this⟩
   | false=>rw [hb] at this;exact am this
end
theorem iF {ss so:List Str} (pm:so.Perm (aJ ss.reverse)) (hs:PyProof.Rows.sortedS so=true):so.Pairwise nlt/\(ss=so ↔ ss.Pairwise nlt)/\∀x,x∈so ↔ x∈ss:=by
 have mnd:=pJ ss.reverse
 have spw:so.Pairwise nlt:=iP hs (pm.nodup_iff.mpr mnd)
 have mem:∀x,x∈so ↔ x∈ss:=fun x=>by rw [pm.mem_iff,qW,List.mem_reverse]
 exact⟨spw,⟨fun e=>by rw [e];exact spw,fun h=>ut h spw fun x=>(mem x).symm⟩,mem⟩
section
variable {P:Program}{w:World}{K:PySem.W.Frag}{mg:Str->Option Value}{base:Heap}
end
theorem jB {c:TT}{x y b:TS}{D:Ends}{σ:L2.St}{H:Hp} (M:L2.St->Hp->Prop) (h:∀N:L2.St->Hp->Prop,(∀σ H,M σ H->N σ H)->iu c x y { D with nx:=N } σ H) (k:∀σ H,M σ H->b D σ H):f6 (iu c x y) b D σ H:=h (b D) k
theorem sG (c:Nat) (l:List Nat):(cut c l).getLast?=some [] ↔ l=[]\/l.getLast?=some c:=by
 rcases List.eq_nil_or_concat l with rfl | ⟨a,x,rfl⟩
 ·exact⟨fun _=>.inl rfl,fun _=>rfl⟩
 ·obtain⟨ini,la,he,tl,e1,e2,e3⟩:=fJ c a [x]
  rw [List.concat_eq_append,e3]
  by_cases h:x=c
  ·subst h
   rw [eu] at e2
   obtain⟨e4,e5⟩:=List.cons.inj e2
   subst e4 e5
   simp [cut]
  ·rw [dm h (show cut c []=[]::[] from rfl)] at e2
   obtain⟨e4,e5⟩:=List.cons.inj e2
   subst e4 e5
   simp [h]
theorem i7 (z:Str):df z ↔ z.cps.toList=[]\/z.cps.toList.getLast?=some 10:=by
 rw [<- sG,<- kj,List.getLast?_map]
 unfold df
 cases h:(Txt.split z feed).getLast? with
 | none=>simp
 | some l =>
  simp only [Option.map_some,Option.some.injEq]
  constructor
  ·intro e;rw [e];rfl
  ·intro e;exact jf (by rw [e];rfl)
theorem iN:∀{tl:List (List Str)},(∀ts∈tl,∀x∈ts,aB x)->PyData.canLayAll0 (tl.map aX)=true/\PyData.depthAll (tl.map aX)<=1
 | [],_=>⟨rfl,Nat.zero_le _⟩
 | ts::t,h=>by
  have ih:=iN (tl:=t) fun x hx=>h x (List.mem_cons_of_mem _ hx)
  have q:=iV (h ts List.mem_cons_self)
  rw [List.map_cons]
  have i2:=ih.2
  simp only [PyData.canLayAll0,PyData.canLay0,PyData.depthAll,PyData.depth,q.1,q.2,ih.1]
  exact⟨rfl,by omega⟩
theorem gC {tl:List (List Str)} (h:∀ts∈tl,∀x∈ts,aB x):SeqAt.shaped (tlD tl)=true/\(tlD tl).canLay0=true:=by
 have q:=iN h
 have i2:=q.2
 have hc:(tlD tl).canLay0=true:=by simp only [tlD,PyData.canLay0,q.1]
 have hd:(tlD tl).depth<=2:=by simp only [tlD,PyData.depth];omega
 refine⟨?_,hc⟩
 unfold SeqAt.shaped
 rw [hc,decide_eq_true (by omega)]
 rfl
theorem lR (tl:List (List Str)):PyData.eqv (tlD tl) (.list [])=decide (tl=[]):=by
 cases tl with
 | nil=>rfl
 | cons x r=>rw [decide_eq_false (by simp)];rfl
noncomputable def cg (first:Str) (i:Nat):Str:=if first=("tree":Str) then ("tree":Str) else if i=0 then first else ("tie":Str)
structure LT (first:Str) (i:Nat) (ws:List Str):Prop where
 nm:∀x∈ws,aB x
 hd:ws.head?=some (cg first i)
 so:first=("tree":Str)->ws.tail.Pairwise nlt
structure fh (first:Str) (z:Str):Prop where
 en:df z
 li:∀i ws,(lines z)[i]?=some ws->LT first i ws
theorem kh {ws:List Str}:ws.all bc=true ↔ ∀x∈ws,aB x:=by
 rw [List.all_eq_true]
 exact⟨fun h x hx=>eO.mp (h x hx),fun h x hx=>eO.mpr (h x hx)⟩
section
variable {P:Program}{w:World}{K:PySem.W.Frag}{mg:Str->Option Value}{base:Heap}
noncomputable def jw:Sp:=fun vs H Q _=>∃(x:V) (first:Str),vs=[x,.str first]/\((∃z,x=.str z/\cJ z /\
  (fh first z->∀(v:Addr) (tss:List (Addr×List Str)) (H':Hp),ag H H'->H' v=some (.lst (aj tss))->aU H' tss->tss.map (·.2)=(lines z).map List.tail->Q (.ref v) H')/\(¬ fh first z->∀H',ag H H'->Q .non H'))\/(dj x H/\Q .non H))
noncomputable abbrev N41:List Str:=["_law_thing","_law_first","_law_rows_here","_law_line","_law_words"]
theorem ib:aR N41 ["_law_thing","_law_first"] (aI (top 41)):=⟨rfl,rfl,rfl,by decide +kernel,rfl,by decide +kernel,by decide +kernel⟩
theorem sT {f:Addr}{fd:FuncData} (F:Fun K "_law_rows" "_law_rows" (top 41) f fd) (B:Bl mg) (F1:Fn P w K mg base 1 "_law_names" ["_law_words"] lJ):aH P w K mg base CX0 2 f fd ["_law_thing","_law_first"] jw:=by
 refine F.ok ib (fun vs H Q E h=>?_) (fun cdv A outer s H vs Q E hr h=>?_)
 ·obtain⟨x,first,rfl,_⟩:=h
  rfl
 ·obtain⟨x,first,rfl,h⟩:=h
  refine' ⟨_,aq (bh (PW.pt (bW (bQ (bN (aA (dE (T:="str")) rfl B.isinstance bG (aa (pv 0) (aa (dn (v:=.ty "str") rfl B.str gU rfl) ae)))))
    (cP (PW.pt (dO (aO cB (pv 0) av (aS _)) (eY (aO cB (aG aP (pv 0) (fW fP ak) (fun _ _=>rfl)) av (aS _)))))))) (aw (aM cu)) bp) ?d1,?main⟩
  case' d1=>refine' aq (aD (i:=2) ib.nd rfl (Or.inl rfl) (be ae)) ?d2
  case' d2=>refine' aq (cO PassesOwn.never rfl (cn (aZ bA (bI PySem.F.plainAttrs_str PySem.F.slot_str_split PySem.F.type_str_split eR (pv 0) (aa av ae)) ba (bb (fW fP ak)))) (bw (i:=3) ib.nd rfl (Or.inl rfl)) ?d3) (aw (aM (pv 2)))
  case' d3=>refine' aq (aD (i:=4) ib.nd rfl (Or.inl rfl) (bI PySem.F.plainAttrs_str PySem.F.slot_str_split PySem.F.type_str_split eR (pv 3) (aa av ae))) ?d4
  case' d4=>refine' aq (bh (PW.pt (bW (aO jr (aC F1 hr (aa (pv 4) ae)) cu (aS _)) (cP (PW.pt (dO (aO cB (aG aP (pv 4) ak (fun _ _=>rfl)) (lE (aO (js hr) (pv 2) (be ae) (aS _)) (pv 1) av) (aS _)) (eY (aO cB (pv 1) av (aS _)))))))) (aw (aM cu)) bp) ?d5
  case' d5=>refine' aq (bh (PW.pt (dO (aO dS (pv 1) av (aS _)) (eY (PW.pt (bW (aO cB (aG aP (pv 4) ak (fun _ _=>rfl)) (pv 1) (aS _)) (cP (aO (fc hr) (aZ bA (pv 4) (bb ak) ba) (aA (iz w rfl) rfl B.sorted eS (aa (bT (jY w rfl) rfl B.set jG (aa (aZ bA (pv 4) (bb ak) ba) ae)) ae)) (aS _)))))))) (aw (aM cu)) bp) ?d6
  case d6=>exact aw (da (bI PySem.F.plainAttrs_list PySem.F.slot_list_append PySem.F.type_list_append dG (pv 2) (aa (bT dX rfl B.tuple cM (aa (aZ bA (pv 4) (bb ak) ba) ae)) ae)))
  case main =>
  rcases h with ⟨z,rfl,T,kq,kn⟩ | ⟨hn,k⟩
  ·obtain⟨hl44,hws⟩:=T.bd
   have hz:=T.ln
   have hls:=T.ls
   obtain⟨ini,la,e⟩:=iG z
   have hli:lines z=ini.map fun l=>Txt.split l blank:=by unfold lines;rw [e];simp
   have hil:ini.length<=44:=by rw [hli,List.length_map] at hl44;exact hl44
   have hlo:∀l∈ini,l.length + 2<=sizeLine:=fun l hl=>by
    have h1:=hls.m
    rw [e,bV] at h1
    obtain⟨i,hi⟩:=List.getElem?_of_mem hl
    have h2:=eK ini hi
    rw [sizeLine_eq,str_len];omega
   have hz2:z.length + 2<=sizeLine:=by rw [sizeLine_eq,str_len];omega
   refine jB (fun σ H1=>σ=[some (.str z),some (.str first),none,none,none]/\H1=H/\df z) (fun N key=>?_) ?_
   ·refine⟨_,rfl,_,_,true,rfl,.str _,rfl,true,rfl,aL ?_⟩
    refine⟨_,rfl,rfl,_,rfl,?_⟩
    rcases List.eq_nil_or_concat z.cps.toList with h0 | ⟨pre,c,h0⟩
    ·have e0:z=Str.ofString "":=jf (by rw [h0];rfl)
     refine cD (by rw [e0]) (aL ?_)
     exact key _ _ ⟨rfl,rfl,(i7 z).mpr (.inl h0)⟩
    ·rw [List.concat_eq_append] at h0
     refine dR (fun y=>?_) ?_
     ·have e1:z=Str.ofString "":=V.str.inj y
      rw [e1,show (Str.ofString "").cps.toList=[] from rfl] at h0
      simp at h0
     refine⟨_,rfl,1,rfl,.inr (.inr ⟨z,_,c,rfl,rfl,by omega,by rw [h0];exact i4 _ _,rfl,_,rfl,?_⟩)⟩
     by_cases hc:c=10
     ·subst hc
      refine cD rfl ?_
      exact key _ _ ⟨rfl,rfl,(i7 z).mpr (.inr (by rw [h0];simp))⟩
     ·refine dR (fun y=>hc ?_) ?_
      ·have e1:(⟨#[c]⟩:Str)=Str.ofString "\n":=V.str.inj y
       have e2:=congrArg (fun s:Str=>s.cps.toList) e1
       have e3:(Str.ofString "\n").cps.toList=[10]:=by decide
       rw [e3] at e2
       simpa using e2
      ·refine kn (fun R=>?_) H (ag.refl _)
       rcases (i7 z).mp R.en with q | q
       ·rw [q] at h0;simp at h0
       ·rw [h0] at q;simp at q;exact hc q
   ·rintro σ H1 ⟨rfl,rfl,hen⟩
    refine⟨Nat.zero_le _,fun r hr'=>?_⟩
    have s1:=ao (o:=.lst []) (ag.refl H1) hr'
    have r1:upd H1 r (.lst []) r=some (.lst []):=ah
    generalize upd H1 r (.lst [])=H2 at s1 r1 ⊢
    refine⟨_,rfl,rfl,z,feed,rfl,rfl,by decide,hz2,fun p hp=>?_⟩
    have e1:(Txt.split z feed).map V.str=ini.map V.str++[V.str la]:=by rw [e];simp
    rw [e1]
    have s2:=ao (o:=.lst (ini.map V.str++[V.str la])) s1 hp
    have p2:upd H2 p (.lst (ini.map V.str++[V.str la])) p=some (.lst (ini.map V.str++[V.str la])):=ah
    have r2:upd H2 p (.lst (ini.map V.str++[V.str la])) r=some (.lst []):=by rw [ai (au r1 hp)];exact r1
    generalize upd H2 p (.lst (ini.map V.str++[V.str la]))=H3 at s2 p2 r2 ⊢
    refine⟨1,rfl,_,rfl,p,_,rfl,SqL.of p2,fun q hq=>?_⟩
    rw [lK]
    have s3:=ao (o:=.lst (ini.map V.str)) s2 hq
    have q3:upd H3 q (.lst (ini.map V.str)) q=some (.lst (ini.map V.str)):=ah
    have r3:upd H3 q (.lst (ini.map V.str)) r=some (.lst []):=by rw [ai (au r2 hq)];exact r2
    have nqr:q≠r:=fun y=>by rw [y,r2] at hq;cases hq
    generalize upd H3 q (.lst (ini.map V.str))=H4 at s3 q3 r3 ⊢
    refine⟨q,rfl,⟨_,SqL.of q3⟩,lC (xs:=ini.map V.str) (fun i σ H5=>∃(tss:List (Addr×List Str)) (vl vw:Option V),σ=[some (.str z),some (.str first),some (.ref r),vl,vw]/\ag H1 H5/\H5 q=some (.lst (ini.map V.str))/\H5 r=some (.lst (aj tss))/\aU H5 tss/\tss.map (·.2)=((lines z).take i).map List.tail/\∀j ws,j < i->(lines z)[j]?=some ws->LT first j ws)
     ⟨[],none,none,rfl,s3,q3,r3,by simp [aU],rfl,fun j ws h=>absurd h (by omega)⟩ ?_ ?_ ?_⟩
    ·rintro i σ H5 _ ⟨tss,vl,vw,rfl,s5,q5,_⟩
     exact SqL.of q5
    ·rintro i x σ H5 hx ⟨tss,vl,vw,rfl,s5,q5,r5,T5,e5,hlt⟩
     rw [List.getElem?_map] at hx
     cases hc:ini[i]? with
     | none=>rw [hc] at hx;cases hx
     | some l =>
      rw [hc] at hx
      cases hx
      have hlw:(lines z)[i]?=some (Txt.split l blank):=by rw [hli,List.getElem?_map,hc];rfl
      have htl:tss.length<=44:=by
       have:=congrArg List.length e5
       rw [List.length_map,List.length_map,List.length_take] at this
       omega
      obtain⟨wne,wz,wok⟩:=hws _ (List.mem_of_getElem? hlw)
      generalize hw:Txt.split l blank=ws at hlw wne wz wok
      obtain⟨y,ts,rfl⟩:∃y ts,ws=y::ts:=by cases ws with | nil=>exact absurd rfl wne | cons y ss=>exact⟨y,ss,rfl⟩
      have tsn:∀t∈tss.map (·.2),∀x∈t,aB x:=fun t ht x hx=>by
       rw [e5] at ht
       obtain⟨u,hu,rfl⟩:=List.mem_map.mp ht
       obtain⟨j,hj⟩:=List.getElem?_of_mem hu
       rw [List.getElem?_take] at hj
       split at hj
       ·rename_i hji
        exact (hlt j u hji hj).nm x (List.mem_of_mem_tail hx)
       ·cases hj
      refine⟨_,rfl,rfl,l,blank,rfl,rfl,by decide,hlo l (List.mem_of_getElem? hc),fun a ha=>?_⟩
      rw [hw]
      have s6:=ao (o:=.lst ((y::ts).map V.str)) (ag.refl H5) ha
      have a6:upd H5 a (.lst ((y::ts).map V.str)) a=some (.lst ((y::ts).map V.str)):=ah
      generalize upd H5 a (.lst ((y::ts).map V.str))=H6 at s6 a6 ⊢
      unfold b8
      dsimp only
      refine jB (fun σ H7=>σ=[some (.str z),some (.str first),some (.ref r),some (.str l),some (.ref a)]/\ag H6 H7/\(∀x∈y::ts,aB x)/\(first≠("tree":Str)->y=cg first i)) (fun N key=>?_) ?_
      ·refine⟨_,rfl,a,y::ts,rfl,a6,by omega,wok,fun H7 s7=>⟨rfl,_,rfl,?_⟩⟩
       cases hb:(y::ts).all bc with
       | false =>
        refine am (am (kn (fun R=>?_) H7 ((s5.trans s6).trans s7)))
        rw [kh.mpr (R.li i _ hlw).nm] at hb
        cases hb
       | true =>
        have hnm:=kh.mp hb
        refine aL ?_
        refine⟨_,rfl,aK (j:=0) (.inl (SqL.of (s7 _ _ a6))) rfl rfl ⟨_,rfl,Nat.zero_le _,fun ne hne=>?_⟩⟩
        have s8:=ao (o:=.lst []) s7 hne
        have n8:upd H7 ne (.lst []) ne=some (.lst []):=ah
        generalize upd H7 ne (.lst [])=H8 at s8 n8 ⊢
        have sm:=(s6.trans s8)
        refine⟨tlD (tss.map (·.2)),.list [],.lst (sm _ _ r5) (eJ (T5.same sm)),.lst n8 .nil,(gC tsn).1,(gC (tl:=[]) (by simp)).1,_,rfl,?_⟩
        rw [lR]
        have fin:∀e:Str,e=(if i=0 then first else ("tie":Str))->(if (!decide (V.str y=V.str e))=true then (eF (tOp rNe (bZ 1) (tC (V.str (Str.ofString "tree")))) [some (.str z),some (.str first),some (.ref r),some (.str l),some (.ref a)] H8 fun b H9=>if b=true then ij (tC V.non) { nx:=N,rt:=Q } [some (.str z),some (.str first),some (.ref r),some (.str l),some (.ref a)] H9 else gZ { nx:=N,rt:=Q } [some (.str z),some (.str first),some (.ref r),some (.str l),some (.ref a)] H9) else (if false=true then ij (tC V.non) { nx:=N,rt:=Q } [some (.str z),some (.str first),some (.ref r),some (.str l),some (.ref a)] H8 else gZ { nx:=N,rt:=Q } [some (.str z),some (.str first),some (.ref r),some (.str l),some (.ref a)] H8)):=fun e he=>by
         by_cases hy:y=e
         ·refine cD (by rw [hy]) (aL (key _ _ ⟨rfl,s8,hnm,fun ht=>?_⟩))
          unfold cg
          rw [if_neg ht,hy,he]
         ·refine dR (fun w=>hy (V.str.inj w)) ⟨_,rfl,rfl,_,rfl,?_⟩
          by_cases ht:first=("tree":Str)
          ·exact cD (by rw [ht]) (key _ _ ⟨rfl,s8,hnm,fun w=>absurd ht w⟩)
          ·refine dR (fun w=>ht (V.str.inj w)) (kn (fun R=>hy ?_) H8 (s5.trans sm))
           have:=(R.li i _ hlw).hd
           have h2:y=cg first i:=by simpa using this
           unfold cg at h2
           rw [if_neg ht] at h2
           rw [h2,he]
        by_cases hi0:i=0
        ·have:tss.map (·.2)=[]:=by rw [e5,hi0];rfl
         rw [decide_eq_true this]
         exact am ⟨_,rfl,rfl,_,rfl,fin first (by rw [if_pos hi0])⟩
        ·have:tss.map (·.2)≠[]:=fun w=>by
          rw [e5] at w
          have h9:=congrArg List.length w
          have hil2:=(List.getElem?_eq_some_iff.mp hlw).1
          rw [List.length_map,List.length_take] at h9
          have h10:min i (lines z).length=0:=h9
          omega
         rw [decide_eq_false this]
         exact aL ⟨rfl,_,rfl,fin _ (by rw [if_neg hi0])⟩
      ·rintro σ H7 ⟨rfl,s7,hnm,hhd⟩
       have a7:=s7 _ _ a6
       have nts:∀x∈ts,aB x:=fun x hx=>hnm x (List.mem_cons_of_mem _ hx)
       refine jB (fun σ H8=>σ=[some (.str z),some (.str first),some (.ref r),some (.str l),some (.ref a)]/\ag H7 H8/\LT first i (y::ts)) (fun N key=>?_) ?_
       ·refine⟨_,rfl,rfl,_,rfl,?_⟩
        by_cases ht:first=("tree":Str)
        ·refine cI (by rw [ht]) ?_
         refine⟨_,rfl,aK (j:=0) (.inl (SqL.of a7)) rfl rfl ⟨_,rfl,rfl,_,rfl,?_⟩⟩
         by_cases hy:y=first
         ·refine cD (by rw [hy]) ?_
          refine⟨_,rfl,_,rfl,a,_,rfl,SqL.of a7,fun q1 hq1=>?_⟩
          rw [List.map_cons,dY]
          have s8:=ao (o:=.lst (ts.map V.str)) (ag.refl H7) hq1
          have q18:upd H7 q1 (.lst (ts.map V.str)) q1=some (.lst (ts.map V.str)):=ah
          generalize upd H7 q1 (.lst (ts.map V.str))=H8 at s8 q18 ⊢
          refine⟨_,rfl,_,rfl,a,_,rfl,SqL.of (s8 _ _ a7),fun q2 hq2=>?_⟩
          rw [List.map_cons,dY]
          have s9:=ao (o:=.lst (ts.map V.str)) (ag.refl H8) hq2
          have q29:upd H8 q2 (.lst (ts.map V.str)) q2=some (.lst (ts.map V.str)):=ah
          generalize upd H8 q2 (.lst (ts.map V.str))=H9 at s9 q29 ⊢
          simp only [List.length_cons] at wz
          refine⟨q2,ts,rfl,SqL.of q29,by omega,fun st hst=>?_⟩
          have s10:=ao (o:=bD w st (aJ ts.reverse)) (ag.refl H9) hst
          have t10:upd H9 st (bD w st (aJ ts.reverse)) st=some (bD w st (aJ ts.reverse)):=ah
          generalize upd H9 st (bD w st (aJ ts.reverse))=H10 at s10 t10 ⊢
          have hml:=gx ts.reverse
          rw [List.length_reverse] at hml
          refine⟨st,aJ ts.reverse,rfl,t10,by omega,fun so q7 hpm hso hq7=>?_⟩
          obtain⟨so1,so2,so3⟩:=iF hpm hso
          have s11:=ao (o:=.lst (so.map V.str)) (ag.refl H10) hq7
          have q11:upd H10 q7 (.lst (so.map V.str)) q7=some (.lst (so.map V.str)):=ah
          generalize upd H10 q7 (.lst (so.map V.str))=H11 at s11 q11 ⊢
          have sA:=(s9.trans s10).trans s11
          refine⟨.list (ts.map PyData.str),.list (so.map PyData.str),.lst (sA _ _ q18) (DVs.strs ts),.lst q11 (DVs.strs so),(cY nts).1,(cY fun x hx=>nts x ((so3 x).mp hx)).1,_,rfl,?_⟩
          have ee:PyData.eqv (.list (ts.map PyData.str)) (.list (so.map PyData.str))=decide (ts=so):=by
           show PyData.eqvAll _ _=_
           exact ft ts so
          rw [ee]
          by_cases hts:ts=so
          ·rw [decide_eq_true hts]
           refine aL (key _ _ ⟨rfl,s8.trans sA,hnm,?_,fun _=>so2.mp hts⟩)
           show some y=_
           unfold cg
           rw [if_pos ht,hy,ht]
          ·rw [decide_eq_false hts]
           exact am (kn (fun R=>hts (so2.mpr ((R.li i _ hlw).so ht))) H11 (((s5.trans s6).trans s7).trans (s8.trans sA)))
         ·refine dR (fun w=>hy (V.str.inj w)) (am (kn (fun R=>hy ?_) H7 ((s5.trans s6).trans s7)))
          have:=(R.li i _ hlw).hd
          unfold cg at this
          rw [if_pos ht] at this
          have h2:y=("tree":Str):=by simpa using this
          rw [h2,ht]
        ·refine cb (fun w=>ht (V.str.inj w)) (aL (key _ _ ⟨rfl,ag.refl _,hnm,?_,fun w=>absurd w ht⟩))
         show some y=_
         rw [hhd ht]
       ·rintro σ H8 ⟨rfl,s8,hLT⟩
        have a8:=s8 _ _ a7
        refine⟨_,rfl,.inl ⟨rfl,_,SqL.of (((s6.trans s7).trans s8) _ _ r5)⟩,_,rfl,_,rfl,a,_,rfl,SqL.of a8,fun q1 hq1=>?_⟩
        rw [List.map_cons,dY]
        have s9:=ao (o:=.lst (ts.map V.str)) s8 hq1
        have q19:upd H8 q1 (.lst (ts.map V.str)) q1=some (.lst (ts.map V.str)):=ah
        generalize upd H8 q1 (.lst (ts.map V.str))=H9 at s9 q19 ⊢
        refine⟨q1,_,rfl,.inl ⟨SqL.of q19,fun n hn=>?_⟩⟩
        have s10:=ao (o:=.tup (ts.map V.str)) s9 hn
        have n10:upd H9 n (.tup (ts.map V.str)) n=some (.tup (ts.map V.str)):=ah
        generalize upd H9 n (.tup (ts.map V.str))=H10 at s10 n10 ⊢
        have sB:=(s6.trans s7).trans s10
        have r10:=sB _ _ r5
        refine⟨r,_,_,rfl,rfl,r10,by rw [show (aj tss).length=tss.length from by simp [aj]];rw [sizeLine_eq];omega,?_⟩
        have kr:∀b o,b≠r->H10 b=some o->upd H10 r (.lst (aj tss++[V.ref n])) b=some o:=fun b o hb e=>by rw [ai hb];exact e
        have nr:∀{b:Addr}{xs:List V},H10 b=some (.tup xs)->b≠r:=fun e=>tup_ne e r10
        refine⟨tss++[(n,ts)],_,_,rfl,fun b o eb=>?_,kr _ _ nqr (sB _ _ q5),by rw [ah];simp [aj],fun x hx=>?_,?_,fun j us hj hu=>?_⟩
        ·refine kr b o (fun y=>?_) (sB _ _ (s5 _ _ eb))
         rw [y,hr'] at eb
         cases eb
        ·rcases List.mem_append.mp hx with y | y
         ·have:=sB _ _ (T5 x y)
          exact kr _ _ (nr this) this
         ·have e':x=(n,ts):=by simpa using y
          subst e'
          exact kr _ _ (nr n10) n10
        ·rw [List.map_append,e5,b4 _ _ _ _ hlw];rfl
        ·by_cases hji:j < i
         ·exact hlt j us hji hu
         ·have:j=i:=by omega
          subst this
          rw [hlw] at hu
          cases hu
          exact hLT
    ·rintro σ H5 ⟨tss,vl,vw,rfl,s5,q5,r5,T5,e5,hlt⟩
     have hfull:(lines z).take (ini.map V.str).length=lines z:=take_all _ (by rw [hli];simp)
     rw [hfull] at e5
     refine⟨_,rfl,kq ⟨hen,fun i ws hw=>hlt i ws ?_ hw⟩ r tss H5 s5 r5 T5 e5⟩
     have:=(List.getElem?_eq_some_iff.mp hw).1
     rw [hli] at this
     simpa using this
  ·rcases hn with ⟨d,dv,hd⟩ | ⟨a,rfl,ha⟩
   ·cases dv with
    | non=>exact⟨_,rfl,_,_,false,rfl,.non,rfl,false,rfl,am (am k)⟩
    | int i=>exact⟨_,rfl,_,_,false,rfl,.int i,rfl,false,rfl,am (am k)⟩
    | bl b=>exact⟨_,rfl,_,_,false,rfl,.bl b,rfl,false,rfl,am (am k)⟩
    | tup e _=>exact⟨_,rfl,_,_,false,rfl,.tup e,rfl,false,rfl,am (am k)⟩
    | lst e _=>exact⟨_,rfl,_,_,false,rfl,.lst e,rfl,false,rfl,am (am k)⟩
    | str z=>exact absurd rfl (hd z)
   ·exact⟨_,rfl,_,_,false,rfl,.dK ha,rfl,false,rfl,am (am k)⟩
end
theorem iC:("places":Str)≠("tree":Str):=by decide
theorem gs (i:Nat):cg ("places":Str) i=if i=0 then ("places":Str) else ("tie":Str):=by
 unfold cg;rw [if_neg iC]
theorem mz (i:Nat):cg ("tree":Str) i=("tree":Str):=by
 unfold cg;rw [if_pos rfl]
theorem LT.eq {first:Str}{i:Nat}{ws:List Str} (h:LT first i ws):ws=cg first i::ws.tail:=by
 have:=h.hd
 cases ws with
 | nil=>cases this
 | cons x r =>
  have e:x=cg first i:=by simpa using this
  rw [e];rfl
theorem cV.rows {z:Str}{ps:List Str}{rs:List (List Str)} (W:cV z ps rs):fh "places" z/\(lines z).map List.tail=ps::rs:=by
 refine⟨⟨W.en,fun i ws hw=>?_⟩,?_⟩
 ·rw [W.li] at hw
  cases i with
  | zero =>
   have e:ws=("places":Str)::ps:=(Option.some.inj hw).symm
   subst e
   refine⟨fun x hx=>?_,by rw [gs];rfl,fun h=>absurd h iC⟩
   rcases List.mem_cons.mp hx with rfl | h
   ·exact jZ
   ·exact W.ok.pn x h
  | succ i =>
   rw [List.getElem?_cons_succ,List.getElem?_map] at hw
   cases hr:rs[i]? with
   | none=>rw [hr] at hw;cases hw
   | some r =>
    rw [hr] at hw
    have e:ws=("tie":Str)::r:=(Option.some.inj hw).symm
    subst e
    obtain⟨n,a,b,rfl,h1,h2,h3,h4⟩:=W.ok.rn r (List.mem_of_getElem? hr)
    refine⟨fun x hx=>?_,by rw [gs];rfl,fun h=>absurd h iC⟩
    simp only [List.mem_cons,List.not_mem_nil,or_false] at hx
    rcases hx with rfl | rfl | rfl | rfl
    ·exact lq
    ·exact h1
    ·exact W.ok.pn _ h2
    ·exact W.ok.pn _ h3
 ·rw [W.li,List.map_cons,List.map_map]
  show ps::_=_
  congr 1
  exact (List.map_congr_left fun r _=>rfl).trans (List.map_id _)
theorem fh.web {z:Str}{ps:List Str}{rs:List (List Str)} (R:fh "places" z) (e:(lines z).map List.tail=ps::rs) (h1:ps≠[]) (h2:ps.Pairwise nlt) (h3:∀r∈rs,∃n a b,r=[n,a,b]/\a∈ps/\b∈ps/\a≠b) (h4:(rs.map fun r=>r.headD "").Pairwise nlt):cV z ps rs:=by
 cases hl:lines z with
 | nil=>rw [hl] at e;cases e
 | cons w0 r =>
  rw [hl] at e
  obtain⟨e1,e2⟩:=List.cons.inj (show w0.tail::r.map List.tail=ps::rs from e)
  have L0:=R.li 0 w0 (by rw [hl];rfl)
  have ew:w0=("places":Str)::ps:=by rw [L0.eq,gs,e1];rfl
  have er:r=rs.map fun t=>("tie":Str)::t:=by
   rw [<- e2,List.map_map]
   refine (List.map_id r).symm.trans (List.map_congr_left fun t ht=>?_)
   obtain⟨i,hi⟩:=List.getElem?_of_mem ht
   have:=(R.li (i + 1) t (by rw [hl];exact hi)).eq
   rw [gs,if_neg (by omega)] at this
   exact this
  refine⟨R.en,by rw [hl,ew,er],h1,fun x hx=>L0.nm x (by rw [ew];exact List.mem_cons_of_mem _ hx),h2,fun t ht=>?_,h4⟩
  obtain⟨n,a,b,rfl,h5,h6,h7⟩:=h3 t ht
  refine⟨n,a,b,rfl,?_,h5,h6,h7⟩
  have hm:("tie":Str)::[n,a,b]∈r:=by rw [er];exact List.mem_map_of_mem (f:=fun t=>("tie":Str)::t) ht
  obtain⟨i,hi⟩:=List.getElem?_of_mem hm
  exact (R.li (i + 1) _ (by rw [hl];exact hi)).nm n (by simp)
theorem kg {z:Str}:fh "tree" z ↔ eD z ((lines z).map List.tail):=by
 constructor
 ·intro R
  refine⟨R.en,?_,fun t ht=>?_⟩
  ·rw [List.map_map]
   refine (List.map_id _).symm.trans (List.map_congr_left fun t ht=>?_)
   obtain⟨i,hi⟩:=List.getElem?_of_mem ht
   have:=(R.li i t hi).eq
   rw [mz] at this
   exact this
  ·obtain⟨ws,hw,rfl⟩:=List.mem_map.mp ht
   obtain⟨i,hi⟩:=List.getElem?_of_mem hw
   exact⟨fun x hx=>(R.li i ws hi).nm x (List.mem_of_mem_tail hx),(R.li i ws hi).so rfl⟩
 ·intro T
  refine⟨T.en,fun i ws hw=>?_⟩
  have hm:=List.mem_of_getElem? hw
  have h2:=hm
  rw [T.li] at h2
  obtain⟨t,ht,rfl⟩:=List.mem_map.mp h2
  obtain⟨h3,h4⟩:=T.ok t ht
  refine⟨fun x hx=>?_,by rw [mz];rfl,fun _=>h4⟩
  rcases List.mem_cons.mp hx with rfl | h
  ·exact iK
  ·exact h3 x h
theorem eD.eq {z:Str}{tl:List (List Str)} (T:eD z tl):tl=(lines z).map List.tail:=by
 rw [T.li,List.map_map]
 exact ((List.map_congr_left fun r _=>rfl).trans (List.map_id _)).symm
noncomputable def aY (ps r:List Str):Bool:=match r with
 | [_,a,b]=>!decide (a=b) && (decide (a∈ps) && decide (b∈ps))
 | _=>false
theorem fD {ps r:List Str}:aY ps r=true ↔ ∃n a b,r=[n,a,b]/\a∈ps/\b∈ps/\a≠b:=by
 constructor
 ·intro h
  unfold aY at h
  split at h
  ·rename_i n a b
   simp at h
   exact⟨n,a,b,rfl,h.2.1,h.2.2,h.1⟩
  ·cases h
 ·rintro⟨n,a,b,rfl,h1,h2,h3⟩
  simp [aY,h1,h2,h3]
theorem rV {ps r:List Str} (h:r.length≠3):aY ps r=false:=by
 cases hb:aY ps r with
 | false=>rfl
 | true =>
  obtain⟨n,a,b,rfl,_⟩:=fD.mp hb
  exact absurd rfl h
theorem rR (ps:List Str):PyData.eqv (aX ps) (.tuple [])=decide (ps=[]):=by
 cases ps with
 | nil=>rfl
 | cons x r=>rw [decide_eq_false (by simp)];rfl
theorem tfs {α:Type} (p:α->Bool) (l:List α) (i:Nat) (x:α) (h:l[i]?=some x):(l.take (i + 1)).filter p=(l.take i).filter p++(if p x then [x] else []):=by
 rw [List.take_add_one,h,List.filter_append]
 simp [List.filter_cons]
theorem vc {α:Type} (p:α->Bool) (l:List α) (i:Nat):((l.take i).filter p).length<=i:=Nat.le_trans (List.length_filter_le _ _) (by rw [List.length_take];omega)
section
variable {P:Program}{w:World}{K:PySem.W.Frag}{mg:Str->Option Value}{base:Heap}
noncomputable def my:Sp:=fun vs H Q _=>∃x,vs=[x]/\((∃z,x=.str z/\cJ z /\
  (∀ps rs,cV z ps rs->∀v H',ag H H'->DV H' (.ref v) (wD ps rs)->Q (.ref v) H')/\((∀ps rs,¬ cV z ps rs)->∀H',ag H H'->Q .non H'))\/(dj x H/\Q .non H))
noncomputable abbrev N42:List Str:=["_law_thing","_law_rows_here","_law_ties","_law_names_here"]
theorem ir:aR N42 ["_law_thing"] (aI (top 42)):=⟨rfl,rfl,rfl,by decide +kernel,rfl,by decide +kernel,by decide +kernel⟩
theorem qd {f:Addr}{fd:FuncData} (F:Fun K "_law_web_of" "_law_web_of" (top 42) f fd) (B:Bl mg) (F1:Fn P w K mg base 2 "_law_rows" ["_law_thing","_law_first"] jw):aH P w K mg base CX0 3 f fd ["_law_thing"] my:=by
 refine F.ok ir (fun vs H Q E h=>?_) (fun cdv A outer s H vs Q E hr h=>?_)
 ·obtain⟨x,rfl,_⟩:=h
  rfl
 ·obtain⟨x,rfl,h⟩:=h
  have hr1:aN 1 _:=hr.mono (by decide)
  refine' ⟨_,aq (aD (i:=1) ir.nd rfl (Or.inr rfl) (aC F1 hr (aa (pv 0) (aa av ae)))) ?d1,?main⟩
  case' d1=>refine' aq (bh (PW.pt (bW (aO jr (pv 1) cu (aS _)) (bW (aO (js hr1) (pv 1) (be ae) (aS _)) (bW (aO (js hr1) (aG aP (pv 1) ak (fun _ _=>rfl)) (bR ae) (aS _)) (cP (aO (fc hr1) (bT gh rfl B.list gP (aa (aG aP (pv 1) ak (fun _ _=>rfl)) ae)) (aA (iz w rfl) rfl B.sorted eS (aa (bT (oX w rfl) rfl B.set jG (aa (aG aP (pv 1) ak (fun _ _=>rfl)) ae)) ae)) (aS _))))))) (aw (aM cu)) bp) ?d2
  case' d2=>refine' aq (fA (i:=2) (N:=["_law_row","_law_rows_here"]) (ix:=[none,some 1]) ir.nd rfl (Or.inl rfl) ⟨rfl,rfl,rfl,by decide⟩ rfl (cn (aZ bA (pv 1) (bb ak) ba)) (fun _ _ _ _=>bJ 0 (by decide) rfl rfl) (fun _ _ _ _=>i6 (PW.pt (dO (aO dS (aA (qS K) rfl B.len PySem.boot_len (aa (pv 0) ae)) ak (by with_unfolding_all rfl)) (dO (aO cB (aG (bU K) (pv 0) ak (fun _ _=>rfl)) (aG (bU K) (pv 0) ak (fun _ _=>rfl)) (by with_unfolding_all rfl)) (dO (aO (lV K) (aG (bU K) (pv 0) ak (fun _ _=>rfl)) (aG (bU K) (pv 1) ak (fun _ _=>rfl)) (by with_unfolding_all rfl)) (eY (aO (lV K) (aG (bU K) (pv 0) ak (fun _ _=>rfl)) (aG (bU K) (pv 1) ak (fun _ _=>rfl)) (by with_unfolding_all rfl)))))))) (fun _ _ _ _=>pv 0)) ?d3
  case' d3=>refine' aq (fA (i:=3) (N:=["_law_row"]) (ix:=[none]) ir.nd rfl (Or.inl rfl) ⟨rfl,rfl,rfl,by decide⟩ rfl (cn (pv 2)) (fun _ _ _ _=>bJ 0 (by decide) rfl rfl) (fun _ _ _ _=>bP) (fun _ _ _ _=>aG (bU K) (pv 0) ak (fun _ _=>rfl))) ?d4
  case' d4=>refine' aq (bh (PW.pt (bW (aO ni (aA bo rfl B.len PySem.boot_len (aa (pv 2) ae)) (ay fb (aA bo rfl B.len PySem.boot_len (aa (pv 1) ae)) ak) (aS _)) (cP (aO (fc hr1) (pv 3) (aA (iz w rfl) rfl B.sorted eS (aa (bT (jY w rfl) rfl B.set jG (aa (pv 3) ae)) ae)) (aS _))))) (aw (aM cu)) bp) ?d5
  case d5=>exact aw (aM (bR (aa (aG aP (pv 1) ak (fun _ _=>rfl)) (aa (bT dX rfl B.tuple cM (aa (aZ bA (pv 1) (bb ak) ba) ae)) ae))))
  case main =>
  rcases h with ⟨z,rfl,T,kq,kn⟩ | ⟨hn,k⟩
  ·obtain⟨hl44,hws⟩:=T.bd
   refine⟨_,rfl,.str z,"places",rfl,.inl ⟨z,rfl,T,fun R v tss H1 s1 v1 T1 e1=>?_,fun hR H1 s1=>?_⟩⟩
   ·have hlen:tss.length<=44:=by have:=congrArg List.length e1;rw [List.length_map,List.length_map] at this;omega
    have nm:∀t∈tss.map (·.2),∀x∈t,aB x:=fun t ht x hx=>by
     rw [e1] at ht
     obtain⟨u,hu,rfl⟩:=List.mem_map.mp ht
     obtain⟨j,hj⟩:=List.getElem?_of_mem hu
     exact (R.li j u hj).nm x (List.mem_of_mem_tail hx)
    have tl:∀t∈tss.map (·.2),t.length<=48:=fun t ht=>by
     rw [e1] at ht
     obtain⟨u,hu,rfl⟩:=List.mem_map.mp ht
     have:=(hws u hu).2.1
     rw [List.length_tail];omega
    refine⟨_,rfl,rfl,_,rfl,aL ?_⟩
    refine⟨_,rfl,Nat.zero_le _,fun ne hne=>?_⟩
    have s2:=ao (o:=.lst []) (ag.refl H1) hne
    have n2:upd H1 ne (.lst []) ne=some (.lst []):=ah
    generalize upd H1 ne (.lst [])=H2 at s2 n2 ⊢
    refine⟨tlD (tss.map (·.2)),.list [],.lst (s2 _ _ v1) (eJ (T1.same s2)),.lst n2 .nil,(gC nm).1,(gC (tl:=[]) (by simp)).1,_,rfl,?_⟩
    rw [lR]
    cases tss with
    | nil =>
     refine cI rfl (am (kn (fun ps rs W=>?_) H2 (s1.trans s2)))
     rw [W.rows.2] at e1
     cases e1
    | cons h0 rr =>
     obtain⟨p0,ps⟩:=h0
     refine cb (by simp) ?_
     have w2:=s2 _ _ v1
     have p2:=s2 _ _ (T1 (p0,ps) List.mem_cons_self)
     have R2:aU H2 rr:=fun x hx=>s2 _ _ (T1 x (List.mem_cons_of_mem _ hx))
     have pnm:∀x∈ps,aB x:=fun x hx=>nm ps (by simp) x hx
     have ptl:ps.length<=48:=tl ps (by simp)
     have web_eq:∀{ps' rs'},cV z ps' rs'->ps'=ps/\rs'=rr.map (·.2):=fun W=>by
      have:=W.rows.2
      rw [<- e1] at this
      obtain⟨a,b⟩:=List.cons.inj this
      exact⟨a.symm,b.symm⟩
     refine⟨_,rfl,aK (j:=0) (.inl (SqL.of w2)) rfl rfl ⟨by show 0<=sizeLine;exact Nat.zero_le _,fun te hte=>?_⟩⟩
     have s3:=ao (o:=.tup []) (ag.refl H2) hte
     have t3:upd H2 te (.tup []) te=some (.tup []):=ah
     generalize upd H2 te (.tup [])=H3 at s3 t3 ⊢
     refine⟨aX ps,.tuple [],.tup (s3 _ _ p2) (DVs.strs ps),.tup t3 .nil,(cY pnm).2,(cY (ss:=[]) (by simp)).2,_,rfl,?_⟩
     rw [rR]
     by_cases hps:ps=[]
     ·refine cI hps (am (kn (fun ps' rs W=>?_) H3 ((s1.trans s2).trans s3)))
      obtain⟨a,b⟩:=web_eq W
      subst a
      exact W.ok.ne hps
     ·refine cb hps ?_
      refine⟨_,rfl,aK (j:=0) (.inl (SqL.of (s3 _ _ w2))) rfl rfl ⟨p0,_,rfl,.inr (SqT.of (s3 _ _ p2)),fun q1 hq1=>?_⟩⟩
      have s4:=ao (o:=.lst (ps.map V.str)) s3 hq1
      have q14:upd H3 q1 (.lst (ps.map V.str)) q1=some (.lst (ps.map V.str)):=ah
      generalize upd H3 q1 (.lst (ps.map V.str))=H4 at s4 q14 ⊢
      refine⟨_,rfl,aK (j:=0) (.inl (SqL.of (s4 _ _ w2))) rfl rfl ⟨p0,ps,rfl,SqT.of (s4 _ _ p2),by omega,fun st hst=>?_⟩⟩
      have s5:=ao (o:=bD w st (aJ ps.reverse)) (ag.refl H4) hst
      have t5:upd H4 st (bD w st (aJ ps.reverse)) st=some (bD w st (aJ ps.reverse)):=ah
      generalize upd H4 st (bD w st (aJ ps.reverse))=H5 at s5 t5 ⊢
      have hml:=gx ps.reverse
      rw [List.length_reverse] at hml
      refine⟨st,aJ ps.reverse,rfl,t5,by omega,fun so q7 hpm hso hq7=>?_⟩
      obtain⟨so1,so2,so3⟩:=iF hpm hso
      have s6:=ao (o:=.lst (so.map V.str)) s5 hq7
      have q76:upd H5 q7 (.lst (so.map V.str)) q7=some (.lst (so.map V.str)):=ah
      generalize upd H5 q7 (.lst (so.map V.str))=H6 at s6 q76 ⊢
      refine⟨.list (ps.map PyData.str),.list (so.map PyData.str),.lst (s6 _ _ q14) (DVs.strs ps),.lst q76 (DVs.strs so),(cY pnm).1,(cY fun x hx=>pnm x ((so3 x).mp hx)).1,_,rfl,?_⟩
      have ee:PyData.eqv (.list (ps.map PyData.str)) (.list (so.map PyData.str))=decide (ps=so):=ft ps so
      rw [ee]
      have s46:=s4.trans s6
      by_cases hts:ps=so
      ·rw [decide_eq_true hts]
       have hpo:=so2.mp hts
       refine aL ?_
       clear ee so1 so2 so3 hpm hso
       have w6:=s46 _ _ w2
       have p6:=s46 _ _ p2
       have R6:aU H6 rr:=R2.same s46
       have s06:=(s1.trans s2).trans s46
       generalize H6=H6 at w6 p6 R6 s06
       refine⟨_,rfl,_,rfl,v,_,rfl,SqL.of w6,fun q hq=>?_⟩
       rw [show aj ((p0,ps)::rr)=V.ref p0::aj rr from rfl,dY]
       have s7:=ao (o:=.lst (aj rr)) (ag.refl H6) hq
       have q77:upd H6 q (.lst (aj rr)) q=some (.lst (aj rr)):=ah
       generalize upd H6 q (.lst (aj rr))=H7 at s7 q77 ⊢
       simp only [List.length_cons] at hlen
       refine⟨q,rfl,⟨_,SqL.of q77⟩,gq (xs:=aj rr) (fits (by simp;omega)) (fun i ys σ H8=>ys=aj ((rr.take i).filter fun t=>aY ps t.2)/\H8=H7/\∃g,σ=[g,some (.ref v)]) ⟨rfl,rfl,_,rfl⟩
        (fun i ys σ H8 _ y=>⟨by rw [y.1];rw [show ∀l:List (Addr×List Str),(aj l).length=l.length from fun l=>by simp [aj]];exact vc _ _ _,by rw [y.2.1];exact SqL.of q77⟩) ?_ ?_⟩
       ·rintro i x ys σ H8 hx ⟨rfl,rfl,g,rfl⟩
        obtain⟨t,ht,rfl⟩:=dI hx
        have hmem:=List.mem_of_getElem? ht
        have ht8:=(R6.same s7) t hmem
        have tf:=tfs (fun t:Addr×List Str=>aY ps t.2) rr i t ht
        refine⟨_,rfl,t.1,_,rfl,.inr (SqT.of ht8),rfl,_,rfl,?_⟩
        by_cases h3:t.2.length=3
        ·refine cI (by rw [List.length_map,h3];rfl) ?_
         obtain⟨n,a,b,habc⟩:∃n a b,t.2=[n,a,b]:=by
          match hh:t.2,h3 with
          | [n,a,b],_=>exact⟨n,a,b,rfl⟩
         rw [habc] at ht8
         refine⟨_,rfl,aK (j:=1) (.inr (SqT.of ht8)) rfl rfl ⟨_,rfl,aK (j:=2) (.inr (SqT.of ht8)) rfl rfl ⟨rfl,_,rfl,?_⟩⟩⟩
         by_cases hab:a=b
         ·refine cD (by rw [hab]) (aL ⟨?_,rfl,_,rfl⟩)
          rw [tf,habc,show aY ps [n,a,b]=false from by simp [aY,hab]];simp
         ·refine dR (fun y=>hab (V.str.inj y)) ?_
          refine⟨_,rfl,aK (j:=1) (.inr (SqT.of ht8)) rfl rfl ⟨_,rfl,aK (j:=0) (.inl (SqL.of (s7 _ _ w6))) rfl rfl ⟨p0,ps.map V.str,rfl,.inr (SqT.of (s7 _ _ p6)),rfl,ed ps,_,rfl,?_⟩⟩⟩
          rw [eo]
          by_cases ha:a∈ps
          ·refine cI ha ?_
           refine⟨_,rfl,aK (j:=2) (.inr (SqT.of ht8)) rfl rfl ⟨_,rfl,aK (j:=0) (.inl (SqL.of (s7 _ _ w6))) rfl rfl ⟨p0,ps.map V.str,rfl,.inr (SqT.of (s7 _ _ p6)),rfl,ed ps,_,rfl,?_⟩⟩⟩
           rw [eo]
           by_cases hb:b∈ps
           ·refine cI hb ⟨_,rfl,?_,rfl,_,rfl⟩
            rw [tf,habc,show aY ps [n,a,b]=true from by simp [aY,hab,ha,hb]];simp [aj]
           ·refine cb hb ⟨?_,rfl,_,rfl⟩
            rw [tf,habc,show aY ps [n,a,b]=false from by simp [aY,hb]];simp
          ·refine cb ha (aL ⟨?_,rfl,_,rfl⟩)
           rw [tf,habc,show aY ps [n,a,b]=false from by simp [aY,ha]];simp
        ·refine cb (fun y=>h3 ?_) (aL ⟨?_,rfl,_,rfl⟩)
         ·have y':((t.2.map V.str).length:Int)=3:=V.int.inj y
          rw [List.length_map] at y'
          omega
         ·rw [tf,rV h3];simp
       ·rintro ys σ H8 ⟨rfl,rfl,g,rfl⟩ ti hti
        rw [take_all rr (by simp [aj])]
        have s8:=ao (o:=.lst (aj (rr.filter fun t=>aY ps t.2))) s7 hti
        have t8:upd H8 ti (.lst (aj (rr.filter fun t=>aY ps t.2))) ti=some (.lst (aj (rr.filter fun t=>aY ps t.2))):=ah
        generalize upd H8 ti (.lst (aj (rr.filter fun t=>aY ps t.2)))=H9 at s8 t8 ⊢
        have R9:aU H9 rr:=R6.same s8
        have hfl:(rr.filter fun t=>aY ps t.2).length<=rr.length:=List.length_filter_le _ _
        refine⟨_,rfl,ti,rfl,⟨_,SqL.of t8⟩,dZ (xs:=aj (rr.filter fun t=>aY ps t.2)) (fits (by simp;omega)) (fun i ys σ H10=>ys=(((rr.filter fun t=>aY ps t.2).take i).map fun t=>t.2.headD "").map V.str/\H10=H9/\∃g,σ=[g]) ⟨rfl,rfl,_,rfl⟩
         (fun i ys σ H10 _ y=>⟨by rw [y.1,List.length_map,List.length_map,List.length_take];omega,by rw [y.2.1];exact SqL.of t8⟩) ?_ ?_⟩
        ·rintro i x ys σ H10 hx ⟨rfl,rfl,g,rfl⟩
         obtain⟨t,ht,rfl⟩:=dI hx
         obtain⟨hm1,hm2⟩:=List.mem_filter.mp (List.mem_of_getElem? ht)
         obtain⟨n,a,b,habc,_⟩:=fD.mp hm2
         have ht8:=R9 t hm1
         rw [habc] at ht8
         refine⟨_,rfl,aK (j:=0) (.inr (SqT.of ht8)) rfl rfl ⟨?_,rfl,_,rfl⟩⟩
         rw [b4 _ _ _ _ ht,List.map_append,habc];rfl
        ·rintro ys σ H10 ⟨rfl,rfl,g,rfl⟩ na hna
         rw [take_all (rr.filter fun t=>aY ps t.2) (by simp [aj])]
         have s9:=ao (o:=.lst ((((rr.filter fun t=>aY ps t.2)).map fun t=>t.2.headD "").map V.str)) s8 hna
         have n9:upd H10 na (.lst ((((rr.filter fun t=>aY ps t.2)).map fun t=>t.2.headD "").map V.str)) na=some (.lst ((((rr.filter fun t=>aY ps t.2)).map fun t=>t.2.headD "").map V.str)):=ah
         have t9:=(ao (o:=.lst ((((rr.filter fun t=>aY ps t.2)).map fun t=>t.2.headD "").map V.str)) (ag.refl H10) hna) _ _ t8
         generalize upd H10 na (.lst ((((rr.filter fun t=>aY ps t.2)).map fun t=>t.2.headD "").map V.str))=H11 at s9 n9 t9 ⊢
         refine⟨_,rfl,ti,_,rfl,.inl (SqL.of t9),_,rfl,v,_,rfl,.inl (SqL.of (s9 _ _ w6)),_,_,rfl,rfl,_,_,rfl,rfl,_,rfl,?_⟩
         by_cases hall:∀t∈rr,aY ps t.2=true
         ·have hf:(rr.filter fun t=>aY ps t.2)=rr:=List.filter_eq_self.mpr hall
          rw [hf] at n9 t9 ⊢
          refine cb (by simp [aj]) ?_
          have hnn:∀x∈rr.map (fun t=>t.2.headD ""),aB x:=fun x hx=>by
           obtain⟨t,ht,rfl⟩:=List.mem_map.mp hx
           obtain⟨n,a,b,habc,_⟩:=fD.mp (hall t ht)
           rw [habc]
           exact nm t.2 (by simp;exact .inr ⟨_,ht⟩) n (by rw [habc];simp)
          refine⟨_,rfl,_,rfl,na,rr.map (fun t=>t.2.headD ""),rfl,SqL.of n9,by simp;omega,fun st hst=>?_⟩
          have s10:=ao (o:=bD w st (aJ (rr.map (fun t=>t.2.headD "")).reverse)) (ag.refl H11) hst
          have t10:upd H11 st (bD w st (aJ (rr.map (fun t=>t.2.headD "")).reverse)) st=some (bD w st (aJ (rr.map (fun t=>t.2.headD "")).reverse)):=ah
          generalize upd H11 st (bD w st (aJ (rr.map (fun t=>t.2.headD "")).reverse))=H12 at s10 t10 ⊢
          have hml:=gx (rr.map (fun t=>t.2.headD "")).reverse
          rw [List.length_reverse,List.length_map] at hml
          refine⟨st,_,rfl,t10,by omega,fun so q7 hpm hso hq7=>?_⟩
          obtain⟨so1,so2,so3⟩:=iF hpm hso
          have s11:=ao (o:=.lst (so.map V.str)) s10 hq7
          have q11:upd H12 q7 (.lst (so.map V.str)) q7=some (.lst (so.map V.str)):=ah
          generalize upd H12 q7 (.lst (so.map V.str))=H13 at s11 q11 ⊢
          refine⟨.list ((rr.map (fun t=>t.2.headD "")).map PyData.str),.list (so.map PyData.str),.lst (s11 _ _ n9) (DVs.strs _),.lst q11 (DVs.strs so),(cY hnn).1,(cY fun x hx=>hnn x ((so3 x).mp hx)).1,_,rfl,?_⟩
          have ee:PyData.eqv (.list ((rr.map (fun t=>t.2.headD "")).map PyData.str)) (.list (so.map PyData.str))=decide (rr.map (fun t=>t.2.headD "")=so):=ft _ so
          rw [ee]
          have s13:=s9.trans s11
          by_cases hns:rr.map (fun t=>t.2.headD "")=so
          ·rw [decide_eq_true hns]
           have hro:((rr.map (·.2)).map fun r=>r.headD "").Pairwise nlt:=by rw [List.map_map];exact so2.mp hns
           have W:cV z ps (rr.map (·.2)):=R.web e1.symm hps hpo (fun r hr=>by
            obtain⟨t,ht,rfl⟩:=List.mem_map.mp hr
            exact fD.mp (hall t ht)) hro
           refine aL ?_
           refine⟨_,rfl,aK (j:=0) (.inl (SqL.of (s13 _ _ w6))) rfl rfl ⟨_,rfl,_,rfl,v,_,rfl,SqL.of (s13 _ _ w6),fun q9 hq9=>?_⟩⟩
           rw [show aj ((p0,ps)::rr)=V.ref p0::aj rr from rfl,dY]
           have s14:=ao (o:=.lst (aj rr)) s13 hq9
           have q14':upd H13 q9 (.lst (aj rr)) q9=some (.lst (aj rr)):=ah
           generalize upd H13 q9 (.lst (aj rr))=H14 at s14 q14' ⊢
           refine⟨q9,_,rfl,.inl ⟨SqL.of q14',fun ra hra=>?_⟩⟩
           have s15:=ao (o:=.tup (aj rr)) s14 hra
           have r15:upd H14 ra (.tup (aj rr)) ra=some (.tup (aj rr)):=ah
           generalize upd H14 ra (.tup (aj rr))=H15 at s15 r15 ⊢
           refine⟨by show 2<=sizeLine;decide,fun u hu=>?_⟩
           have s16:=ao (o:=.tup [V.ref p0,V.ref ra]) s15 hu
           have u16:upd H15 u (.tup [V.ref p0,V.ref ra]) u=some (.tup [V.ref p0,V.ref ra]):=ah
           have r16:=(ao (o:=.tup [V.ref p0,V.ref ra]) (ag.refl H15) hu) _ _ r15
           exact kq ps _ W u _ (s06.trans s16) (.tup u16 (.cons (.tup (s16 _ _ p6) (DVs.strs ps)) (.cons (.tup r16 (eJ (R6.same s16))) .nil)))
          ·rw [decide_eq_false hns]
           refine am (kn (fun ps' rs W=>?_) H13 (s06.trans s13))
           obtain⟨a,b⟩:=web_eq W
           subst a b
           refine hns (so2.mpr ?_)
           have:=W.ok.ro
           rwa [List.map_map] at this
         ·have hlt:(rr.filter fun t=>aY ps t.2).length < rr.length:=by
           refine Nat.lt_of_le_of_ne hfl fun y=>hall ?_
           exact List.filter_eq_self.mp ((List.filter_sublist).eq_of_length y)
          have l1:∀l:List (Addr×List Str),(aj l).length=l.length:=fun l=>by simp [aj]
          refine cI (by rw [l1,l1,List.length_cons];omega) (am (kn (fun ps' rs W=>hall fun t ht=>?_) H11 (s06.trans s9)))
          obtain⟨a,b⟩:=web_eq W
          subst a b
          obtain⟨n,a,b,h5,_,h6,h7,h8⟩:=W.ok.rn t.2 (List.mem_map_of_mem ht)
          exact fD.mpr ⟨n,a,b,h5,h6,h7,h8⟩
      ·rw [decide_eq_false hts]
       refine am (kn (fun ps' rs W=>hts ?_) H6 ((s1.trans s2).trans s46))
       obtain⟨a,b⟩:=web_eq W
       subst a
       exact so2.mpr W.ok.po
   ·refine⟨_,rfl,rfl,_,rfl,am (am (kn (fun ps rs W=>hR W.rows.1) H1 s1))⟩
  ·exact⟨_,rfl,x,"places",rfl,.inr ⟨hn,_,rfl,rfl,_,rfl,am (am k)⟩⟩
end
theorem gD (z:Str) {i:Nat} (h:i<=z.cps.toList.length):(Txt.slice z none (some (i:Int))).cps.toList=z.cps.toList.take i:=by
 rw [eq_of_beq (PyProof.Rows.slice_closes_to (x:=z) (j:=(i:Int)) ⟨by omega,by omega⟩)]
 simp
theorem gk (z:Str) (i:Nat):(Txt.slice z (some (i:Int)) none).cps.toList=z.cps.toList.drop i:=by
 have key:∀j:Nat,j<=z.cps.toList.length->(Txt.slice z (some (j:Int)) none).cps.toList=z.cps.toList.drop j:=fun j h=>by
  rw [eq_of_beq (PyProof.Rows.slice_closes_from (x:=z) (i:=(j:Int)) ⟨by omega,by omega⟩)]
  rw [List.take_of_length_le (by rw [List.length_drop];omega)]
  simp
 by_cases h:i<=z.cps.toList.length
 ·exact key i h
 ·have hl:z.length=z.cps.toList.length:=str_len z
  have e:Txt.slice z (some (i:Int)) none=Txt.slice z (some (z.length:Int)) none:=by
   have e1:Builtin.Str.strSliceIndices (some (i:Int)) none 1 z.length=Builtin.Str.strSliceIndices (some (z.length:Int)) none 1 z.length:=by
    have a:max (0:Int) (min (i:Int) (z.length:Int))=z.length:=by omega
    have b:max (0:Int) (min (z.length:Int) (z.length:Int))=z.length:=by omega
    have c:¬ ((i:Int) < 0):=by omega
    have d:¬ ((z.length:Int) < 0):=by omega
    simp [Builtin.Str.strSliceIndices,a,b,c,d]
   unfold Txt.slice
   rw [e1]
  rw [e,key z.length (by omega),hl,List.drop_length,List.drop_of_length_le (by omega)]
theorem fw (a b:Str):(a++b).cps.toList=a.cps.toList++b.cps.toList:=by rw [Str.cps_append,Array.toList_append]
noncomputable abbrev cR:Str:=" !\"#$&'()*+,-./0123456789:;<=>?@ABCDEFGHIJKLMNOPQRSTUVWXYZ[\\]^_`"
noncomputable abbrev cQ:Str:="abcdefghijklmnopqrstuvwxyz{|}~  \n\n"
theorem dH:cR.length=64/\cQ.length=34/\(cR++cQ).length=98:=by decide +kernel
theorem sk:∀c∈(cR++cQ).cps.toList,c < 128:=by
 have:(cR++cQ).cps.toList.all (fun c=>decide (c < 128))=true:=by decide +kernel
 intro c hc
 simpa using List.all_eq_true.mp this c hc
section
variable {P:Program}{w:World}{K:PySem.W.Frag}{mg:Str->Option Value}{base:Heap}
noncomputable def gF:Sp:=fun vs H Q _=>∃(p:Addr) (z:Str) (b n m:Nat),vs=[.ref p,.str z]/\Pot H p/\TxB b n m z/\1<=n/\n<=900/\m<=20000/\∀z' H',Pot H' p->Kp [p] H H'->TxB (2 * b + 1) (n + 1) (2 * m + 2) z'->Q (.str z') H'
noncomputable abbrev N37:List Str:=["_law_pot_here","_law_text","_law_at_here","_law_signs","_law_sign","_law_some"]
theorem fo:aR N37 ["_law_pot_here","_law_text"] (aI (top 37)):=⟨rfl,rfl,rfl,by decide +kernel,rfl,by decide +kernel,by decide +kernel⟩
theorem tw {f:Addr}{fd:FuncData} (F:Fun K "_law_sign_spoilt" "_law_sign_spoilt" (top 37) f fd) (B:Bl mg) (Ft:Fn P w K mg base 1 "_law_take" ["_law_pot_here","_law_many"] de):aH P w K mg base CX0 2 f fd ["_law_pot_here","_law_text"] gF:=by
 refine F.ok fo (fun vs H Q E h=>?_) (fun cdv A outer s H vs Q E hr h=>?_)
 ·obtain⟨p,z,b,n,m,rfl,_⟩:=h
  rfl
 ·obtain⟨p,z,b,n,m,rfl,hp,T,hn1,hn,hm,k⟩:=h
  refine' ⟨_,aq (aD (i:=2) fo.nd rfl (Or.inl rfl) (aC Ft hr (aa (pv 0) (aa (ay bL (aA gi rfl B.len PySem.boot_len (aa (pv 1) ae)) ak) ae)))) ?d1,?main⟩
  case' d1=>refine' aq (aD (i:=3) fo.nd rfl (Or.inl rfl) av) ?d2
  case' d2=>refine' aq (aD (i:=3) fo.nd rfl (Or.inl rfl) (ay b5 (pv 3) av)) ?d3
  case' d3=>refine' aq (aD (i:=4) fo.nd rfl (Or.inl rfl) (aG aP (pv 3) (aC Ft hr (aa (pv 0) (aa (aA gi rfl B.len PySem.boot_len (aa (pv 3) ae)) ae))) (fun _ _=>rfl))) ?d4
  case' d4=>refine' aq (aD (i:=5) fo.nd rfl (Or.inl rfl) (be (aa (ay b5 (ay b5 (aZ eE (pv 1) ba (bb (pv 2))) (pv 4)) (aZ eE (pv 1) (bb (pv 2)) ba))
   (aa (ay b5 (aZ eE (pv 1) ba (bb (pv 2))) (aZ eE (pv 1) (bb (ay bL (pv 2) ak)) ba))
   (aa (ay b5 (ay b5 (aZ eE (pv 1) ba (bb (pv 2))) (pv 4)) (aZ eE (pv 1) (bb (ay bL (pv 2) ak)) ba)) ae))))) ?d5
  case d5=>exact aw (aM (aG aP (pv 5) (aC Ft hr (aa (pv 0) (aa ak ae))) (fun _ _=>rfl)))
  case main =>
  have hz:=T.ln
  have hzl:=str_len z
  have hzs:z.length<=sizeLine:=by rw [sizeLine_eq];omega
  refine⟨_,rfl,_,rfl,z,rfl,hzs,_,_,rfl,rfl,p,_,rfl,hp,by omega,by omega,fun at' H1 a0 a1 P1 e1=>?_⟩
  have K1:Kp [p] H H1:=fun b o e nb=>by rw [e1 b (by simpa using nb)];exact e
  obtain⟨i,rfl⟩:∃i:Nat,at'=i:=⟨at'.toNat,by omega⟩
  have hi:i<=z.cps.toList.length:=by omega
  refine⟨_,rfl,cR,cQ,rfl,rfl,by rw [dH.1,dH.2.1];decide,?_⟩
  refine⟨_,rfl,_,rfl,_,rfl,cR++cQ,rfl,by rw [dH.2.2];decide,p,_,rfl,P1,by rw [dH.2.2];decide,by rw [dH.2.2];decide,fun r H2 r0 r1 P2 e2=>?_⟩
  have K2:Kp [p] H H2:=K1.trans fun b o e nb=>by rw [e2 b (by simpa using nb)];exact e
  rw [dH.2.2] at r1
  have hcl:(cR++cQ).cps.toList.length=98:=by rw [<- str_len];exact dH.2.2
  have hrl:r.toNat < (cR++cQ).cps.toList.length:=by rw [hcl];omega
  refine .inr (.inr ⟨cR++cQ,r,(cR++cQ).cps.toList[r.toNat],rfl,rfl,by rw [dH.2.2];decide,dM (j:=r.toNat) (by omega) (List.getElem?_eq_getElem hrl),?_⟩)
  have hc:=sk _ (List.getElem_mem hrl)
  generalize (cR++cQ).cps.toList[r.toNat]=c at hc ⊢
  have hto:(Txt.slice z none (some (i:Int))).length<=20000:=by rw [str_len,gD z hi,List.length_take];omega
  have hfr:∀j:Nat,(Txt.slice z (some (j:Int)) none).length<=20000:=fun j=>by rw [str_len,gk,List.length_drop];omega
  have h1:(⟨#[c]⟩:Str).length=1:=rfl
  have t1:TxB (2 * b + 1) (n + 1) (2 * m + 2) (Txt.slice z none (some (i:Int))++(⟨#[c]⟩:Str)++Txt.slice z (some (i:Int)) none):=T.sign (x:=z.cps.toList.take i) (u:=[]) (v:=[c]) (y:=z.cps.toList.drop i) (by simp) (by rw [fw,fw,gD z hi,gk]) (by simp) (by simpa using hc)
  have split3:z.cps.toList=z.cps.toList.take i++(z.cps.toList.drop i).take 1++z.cps.toList.drop (i + 1):=by
   rw [List.append_assoc,<- List.drop_drop,List.take_append_drop,List.take_append_drop]
  have t2:TxB (2 * b + 1) (n + 1) (2 * m + 2) (Txt.slice z none (some (i:Int))++Txt.slice z (some ((i:Int) + 1)) none):=T.sign (v:=[]) split3 (by rw [fw,gD z hi,show ((i:Int) + 1)=((i + 1:Nat):Int) from rfl,gk];simp) (by simp) (by simp)
  have t3:TxB (2 * b + 1) (n + 1) (2 * m + 2) (Txt.slice z none (some (i:Int))++(⟨#[c]⟩:Str)++Txt.slice z (some ((i:Int) + 1)) none):=T.sign (v:=[c]) split3 (by rw [fw,fw,gD z hi,show ((i:Int) + 1)=((i + 1:Nat):Int) from rfl,gk]) (by simp) (by simpa using hc)
  have hfr1:(Txt.slice z (some ((i:Int) + 1)) none).length<=20000:=hfr (i + 1)
  have hfr0:=hfr i
  have big:∀a b:Nat,a<=20001->b<=20001->a + b<=sizeLine:=fun a b ha hb=>by rw [sizeLine_eq];omega
  refine⟨_,rfl,_,rfl,_,rfl,z,rfl,hzs,_,rfl,_,_,rfl,rfl,big _ _ (by omega) (by omega),_,rfl,_,rfl,_,rfl,z,rfl,hzs,_,_,rfl,rfl,big _ _ (by rw [Str.length_append];omega) (by omega),?_⟩
  refine⟨_,rfl,_,rfl,_,rfl,z,rfl,hzs,_,rfl,_,rfl,_,_,rfl,rfl,_,rfl,z,rfl,hzs,_,_,rfl,rfl,big _ _ (by omega) (by omega),?_⟩
  refine⟨_,rfl,_,rfl,_,rfl,z,rfl,hzs,_,rfl,_,_,rfl,rfl,big _ _ (by omega) (by omega),_,rfl,_,rfl,_,_,rfl,rfl,_,rfl,z,rfl,hzs,_,_,rfl,rfl,big _ _ (by rw [Str.length_append];omega) (by omega),?_⟩
  refine⟨by show 3<=sizeLine;decide,fun q hq=>?_⟩
  have nqp:q≠p:=fun y=>by obtain⟨o,e⟩:=P2.some;rw [<- y,hq] at e;cases e
  have q3:∀(o:HO),upd H2 q o q=some o:=fun o=>ah
  refine⟨_,rfl,_,rfl,p,3,rfl,P2.keep fun o e=>by rw [ai nqp.symm];exact e,by decide,by decide,fun j H4 j0 j1 P4 e4=>?_⟩
  have K4:Kp [p] H H4:=fun b o e nb=>by
   have nb':b≠p:=by simpa using nb
   have h2:=K2 b o e nb
   rw [e4 b nb',ai (au h2 hq)]
   exact h2
  have hq4:=(e4 q nqp).trans (q3 _)
  obtain⟨j',rfl⟩:∃j':Nat,j=j':=⟨j.toNat,by omega⟩
  have hj:j'=0\/j'=1\/j'=2:=by omega
  rcases hj with rfl | rfl | rfl
  ·exact aK (j:=0) (.inl (SqL.of hq4)) rfl rfl (k _ H4 P4 K4 t1)
  ·exact aK (j:=1) (.inl (SqL.of hq4)) rfl rfl (k _ H4 P4 K4 t2)
  ·exact aK (j:=2) (.inl (SqL.of hq4)) rfl rfl (k _ H4 P4 K4 t3)
end
theorem gy (xs:List V) {n:Nat} (h:n<=xs.length):bE xs (some (n:Int)) none=xs.drop n:=by
 unfold bE
 have h0:¬ ((n:Int) < 0):=by omega
 have h1:min n xs.length=n:=by omega
 simp [HT.sIx,h0]
 rw [List.take_of_length_le (by simp),h1]
theorem gS (xs:List V) {n:Nat} (h:n<=xs.length):bE xs none (some (n:Int))=xs.take n:=by
 unfold bE
 have h0:¬ ((n:Int) < 0):=by omega
 have h1:min n xs.length=n:=by omega
 simp [HT.sIx,h0]
 try rw [h1]
theorem jm (ss:List Str):(ss.map (·.length)).sum + ss.length=wt ss:=by
 induction ss with
 | nil=>rfl
 | cons x r ih =>
  rw [el,List.map_cons,List.sum_cons,List.length_cons,str_len]
  omega
noncomputable def LsY (t:TE) (σ:L2.St) (H:Hp) (ss:List Str):Prop:=∀H',ag H H'->∀Q:VK,(∀p H2,ag H' H2->H2 p=some (.lst (ss.map V.str))->H' p=none->Q (.ref p) H2)->t σ H' Q
noncomputable def PoI (t:TO) (σ:L2.St) (o:Option Int):Prop:=∀H Q,Q o H->t σ H Q
theorem PoI.none {σ:L2.St}:PoI lT σ Option.none:=fun H Q h=>h
theorem PoI.var {σ:L2.St}{i:Nat}{k:Int} (h:σ[i]?=Option.some (Option.some (.int k))):PoI (jA (bZ i)) σ (Option.some k):=fun H Q q=>⟨_,h,k,rfl,q⟩
theorem LsY.sl {K:PySem.W.Frag}{σ:L2.St}{H:Hp}{i:Nat}{a:Addr}{ss ss':List Str}{lo hi:TO}{l h:Option Int} (hi':σ[i]?=some (some (.ref a))) (ha:H a=some (.lst (ss.map V.str))) (p1:PoI lo σ l) (p2:PoI hi σ h) (e:bE (ss.map V.str) l h=ss'.map V.str):LsY (tSl (nY K) (bZ i) lo hi) σ H ss':=fun H' s Q k=>by
 refine⟨_,hi',p1 _ _ (p2 _ _ ⟨a,_,rfl,SqL.of (s _ _ ha),fun q hq=>?_⟩)⟩
 rw [e]
 exact k q _ (ao (ag.refl _) hq) ah hq
theorem LsY.cat {t1 t2:TE}{σ:L2.St}{H:Hp}{a b:List Str} (h1:LsY t1 σ H a) (h2:LsY t2 σ H b) (hz:a.length + b.length<=100000):LsY (tOp jO t1 t2) σ H (a++b):=fun H' s Q k =>
 h1 H' s _ fun p1 H1 s1 e1 n1=>h2 H1 (s.trans s1) _ fun p2 H2 s2 e2 n2=>by
  refine⟨p1,p2,_,_,rfl,rfl,s2 _ _ e1,e2,by rw [List.length_map,List.length_map,sizeLine_eq];omega,fun q hq=>?_⟩
  have s3:=ao (o:=.lst (a.map V.str++b.map V.str)) ((s1.trans s2)) hq
  refine k q _ s3 (by rw [ah,List.map_append]) ?_
  cases hc:H' q with
  | none=>rfl
  | some o=>rw [(s1.trans s2) _ _ hc] at hq;cases hq
theorem PoI.succ {σ:L2.St}{j:Nat}{x:Int} (h:σ[j]?=Option.some (Option.some (.int x))):PoI (jA (tOp (rI0 fun i j=>.int (i + j)) (bZ j) (tC (.int 1)))) σ (Option.some (x + 1)):=fun H Q q=>⟨_,h,_,_,rfl,rfl,_,rfl,q⟩
theorem LsY.one {K:PySem.W.Frag}{σ:L2.St}{H:Hp}{j:Nat}{r:Addr}{ws:List Str} (h9:σ[j]?=some (some (.ref r))) (hr:H r=some (.lst (ws.map V.str))) (hz:wt ws<=100000) :
  LsY (fk (cA (tBM K "str" (fun x xs H Q=>∃(z:Str) (p:Addr) (ss:List Str),x=.str z/\xs=[.ref p]/\SqL K H p (ss.map V.str)/\(ss.map (·.length)).sum + ss.length * z.length<=16777216/\Q (.str (Txt.join z ss)) H) (tC (.str blank)) (cA (bZ j) cT)) cT)) σ H [Txt.join blank ws]:=fun H' s Q k=>by
 refine⟨rfl,_,h9,blank,r,ws,rfl,rfl,SqL.of (s _ _ hr),?_,by show 1<=sizeLine;decide,fun q hq=>k q _ (ao (ag.refl _) hq) ah hq⟩
 have e1:blank.length=1:=by decide
 have:=jm ws
 rw [e1];omega
section
variable {P:Program}{w:World}{K:PySem.W.Frag}{mg:Str->Option Value}{base:Heap}
noncomputable abbrev N38:List Str:=["_law_pot_here","_law_text","_law_lines","_law_at_here","_law_words","_law_place","_law_other","_law_changed","_law_some","_law_row"]
theorem dA:aR N38 ["_law_pot_here","_law_text"] (aI (top 38)):=⟨rfl,rfl,rfl,by decide +kernel,rfl,by decide +kernel,by decide +kernel⟩
theorem o9 {f:Addr}{fd:FuncData} (F:Fun K "_law_lines_spoilt" "_law_lines_spoilt" (top 38) f fd) (B:Bl mg) (Ft:Fn P w K mg base 1 "_law_take" ["_law_pot_here","_law_many"] de):aH P w K mg base CX0 2 f fd ["_law_pot_here","_law_text"] gF:=by
 refine F.ok dA (fun vs H Q E h=>?_) (fun cdv A outer s H vs Q E hr h=>?_)
 ·obtain⟨p,z,b,n,m,rfl,_⟩:=h
  rfl
 ·obtain⟨p,z,b,n,m,rfl,hp,T,hn1,hn,hm,k⟩:=h
  refine' ⟨_,aq (aD (i:=2) dA.nd rfl (Or.inl rfl) (bI PySem.F.plainAttrs_str PySem.F.slot_str_split PySem.F.type_str_split eR (pv 1) (aa av ae))) ?d1,?main⟩
  case' d1=>refine' aq (aD (i:=3) dA.nd rfl (Or.inl rfl) (aC Ft hr (aa (pv 0) (aa (aA bo rfl B.len PySem.boot_len (aa (pv 2) ae)) ae)))) ?d2
  case' d2=>refine' aq (aD (i:=4) dA.nd rfl (Or.inl rfl) (bI PySem.F.plainAttrs_str PySem.F.slot_str_split PySem.F.type_str_split eR (aG aP (pv 2) (pv 3) (fun _ _=>rfl)) (aa av ae))) ?d3
  case' d3=>refine' aq (aD (i:=5) dA.nd rfl (Or.inl rfl) (aC Ft hr (aa (pv 0) (aa (aA bo rfl B.len PySem.boot_len (aa (pv 4) ae)) ae)))) ?d4
  case' d4=>refine' aq (aD (i:=6) dA.nd rfl (Or.inl rfl) (aC Ft hr (aa (pv 0) (aa (aA bo rfl B.len PySem.boot_len (aa (pv 4) ae)) ae)))) ?d5
  case' d5=>refine' aq (aD (i:=7) dA.nd rfl (Or.inl rfl) (bT gh rfl B.list gP (aa (pv 4) ae))) ?d6
  case' d6=>refine' aq (eA (bR (aa (aG aP (pv 4) (pv 6) (fun _ _=>rfl)) (aa (aG aP (pv 4) (pv 5) (fun _ _=>rfl)) ae))) (fQ rfl (cm (gM (pv 7) (pv 5) set_list) (cm (gM (pv 7) (pv 6) set_list) fG)))) ?d7
  case' d7=>refine' aq (aD (i:=8) dA.nd rfl (Or.inl rfl) (be (aa (ay b6 (aZ bA (pv 2) ba (bb (pv 3))) (aZ bA (pv 2) (bb (ay bL (pv 3) ak)) ba))
   (aa (ay b6 (aZ bA (pv 2) ba (bb (ay bL (pv 3) ak))) (aZ bA (pv 2) (bb (pv 3)) ba))
   (aa (ay b6 (aZ bA (pv 2) (bb (pv 3)) ba) (aZ bA (pv 2) ba (bb (pv 3)))) ae))))) ?d8
  case' d8=>refine' aq (cO PassesOwn.never rfl (ez (bR (aa (ay b6 (aZ bA (pv 4) ba (bb (ay bL (pv 5) ak))) (aZ bA (pv 4) (bb (pv 5)) ba))
   (aa (ay b6 (aZ bA (pv 4) ba (bb (pv 5))) (aZ bA (pv 4) (bb (ay bL (pv 5) ak)) ba)) (aa (pv 7) ae))))) (bw (i:=9) dA.nd rfl (Or.inl rfl)) ?d9) ?d10
  case d9=>exact aw (da (bI PySem.F.plainAttrs_list PySem.F.slot_list_append PySem.F.type_list_append dG (pv 8) (aa (ay b6 (ay b6 (aZ bA (pv 2) ba (bb (pv 3))) (be (aa (bI PySem.F.plainAttrs_str PySem.F.slot_str_join PySem.F.type_str_join fK av (aa (pv 9) ae)) ae))) (aZ bA (pv 2) (bb (ay bL (pv 3) ak)) ba)) ae)))
  case d10=>exact aw (aM (bI PySem.F.plainAttrs_str PySem.F.slot_str_join PySem.F.type_str_join fK av (aa (aG aP (pv 8) (aC Ft hr (aa (pv 0) (aa (aA bo rfl B.len PySem.boot_len (aa (pv 8) ae)) ae))) (fun _ _=>rfl)) ae)))
  case main =>
  have hz:=T.ln
  have hls:=T.ls
  have hz2:z.length + 2<=sizeLine:=by rw [sizeLine_eq,str_len];omega
  have hLne:Txt.split z feed≠[]:=by rw [fF];exact ei z 10
  refine⟨_,rfl,rfl,z,feed,rfl,rfl,by decide,hz2,fun l0 hl0=>?_⟩
  generalize Txt.split z feed=L at hls hLne
  have hLl:=hls.n
  have hL1:1<=L.length:=by cases L with | nil=>exact absurd rfl hLne | cons x r=>simp
  have s1:=ao (o:=.lst (L.map V.str)) (ag.refl H) hl0
  have l1:upd H l0 (.lst (L.map V.str)) l0=some (.lst (L.map V.str)):=ah
  have P1:Pot (upd H l0 (.lst (L.map V.str))) p:=hp.keep fun o e=>s1 _ _ e
  generalize upd H l0 (.lst (L.map V.str))=H1 at s1 l1 P1 ⊢
  have nl0:l0≠p:=cN P1 l1
  refine⟨_,rfl,_,rfl,l0,_,rfl,.inl (SqL.of l1),p,_,rfl,P1,by rw [List.length_map];omega,by rw [List.length_map];omega,fun at' H2 a0 a1 P2 e2=>?_⟩
  rw [List.length_map] at a1
  obtain⟨i,rfl⟩:∃i:Nat,at'=i:=⟨at'.toNat,by omega⟩
  have hi:i < L.length:=by omega
  have l2:H2 l0=some (.lst (L.map V.str)):=(e2 l0 nl0).trans l1
  have K2:Kp [p] H H2:=(Kp.same s1).turn e2
  have hLi:L[i]?=some L[i]:=List.getElem?_eq_getElem hi
  generalize L[i]=l at hLi
  have hln:=hls.ln l (List.mem_of_getElem? hLi)
  obtain⟨w1,w2,w3⟩:=hln.words
  have hlw:l.cps.toList.length<=20000:=by have:=eK L hLi;have:=hls.m;omega
  refine⟨_,rfl,_,rfl,aK (v:=.str l) (j:=i) (.inl (SqL.of l2)) rfl (by rw [List.getElem?_map,hLi];rfl) ⟨rfl,l,blank,rfl,rfl,by decide,by rw [sizeLine_eq,str_len];omega,fun w0 hw0=>?_⟩⟩
  have hrow:=fun (ws:List Str)=>hln.row (ws:=ws)
  have hWne:Txt.split l blank≠[]:=by rw [blank_mk];exact ei l 32
  have hWl:(Txt.split l blank).length<=20001:=by
   have:=jm (Txt.split l blank);omega
  generalize Txt.split l blank=W at w1 w2 w3 hWne hWl hrow
  have hW1:1<=W.length:=by cases W with | nil=>exact absurd rfl hWne | cons x r=>simp
  have s3:=ao (o:=.lst (W.map V.str)) (ag.refl H2) hw0
  have w3':upd H2 w0 (.lst (W.map V.str)) w0=some (.lst (W.map V.str)):=ah
  have P3:Pot (upd H2 w0 (.lst (W.map V.str))) p:=P2.keep fun o e=>s3 _ _ e
  have K3:Kp [p] H (upd H2 w0 (.lst (W.map V.str))):=K2.of_same s3
  have l3:=s3 _ _ l2
  generalize upd H2 w0 (.lst (W.map V.str))=H3 at s3 w3' P3 K3 l3 ⊢
  have nw0:w0≠p:=cN P3 w3'
  refine⟨_,rfl,_,rfl,w0,_,rfl,.inl (SqL.of w3'),p,_,rfl,P3,by rw [List.length_map];omega,by rw [List.length_map];omega,fun pa H4 pa0 pa1 P4 e4=>?_⟩
  rw [List.length_map] at pa1
  obtain⟨a,rfl⟩:∃a:Nat,pa=a:=⟨pa.toNat,by omega⟩
  have w4:=(e4 w0 nw0).trans w3'
  refine⟨_,rfl,_,rfl,w0,_,rfl,.inl (SqL.of w4),p,_,rfl,P4,by rw [List.length_map];omega,by rw [List.length_map];omega,fun pb H5 pb0 pb1 P5 e5=>?_⟩
  rw [List.length_map] at pb1
  obtain⟨b',rfl⟩:∃b':Nat,pb=b':=⟨pb.toNat,by omega⟩
  have w5:=(e5 w0 nw0).trans w4
  have l5:=(e5 l0 nl0).trans ((e4 l0 nl0).trans l3)
  have K5:Kp [p] H H5:=(K3.turn e4).turn e5
  have haW:a < W.length:=by omega
  have hbW:b' < W.length:=by omega
  have hWa:W[a]?=some W[a]:=List.getElem?_eq_getElem haW
  have hWb:W[b']?=some W[b']:=List.getElem?_eq_getElem hbW
  generalize W[a]=xa at hWa
  generalize W[b']=xb at hWb
  refine⟨_,rfl,w0,_,rfl,.inl (SqL.of w5),fun c0 hc0=>?_⟩
  have s6:=ao (o:=.lst (W.map V.str)) (ag.refl H5) hc0
  have c6:upd H5 c0 (.lst (W.map V.str)) c0=some (.lst (W.map V.str)):=ah
  generalize upd H5 c0 (.lst (W.map V.str))=H6 at s6 c6 ⊢
  refine⟨_,rfl,_,rfl,aK (j:=b') (.inl (SqL.of (s6 _ _ w5))) rfl (by rw [List.getElem?_map,hWb];rfl) ⟨_,rfl,_,rfl,aK (j:=a) (.inl (SqL.of (s6 _ _ w5))) rfl (by rw [List.getElem?_map,hWa];rfl) ⟨by show 2<=sizeLine;decide,fun t0 ht0=>?_⟩⟩⟩
  have s7:=ao (o:=.tup [.str xb,.str xa]) (ag.refl H6) ht0
  have t7:upd H6 t0 (.tup [.str xb,.str xa]) t0=some (.tup [.str xb,.str xa]):=ah
  generalize upd H6 t0 (.tup [.str xb,.str xa])=H7 at s7 t7 ⊢
  have c7:=s7 _ _ c6
  refine⟨t0,_,rfl,SqT.of t7,rfl,_,_,rfl,_,rfl,_,rfl,c0,_,_,a,rfl,rfl,c7,?_,_,_,rfl,_,rfl,_,rfl,c0,_,_,b',rfl,rfl,ah,?_,rfl,?_⟩
  ·rw [List.length_map];simp [ixN];omega
  ·rw [List.length_set,List.length_map];simp [ixN];omega
  have hset:((W.map V.str).set a (.str xb)).set b' (.str xa)=(((W.set a xb).set b' xa)).map V.str:=by rw [List.map_set,List.map_set]
  have hch:wt ((W.set a xb).set b' xa)=wt W:=by
   have h1:=mF W (i:=a) (x:=xa) (y:=xb) hWa
   have h2:(W.set a xb)[b']?=some xb:=by
    by_cases q:a=b'
    ·subst q
     rw [List.getElem?_set_self haW]
    ·rw [List.getElem?_set_ne q]
     exact hWb
   have h3:=mF (W.set a xb) (i:=b') (x:=xb) (y:=xa) h2
   omega
  have hcm:∀x∈(W.set a xb).set b' xa,x∈W:=fun x hx=>by
   rcases List.mem_or_eq_of_mem_set hx with q | q
   ·rcases List.mem_or_eq_of_mem_set q with q' | q'
    ·exact q'
    ·rw [q'];exact List.mem_of_getElem? hWb
   ·rw [q];exact List.mem_of_getElem? hWa
  have hcl:((W.set a xb).set b' xa).length=W.length:=by rw [List.length_set,List.length_set]
  rw [hset]
  generalize (W.set a xb).set b' xa=C at hch hcm hcl
  have nc:∀{q:Addr}{o:HO},H5 q=some o->q≠c0:=fun e y=>by rw [y,hc0] at e;cases e
  have kc:∀(q:Addr) (o:HO),H5 q=some o->upd (upd H7 c0 (.lst ((W.map V.str).set a (.str xb)))) c0 (.lst (C.map V.str)) q=some o:=fun q o e=>by
   rw [ai (nc e),ai (nc e)]
   exact s7 _ _ (s6 _ _ e)
  have c8:upd (upd H7 c0 (.lst ((W.map V.str).set a (.str xb)))) c0 (.lst (C.map V.str)) c0=some (.lst (C.map V.str)):=ah
  generalize upd (upd H7 c0 (.lst ((W.map V.str).set a (.str xb)))) c0 (.lst (C.map V.str))=H8 at kc c8 ⊢
  have s58:ag H5 H8:=fun q o e=>kc q o e
  have l8:=s58 _ _ l5
  have w8:=s58 _ _ w5
  have P8:Pot H8 p:=P5.keep fun o e=>s58 _ _ e
  have K8:Kp [p] H H8:=K5.of_same s58
  clear s6 c6 s7 t7 c7 kc
  have lt:i<=(L.map V.str).length:=by rw [List.length_map];omega
  have lt1:i + 1<=(L.map V.str).length:=by rw [List.length_map];omega
  have at1:a<=(W.map V.str).length:=by rw [List.length_map];omega
  have at2:a + 1<=(W.map V.str).length:=by rw [List.length_map];omega
  have toL:bE (L.map V.str) none (some (i:Int))=(L.take i).map V.str:=by rw [gS _ lt,List.map_take]
  have toL1:bE (L.map V.str) none (some ((i:Int) + 1))=(L.take (i + 1)).map V.str:=by rw [show ((i:Int) + 1)=((i + 1:Nat):Int) from rfl,gS _ lt1,List.map_take]
  have frL:bE (L.map V.str) (some (i:Int)) none=(L.drop i).map V.str:=by rw [gy _ lt,List.map_drop]
  have frL1:bE (L.map V.str) (some ((i:Int) + 1)) none=(L.drop (i + 1)).map V.str:=by rw [show ((i:Int) + 1)=((i + 1:Nat):Int) from rfl,gy _ lt1,List.map_drop]
  have toW:bE (W.map V.str) none (some (a:Int))=(W.take a).map V.str:=by rw [gS _ at1,List.map_take]
  have toW1:bE (W.map V.str) none (some ((a:Int) + 1))=(W.take (a + 1)).map V.str:=by rw [show ((a:Int) + 1)=((a + 1:Nat):Int) from rfl,gS _ at2,List.map_take]
  have frW:bE (W.map V.str) (some (a:Int)) none=(W.drop a).map V.str:=by rw [gy _ at1,List.map_drop]
  have frW1:bE (W.map V.str) (some ((a:Int) + 1)) none=(W.drop (a + 1)).map V.str:=by rw [show ((a:Int) + 1)=((a + 1:Nat):Int) from rfl,gy _ at2,List.map_drop]
  have wt0:=bV (L.take i) (L.drop i)
  have tlen:∀(X:List Str) (j:Nat),(X.take j).length<=X.length/\(X.drop j).length<=X.length:=fun X j=>⟨by rw [List.length_take];omega,by rw [List.length_drop];omega⟩
  have g1:Ls (2 * b + 1) (n + 1) (2 * (m + 1)) (L.take i++L.drop (i + 1)):=hls.of (fun x hx=>(List.mem_append.mp hx).elim List.mem_of_mem_take List.mem_of_mem_drop) (by rw [List.length_append,List.length_take,List.length_drop];omega) (by rw [bV];have:=fL L i;have:=fI L (i + 1);omega)
  have g2:Ls (2 * b + 1) (n + 1) (2 * (m + 1)) (L.take (i + 1)++L.drop i):=hls.of (fun x hx=>(List.mem_append.mp hx).elim List.mem_of_mem_take List.mem_of_mem_drop) (by rw [List.length_append,List.length_take,List.length_drop];omega) (by rw [bV];have:=fL L (i + 1);have:=fI L i;omega)
  have g3:Ls (2 * b + 1) (n + 1) (2 * (m + 1)) (L.drop i++L.take i):=hls.of (fun x hx=>(List.mem_append.mp hx).elim List.mem_of_mem_drop List.mem_of_mem_take) (by rw [List.length_append,List.length_take,List.length_drop];omega) (by rw [bV];have:=fL L i;have:=fI L i;omega)
  have g4:∀ws:List Str,(∀x∈ws,x∈W)->ws.length<=W.length + 1->wt ws<=2 * wt W->Ls (2 * b + 1) (n + 1) (2 * (m + 1)) (L.take i++[Txt.join blank ws]++L.drop (i + 1)):=fun ws h1 h2 h3=>hls.put hLi (hrow ws h1 h2 h3).1 (hrow ws h1 h2 h3).2
  have hL900:L.length<=900:=by omega
  have tz:∀(X:List Str) (j j':Nat),X.length<=20001->(X.take j).length + (X.drop j').length<=100000:=fun X j j' h=>by have:=(tlen X j).1;have:=(tlen X j').2;omega
  have tz':∀(X:List Str) (j j':Nat),X.length<=20001->(X.drop j).length + (X.take j').length<=100000:=fun X j j' h=>by have:=(tlen X j).2;have:=(tlen X j').1;omega
  refine LsY.cat (LsY.sl (i:=2) rfl l8 .none (.var (i:=3) rfl) toL) (LsY.sl (i:=2) rfl l8 (.succ (j:=3) rfl) .none frL1) (tz L _ _ (by omega)) H8 (ag.refl _) _ fun b1 H9 s9 b19 _=>?_
  refine LsY.cat (LsY.sl (i:=2) rfl (s9 _ _ l8) .none (.succ (j:=3) rfl) toL1) (LsY.sl (i:=2) rfl (s9 _ _ l8) (.var (i:=3) rfl) .none frL) (tz L _ _ (by omega)) H9 (ag.refl _) _ fun b2 H10 s10 b210 _=>?_
  have s810:=s9.trans s10
  refine LsY.cat (LsY.sl (i:=2) rfl (s810 _ _ l8) (.var (i:=3) rfl) .none frL) (LsY.sl (i:=2) rfl (s810 _ _ l8) .none (.var (i:=3) rfl) toL) (tz' L _ _ (by omega)) H10 (ag.refl _) _ fun b3 H11 s11 b311 _=>?_
  have s811:=s810.trans s11
  refine⟨by show 3<=sizeLine;decide,fun so hso=>?_⟩
  obtain⟨all0,hall0,hA0,hG0,hl0'⟩:∃all:List (Addr×List Str),aj all=[V.ref b1,V.ref b2,V.ref b3]/\cX H11 all/\(∀x∈all,Ls (2 * b + 1) (n + 1) (2 * (m + 1)) x.2)/\all.length=3:=by
   refine⟨[(b1,L.take i++L.drop (i + 1)),(b2,L.take (i + 1)++L.drop i),(b3,L.drop i++L.take i)],rfl,fun x hx=>?_,fun x hx=>?_,rfl⟩
   ·simp only [List.mem_cons,List.not_mem_nil,or_false] at hx
    rcases hx with rfl | rfl | rfl
    ·exact s11 _ _ (s10 _ _ b19)
    ·exact s11 _ _ b210
    ·exact b311
   ·simp only [List.mem_cons,List.not_mem_nil,or_false] at hx
    rcases hx with rfl | rfl | rfl
    ·exact g1
    ·exact g2
    ·exact g3
  rw [show ([V.ref b1,V.ref b2,V.ref b3]:List V)=aj all0 from hall0.symm]
  have s12:=ao (o:=.lst (aj all0)) (ag.refl H11) hso
  have o12:upd H11 so (.lst (aj all0)) so=some (.lst (aj all0)):=ah
  have ns:∀{q:Addr}{o:HO},H11 q=some o->q≠so:=fun e y=>by rw [y,hso] at e;cases e
  have nA0:∀x∈all0,x.1≠so:=fun x hx=>ns (hA0 x hx)
  have nl:l0≠so:=ns (s811 _ _ l8)
  have ncs:c0≠so:=ns (s811 _ _ c8)
  have nps:so≠p:=by obtain⟨o,e⟩:=P8.some;exact (ns (s811 _ _ e)).symm
  generalize upd H11 so (.lst (aj all0))=H12 at s12 o12 ⊢
  have s812:=s811.trans s12
  refine LsY.cat (LsY.sl (i:=4) rfl (s812 _ _ w8) .none (.succ (j:=5) rfl) toW1) (LsY.sl (i:=4) rfl (s812 _ _ w8) (.var (i:=5) rfl) .none frW) (tz W _ _ hWl) H12 (ag.refl _) _ fun r1 H13 s13 r113 n1=>?_
  have s813:=s812.trans s13
  refine LsY.cat (LsY.sl (i:=4) rfl (s813 _ _ w8) .none (.var (i:=5) rfl) toW) (LsY.sl (i:=4) rfl (s813 _ _ w8) (.succ (j:=5) rfl) .none frW1) (tz W _ _ hWl) H13 (ag.refl _) _ fun r2 H14 s14 r214 n2=>?_
  have s814:=s813.trans s14
  refine⟨_,rfl,by show 3<=sizeLine;decide,fun tt htt=>?_⟩
  obtain⟨rows,hrows,hR,hrok,hrn,hrl⟩:∃rows:List (Addr×List Str),aj rows=[V.ref r1,V.ref r2,V.ref c0]/\cX H14 rows/\(∀x∈rows,(∀y∈x.2,y∈W)/\x.2.length<=W.length + 1/\wt x.2<=2 * wt W)/\(∀x∈rows,x.1≠so)/\rows.length=3:=by
   refine⟨[(r1,W.take (a + 1)++W.drop a),(r2,W.take a++W.drop (a + 1)),(c0,C)],rfl,fun x hx=>?_,fun x hx=>?_,fun x hx=>?_,rfl⟩
   ·simp only [List.mem_cons,List.not_mem_nil,or_false] at hx
    rcases hx with rfl | rfl | rfl
    ·exact s14 _ _ r113
    ·exact r214
    ·exact s814 _ _ c8
   ·simp only [List.mem_cons,List.not_mem_nil,or_false] at hx
    rcases hx with rfl | rfl | rfl
    ·refine⟨fun y hy=>(List.mem_append.mp hy).elim List.mem_of_mem_take List.mem_of_mem_drop,by show (W.take (a + 1)++W.drop a).length<=_;rw [List.length_append,List.length_take,List.length_drop];omega,by show wt (W.take (a + 1)++W.drop a)<=_;rw [bV];have:=fL W (a + 1);have:=fI W a;omega⟩
    ·refine⟨fun y hy=>(List.mem_append.mp hy).elim List.mem_of_mem_take List.mem_of_mem_drop,by show (W.take a++W.drop (a + 1)).length<=_;rw [List.length_append,List.length_take,List.length_drop];omega,by show wt (W.take a++W.drop (a + 1))<=_;rw [bV];have:=fL W a;have:=fI W (a + 1);omega⟩
    ·exact⟨hcm,by show C.length<=_;omega,by show wt C<=_;omega⟩
   ·simp only [List.mem_cons,List.not_mem_nil,or_false] at hx
    rcases hx with rfl | rfl | rfl
    ·exact fun y=>by rw [show r1=so from y,o12] at n1;cases n1
    ·exact fun y=>by rw [show r2=so from y,s13 _ _ o12] at n2;cases n2
    ·exact ncs
  rw [show ([V.ref r1,V.ref r2,V.ref c0]:List V)=aj rows from hrows.symm]
  have s15:=ao (o:=.tup (aj rows)) (ag.refl H14) htt
  have t15:upd H14 tt (.tup (aj rows)) tt=some (.tup (aj rows)):=ah
  have o14:=s14 _ _ (s13 _ _ o12)
  have nts:tt≠so:=fun y=>by rw [y,o14] at htt;cases htt
  generalize upd H14 tt (.tup (aj rows))=H15 at s15 t15 ⊢
  have s815:=s814.trans s15
  refine⟨tt,rfl,⟨_,SqT.of t15⟩,gL (xs:=aj rows) (fun j σ H'=>∃(all:List (Addr×List Str)) (g9:Option V),σ=[some (.ref p),some (.str z),some (.ref l0),some (.int i),some (.ref w0),some (.int a),some (.int b'),some (.ref c0),some (.ref so),g9]/\Pot H' p/\Kp [p] H H'/\H' l0=some (.lst (L.map V.str))/\H' tt=some (.tup (aj rows))/\cX H' rows/\H' so=some (.lst (aj all))/\cX H' all/\(∀x∈all,x.1≠so)/\(∀x∈all,Ls (2 * b + 1) (n + 1) (2 * (m + 1)) x.2)/\all.length=3 + j)
   ⟨all0,none,rfl,P8.keep fun o e=>s815 _ _ e,K8.of_same s815,s815 _ _ l8,t15,hR.same s15,s15 _ _ o14,(hA0.same (s12.trans (s13.trans s14))).same s15,nA0,hG0,hl0'⟩ ?_ ?_ ?_⟩
  ·rintro j σ H' _ ⟨all,g9,rfl,_,_,_,tH,_⟩
   exact SqT.of tH
  ·rintro j x σ H' hx ⟨all,g9,rfl,PH,KH,lH,tH,RH,oH,AH,nA,GA,hal⟩
   obtain⟨r,hrj,rfl⟩:=dI hx
   have hrm:=List.mem_of_getElem? hrj
   obtain⟨k1,k2,k3⟩:=hrok r hrm
   refine⟨_,rfl,.inl ⟨rfl,_,SqL.of oH⟩,?_⟩
   refine LsY.cat (LsY.cat (LsY.sl (i:=2) rfl lH .none (.var (i:=3) rfl) toL) (LsY.one (j:=9) (r:=r.1) rfl (RH r hrm) (by omega)) (by have:=(tlen L i).1;simp only [List.length_cons,List.length_nil];omega)) (LsY.sl (i:=2) rfl lH (.succ (j:=3) rfl) .none frL1) (by have:=(tlen L i).1;have:=(tlen L (i + 1)).2;simp only [List.length_append,List.length_cons,List.length_nil];omega) H' (ag.refl _) _ fun q H2' s' q2 nq=>?_
   have o2:=s' _ _ oH
   refine⟨so,_,_,rfl,rfl,o2,by rw [show (aj all).length=all.length from by simp [aj],sizeLine_eq];have:=(List.getElem?_eq_some_iff.mp hrj).1;omega,?_⟩
   have kr:∀c o,c≠so->H2' c=some o->upd H2' so (.lst (aj all++[V.ref q])) c=some o:=fun c o hc e=>by rw [ai hc];exact e
   have nqs:q≠so:=fun y=>by rw [y,oH] at nq;cases nq
   refine⟨all++[(q,L.take i++[Txt.join blank r.2]++L.drop (i + 1))],_,rfl,?_,?_,kr _ _ nl (s' _ _ lH),kr _ _ nts (s' _ _ tH),fun x hx=>kr _ _ (hrn x hx) (s' _ _ (RH x hx)),by rw [ah];simp [aj],fun x hx=>?_,fun x hx=>?_,fun x hx=>?_,by rw [List.length_append,hal];rfl⟩
   ·exact (PH.keep fun o e=>s' _ _ e).keep fun o e=>kr _ _ nps.symm e
   ·intro c o e nb
    refine kr c o (fun y=>?_) (s' _ _ (KH c o e nb))
    rw [y] at e
    have h1:=K8 so o e (by simpa using nps)
    rw [s811 _ _ h1] at hso
    cases hso
   ·rcases List.mem_append.mp hx with y | y
    ·exact kr _ _ (nA x y) (s' _ _ (AH x y))
    ·have e':x=(q,L.take i++[Txt.join blank r.2]++L.drop (i + 1)):=by simpa using y
     subst e'
     exact kr _ _ nqs q2
   ·rcases List.mem_append.mp hx with y | y
    ·exact nA x y
    ·have e':x=(q,L.take i++[Txt.join blank r.2]++L.drop (i + 1)):=by simpa using y
     subst e'
     exact nqs
   ·rcases List.mem_append.mp hx with y | y
    ·exact GA x y
    ·have e':x=(q,L.take i++[Txt.join blank r.2]++L.drop (i + 1)):=by simpa using y
     subst e'
     exact g4 r.2 k1 k2 k3
  ·rintro σ H' ⟨all,g9,rfl,PH,KH,lH,tH,RH,oH,AH,nA,GA,hal⟩
   have hl6:(aj all).length=6:=by rw [show (aj all).length=all.length from by simp [aj],hal,show (aj rows).length=rows.length from by simp [aj],hrl]
   refine⟨rfl,_,rfl,_,rfl,_,rfl,so,_,rfl,.inl (SqL.of oH),p,_,rfl,PH,by rw [hl6];decide,by rw [hl6];decide,fun j Hj j0 j1 Pj ej=>?_⟩
   rw [hl6] at j1
   have hjl:j.toNat < all.length:=by rw [show (aj all).length=all.length from by simp [aj]] at hl6;omega
   have hx:all[j.toNat]?=some all[j.toNat]:=List.getElem?_eq_getElem hjl
   generalize all[j.toNat]=x at hx
   have hxm:=List.mem_of_getElem? hx
   have hG:=GA x hxm
   have xH:=AH x hxm
   have ksame:∀{c:Addr}{ys:List V},H' c=some (.lst ys)->c≠p->Hj c=some (.lst ys):=fun e h=>(ej _ h).trans e
   have nxp:x.1≠p:=cN PH xH
   refine aK (v:=.ref x.1) (j:=j.toNat) (.inl (SqL.of (ksame oH nps))) (by omega) (by rw [show (aj all)[j.toNat]?=(all[j.toNat]?).map fun r=>V.ref r.1 from by simp [aj],hx];rfl) ⟨feed,x.1,x.2,rfl,rfl,SqL.of (ksame xH nxp),?_,?_⟩
   ·have e1:feed.length=1:=by decide
    have h1:=jm x.2
    have h2:=hG.m
    rw [e1];omega
   ·refine k _ Hj Pj (KH.turn ej) ?_
    exact (Ls.text (m:=2 * m + 1) ⟨hG.ln,hG.n,by have:=hG.m;omega⟩ (by omega)).mono (Nat.le_refl _) (Nat.le_refl _) (by omega)
end
theorem jb {x:Str} (h:aB x):10∉x.cps.toList/\32∉x.cps.toList/\∀c∈x.cps.toList,c < 128 :=
 ⟨fun z=>by have:=h.az _ z;omega,fun z=>by have:=h.az _ z;omega,fun c z=>by have:=h.az _ z;omega⟩
theorem tj {l:List Str} (h:∀x∈l,aB x) (hz:l.length<=6):Ln 5 (bare l):=by
 have e:(bare l).cps.toList=jl 32 (l.map fun p=>p.cps.toList):=by rw [gG];exact gj 32 l
 have mem:∀c∈jl 32 (l.map fun p=>p.cps.toList),c=32\/∃x∈l,c∈x.cps.toList:=fun c hc=>by
  rcases gN hc with q | ⟨y,hy,q⟩
  ·exact .inl q
  ·obtain⟨x,hx,rfl⟩:=List.mem_map.mp hy
   exact .inr ⟨x,hx,q⟩
 refine⟨?_,?_,?_⟩ <;> rw [e]
 ·intro hc
  rcases mem _ hc with q | ⟨x,hx,q⟩
  ·cases q
  ·exact (jb (h x hx)).1 q
 ·have q:=iW (c:=32) (ls:=l.map fun p=>p.cps.toList) fun y hy=>by
   obtain⟨x,hx,rfl⟩:=List.mem_map.mp hy
   exact (jb (h x hx)).2.1
  rw [List.length_map] at q
  omega
 ·intro c hc
  rcases mem _ hc with q | ⟨x,hx,q⟩
  ·omega
  ·exact (jb (h x hx)).2.2 c q
theorem lj {ls:List (List Str)} (h:∀l∈ls,(∀x∈l,aB x)/\l.length<=6) (hn:ls.length<=41) (hm:(ls.map fun l=>l.length * 9 + 1).sum<=2000):TxB 5 42 2000 (textOf ls):=by
 have e:textOf ls=Txt.join feed (ls.map bare++[("":Str)]):=by
  rw [kP];exact (StrLaws.glued_eq_join _ _).symm
 rw [e]
 refine Ls.text ⟨fun l hl=>?_,?_,?_⟩ (by decide)
 ·rcases List.mem_append.mp hl with q | q
  ·obtain⟨x,hx,rfl⟩:=List.mem_map.mp q
   exact tj (h x hx).1 (h x hx).2
  ·have e':l=("":Str):=by simpa using q
   rw [e']
   exact⟨by simp [show ("":Str).cps.toList=[] from rfl],by simp [show ("":Str).cps.toList=[] from rfl],by simp [show ("":Str).cps.toList=[] from rfl]⟩
 ·rw [List.length_append,List.length_map];simp;omega
 ·rw [bV]
  have h1:wt [("":Str)]=1:=rfl
  have h2:∀ls:List (List Str),(∀l∈ls,(∀x∈l,aB x)/\l.length<=6)->wt (ls.map bare)<=(ls.map fun l=>l.length * 9 + 1).sum:=fun ls=>by
   induction ls with
   | nil=>intro _;exact Nat.le_refl _
   | cons l r ih =>
    intro hh
    have i1:=ih fun x hx=>hh x (List.mem_cons_of_mem _ hx)
    have b1:=gE (hh l List.mem_cons_self).1
    rw [str_len] at b1
    rw [List.map_cons,el,List.map_cons,List.sum_cons]
    omega
  have:=h2 ls h
  omega
theorem mR {ls:List (List Str)}{k:Nat} (h:∀l∈ls,l.length<=k):(ls.map fun l=>l.length * 9 + 1).sum<=ls.length * (k * 9 + 1):=by
 induction ls with
 | nil=>exact Nat.zero_le _
 | cons l r ih =>
  have i1:=ih fun x hx=>h x (List.mem_cons_of_mem _ hx)
  have i2:=h l List.mem_cons_self
  rw [List.map_cons,List.sum_cons,List.length_cons,Nat.add_mul]
  have:l.length * 9<=k * 9:=Nat.mul_le_mul_right 9 i2
  omega
theorem sH {ps:List Str}{rows:List Row} (G:Good ps rows) (h5:ps.length<=5) (h40:rows.length<=40):TxB 5 42 2000 (textOf (cK ps rows)):=by
 have hl:=G.lines (by omega:ps.length<=8)
 refine lj (fun l hl'=>⟨(hl l hl').nm,?_⟩) (by simp [cK];omega) ?_
 ·rcases List.mem_cons.mp hl' with rfl | q
  ·simp;omega
  ·obtain⟨r,_,rfl⟩:=List.mem_map.mp q
   show 4<=6;decide
 ·unfold cK
  rw [List.map_cons,List.sum_cons]
  have h1:=mR (ls:=rows.map cU) (k:=4) fun l hl'=>by
   obtain⟨r,_,rfl⟩:=List.mem_map.mp hl'
   exact Nat.le_refl 4
  rw [List.length_map] at h1
  simp only [List.length_cons]
  omega
theorem qi {tl:List (List Str)} (h:∀ts∈tl,iw ts) (h3:tl.length<=3):TxB 5 42 2000 (textOf (tl.map bO)):=by
 have hm:∀l∈tl.map bO,(∀x∈l,aB x)/\l.length<=6:=fun l hl=>by
  obtain⟨t,ht,rfl⟩:=List.mem_map.mp hl
  have:=(h t ht).z
  exact⟨(h t ht).line.nm,by show (t.length + 1)<=6;omega⟩
 refine lj hm (by rw [List.length_map];omega) ?_
 have h1:=mR (ls:=tl.map bO) (k:=6) fun l hl=>(hm l hl).2
 rw [List.length_map] at h1
 omega
noncomputable def TxI (i:Nat) (z:Str):Prop:=TxB (6 * 2 ^ i - 1) (42 + i) (2002 * 2 ^ i - 2) z
theorem TxI.zero {z:Str} (h:TxB 5 42 2000 z):TxI 0 z:=h
theorem ly (i:Nat):1<=2 ^ i:=Nat.one_le_two_pow
theorem TxI.ok {i:Nat}{z:Str} (h:TxI i z) (hi:i<=3):cJ z:=by
 have:i=0\/i=1\/i=2\/i=3:=by omega
 rcases this with rfl | rfl | rfl | rfl
 ·exact TxB.mono h (by decide) (by decide) (by decide)
 ·exact TxB.mono h (by decide) (by decide) (by decide)
 ·exact TxB.mono h (by decide) (by decide) (by decide)
 ·exact TxB.mono h (by decide) (by decide) (by decide)
section
variable {P:Program}{w:World}{K:PySem.W.Frag}{mg:Str->Option Value}{base:Heap}
noncomputable def lO:Sp:=fun vs H Q _=>∃(p:Addr) (z:Str),vs=[.ref p,.str z]/\Pot H p/\TxB 5 42 2000 z/\∀z' H',Pot H' p->Kp [p] H H'->cJ z'->Q (.str z') H'
noncomputable abbrev N39:List Str:=["_law_pot_here","_law_text","_law_turn"]
theorem ip:aR N39 ["_law_pot_here","_law_text"] (aI (top 39)):=⟨rfl,rfl,rfl,by decide +kernel,rfl,by decide +kernel,by decide +kernel⟩
theorem pV {f:Addr}{fd:FuncData} (F:Fun K "_law_spoilt" "_law_spoilt" (top 39) f fd) (B:Bl mg) (Ft:Fn P w K mg base 1 "_law_take" ["_law_pot_here","_law_many"] de) (F1:Fn P w K mg base 2 "_law_sign_spoilt" ["_law_pot_here","_law_text"] gF) (F2:Fn P w K mg base 2 "_law_lines_spoilt" ["_law_pot_here","_law_text"] gF):aH P w K mg base CX0 3 f fd ["_law_pot_here","_law_text"] lO:=by
 refine F.ok ip (fun vs H Q E h=>?_) (fun cdv A outer s H vs Q E hr h=>?_)
 ·obtain⟨p,z,rfl,_⟩:=h
  rfl
 ·obtain⟨p,z,rfl,hp,T,k⟩:=h
  have hr1:aN 1 _:=hr.mono (by decide)
  refine⟨_,aq (cO PassesOwn.never rfl (dF rfl B.range (aa (ay bL ak (aC Ft hr1 (aa (pv 0) (aa ak ae)))) ae)) (bw (i:=2) ip.nd rfl (Or.inl rfl))
   (aw (bh (aO dS (aC Ft hr1 (aa (pv 0) (aa ak ae))) ak (aS _)) (aw (aD (i:=1) ip.nd rfl (Or.inl rfl) (aC F1 hr (aa (pv 0) (aa (pv 1) ae))))) (aw (aD (i:=1) ip.nd rfl (Or.inl rfl) (aC F2 hr (aa (pv 0) (aa (pv 1) ae))))))))
   (aw (aM (pv 1))),?_⟩
  refine⟨_,rfl,p,3,rfl,hp,by decide,by decide,fun r H1 r0 r1 P1 e1=>?_⟩
  have K1:Kp [p] H H1:=(Kp.refl [p] H).turn e1
  refine⟨_,_,rfl,rfl,_,rfl,by omega,by omega,fv (fun i σ H2=>∃(z':Str) (v:Option V),σ=[some (.ref p),some (.str z'),v]/\Pot H2 p/\Kp [p] H H2/\TxI i z')
   ⟨z,none,rfl,P1,K1,TxI.zero T⟩ ?_ ?_⟩
  ·rintro i σ H2 hi ⟨z',v,rfl,P2,K2,T2⟩
   have hi3:i<=2:=by omega
   refine⟨_,rfl,p,2,rfl,P2,by decide,by decide,fun d H3 d0 d1 P3 e3=>⟨rfl,_,rfl,?_⟩⟩
   have K3:Kp [p] H H3:=K2.turn e3
   have hb:(42 + i)<=900/\1<=42 + i/\(2002 * 2 ^ i - 2)<=20000:=by
    have:i=0\/i=1\/i=2:=by omega
    rcases this with rfl | rfl | rfl <;> decide
   have fin:∀z'' H4,Pot H4 p->Kp [p] H3 H4->TxB (2 * (6 * 2 ^ i - 1) + 1) (42 + i + 1) (2 * (2002 * 2 ^ i - 2) + 2) z''->∃(z1:Str) (v1:Option V),[some (V.ref p),some (V.str z''),some (V.int (0 + (i:Int)))]=[some (V.ref p),some (V.str z1),v1]/\Pot H4 p/\Kp [p] H H4/\TxI (i + 1) z1:=fun z'' H4 P4 K4 T4=>by
    refine⟨z'',_,rfl,P4,K3.trans K4,TxB.mono T4 ?_ (by omega) ?_⟩
    ·have:=ly i;rw [Nat.pow_succ];omega
    ·have:=ly i;rw [Nat.pow_succ];omega
   by_cases hd:d=0
   ·subst hd
    refine cI rfl ⟨_,rfl,_,rfl,p,z',_,_,_,rfl,P3,T2,hb.2.1,hb.1,hb.2.2,fun z'' H4 P4 K4 T4=>?_⟩
    exact fin z'' H4 P4 K4 T4
   ·refine cb (fun y=>hd (V.int.inj y)) ⟨_,rfl,_,rfl,p,z',_,_,_,rfl,P3,T2,hb.2.1,hb.1,hb.2.2,fun z'' H4 P4 K4 T4=>?_⟩
    exact fin z'' H4 P4 K4 T4
  ·rintro σ H2 ⟨z',v,rfl,P2,K2,T2⟩
   exact⟨_,rfl,k z' H2 P2 K2 (T2.ok (by omega))⟩
end
end K16
namespace L2
open PySem PySem.Spec PyProof.Rows PySem.W PySem.Calls
section
variable {X:Cx}
theorem pM (bs:List Bool):((List.range bs.length).any fun i=>(bs[i]?).getD false)=bs.any id:=by
 rw [Bool.eq_iff_iff,List.any_eq_true,List.any_eq_true]
 constructor
 ·rintro⟨i,hi,h⟩
  have hi':i < bs.length:=by simpa using hi
  rw [List.getElem?_eq_getElem hi'] at h
  exact⟨bs[i],List.getElem_mem hi',h⟩
 ·rintro⟨b,hb,h⟩
  obtain⟨i,hi,e⟩:=List.getElem_of_mem hb
  refine⟨i,by simpa using hi,?_⟩
  rw [List.getElem?_eq_getElem hi,e]
  exact h
theorem pH {ea C:Addr}{dx:Option Addr} (hh:X.A.handled=some (.ref ea)):bz X (.builtin "any") (fun xs H Q=>∃(p:Addr) (bs:List Bool),xs=[.ref p]/\SqL X.K H p (bs.map V.bl)/\H ea=some (cG ea C dx)/\Q (.bl (bs.any id)) H):=by
 intro pins s σ H xs us Q I r h
 obtain⟨p,bs,rfl,hq,he,q⟩:=h
 obtain⟨u,rfl,ru⟩:=vals1 r
 cases ru
 obtain⟨⟨oe,vs,o1,o2,o3,o4,o5⟩,_⟩:=(show aQ X.prog X.w H s.heap ea (cG ea C dx) from I.hok ea _ he)
 obtain⟨its,rv,pl,hz'⟩:=I.list hq
 have hl:=rv.length
 rw [List.length_map] at hl
 have il:=pl.isList
 have hlt:p < s.heap.objs.size:=by obtain⟨_,e,_⟩:=il;exact Heap.lt_size e
 have hle:ea < s.heap.objs.size:=Heap.lt_size o1
 refine call_any_walk (wpAny_pyIter_list il ⟨s.heap.objs.size,[s.heap.objs.size,p,ea],[s.heap.objs.size],its.toArray.size,_,_,fun i=>(bs[i]?).getD false,rfl,Walks.listH (A:=X.A.in1) hh _ p (Nat.ne_of_lt hlt) (Nat.ne_of_lt hle) its.toArray,
  ⟨⟨⟨_,Heap.get?_push_size _ rfl,rfl,rfl⟩,il.push _⟩,⟨oe,vs,Heap.get?_push_of_some _ o1,o4,o5⟩⟩,fun i v s' Q' E' hP hQ=>?_,fun h' tk hk=>?_⟩)
 ·have hv:=qP rv (i:=i) (v:=v) (by simpa using hP)
  subst hv
  exact wpAny_truthy_bool hQ
 ·have e:((List.range its.toArray.size).any fun i=>(bs[i]?).getD false)=bs.any id:=by
   rw [List.size_toArray,<- hl];exact pM bs
  rw [e]
  exact⟨.bl (bs.any id),H,I.kept (t':=tk) fun b o e=>hk b o (fun z=>absurd (Heap.lt_size e) (by rw [List.mem_singleton.mp z];exact Nat.lt_irrefl _)) (Heap.get?_push_of_some _ e),rfl,q⟩
end
end L2
namespace K16
open PySem L2
theorem vj:bootBuiltins "ValueError"=some (.type "ValueError"):=by decide +kernel
theorem uK:bootBuiltins "any"=some (.builtin "any"):=by decide +kernel
structure Cls (mg:Str->Option Value) (CT c0 c1 c2 c3 c4 c5 c6 c7 c8 c9:Addr):Prop where
 mt:mg "NoText"=some (.ref CT)
 m0:mg "NoCosts"=some (.ref c0)
 m1:mg "NoLot"=some (.ref c1)
 m2:mg "NoNumber"=some (.ref c2)
 m3:mg "NoPlace"=some (.ref c3)
 m4:mg "NoRoots"=some (.ref c4)
 m5:mg "NoTie"=some (.ref c5)
 m6:mg "NoTree"=some (.ref c6)
 m7:mg "NoWeb"=some (.ref c7)
 m8:mg "TooFew"=some (.ref c8)
 m9:mg "TooMany"=some (.ref c9)
 ve:mg "ValueError"=none
structure Srt (K:PySem.W.Frag) (CT c0 c1 c2 c3 c4 c5 c6 c7 c8 c9:Addr):Prop where
 ke:ic K CT
 kt:PySem.W.kitOne K (.ref CT) (.ref CT)=some true
 kv:PySem.W.kitOne K (.ref CT) (.type "ValueError")=some true
 k0:PySem.W.kitOne K (.ref CT) (.ref c0)=some false
 k1:PySem.W.kitOne K (.ref CT) (.ref c1)=some false
 k2:PySem.W.kitOne K (.ref CT) (.ref c2)=some false
 k3:PySem.W.kitOne K (.ref CT) (.ref c3)=some false
 k4:PySem.W.kitOne K (.ref CT) (.ref c4)=some false
 k5:PySem.W.kitOne K (.ref CT) (.ref c5)=some false
 k6:PySem.W.kitOne K (.ref CT) (.ref c6)=some false
 k7:PySem.W.kitOne K (.ref CT) (.ref c7)=some false
 k8:PySem.W.kitOne K (.ref CT) (.ref c8)=some false
 k9:PySem.W.kitOne K (.ref CT) (.ref c9)=some false
section
variable {P:Program}{w:World}{K:PySem.W.Frag}{mg:Str->Option Value}{base:Heap}{CT c0 c1 c2 c3 c4 c5 c6 c7 c8 c9 R:Addr}
noncomputable def mi (CT:Addr):Option Value->Sp:=fun hv vs H Q _=>∃(a:Addr),hv=some (.ref a)/\vs=[.ref a]/\H a=some (cG a CT none)/\∀(H':Hp),ag H H'->Q (.bl false) H'
noncomputable abbrev N43:List Str:=["_law_e","_law_some"]
theorem jN:aR N43 ["_law_e"] (aI (top 43)):=⟨rfl,rfl,rfl,by decide +kernel,rfl,by decide +kernel,by decide +kernel⟩
theorem rd {f:Addr}{fd:FuncData} (F:Fun K "_law_is_other" "_law_is_other" (top 43) f fd) (B:Bl mg) (Z:Cls mg CT c0 c1 c2 c3 c4 c5 c6 c7 c8 c9) (O:Srt K CT c0 c1 c2 c3 c4 c5 c6 c7 c8 c9):eI P w K mg base CX0 1 f fd ["_law_e"] (mi CT):=by
 refine F.okG jN (fun hv vs H Q E h=>?_) (fun cdv A outer s H vs Q E hr h=>?_)
 ·obtain⟨a,_,rfl,_⟩:=h
  rfl
 ·obtain⟨a,hh,rfl,ha,k⟩:=h
  have hdx:∀d,(none:Option Addr)=some d->∃fs,H d=some (.xd fs):=fun d z=>nomatch z
  refine' ⟨_,aq ?s1 (aq ?s2 (aw (aM ?r))),?main⟩
  case s1 =>
   refine' aD (i:=1) jN.nd rfl (Or.inl rfl) ?e1
   case e1=>exact (be (aa (aA (ck (c:=.ref c0) O.ke (fun _ z=>z) O.k0) rfl B.isinstance bG (aa (pv 0) (aa (cq (v:=.ref c0) rfl Z.m0 rfl) ae))) (aa (aA (ck (c:=.ref c1) O.ke (fun _ z=>z) O.k1) rfl B.isinstance bG (aa (pv 0) (aa (cq (v:=.ref c1) rfl Z.m1 rfl) ae))) (aa (aA (ck (c:=.ref c2) O.ke (fun _ z=>z) O.k2) rfl B.isinstance bG (aa (pv 0) (aa (cq (v:=.ref c2) rfl Z.m2 rfl) ae))) (aa (aA (ck (c:=.ref c3) O.ke (fun _ z=>z) O.k3) rfl B.isinstance bG (aa (pv 0) (aa (cq (v:=.ref c3) rfl Z.m3 rfl) ae))) ae)))))
  case s2 =>
   refine' aD (i:=1) jN.nd rfl (Or.inl rfl) (ay b6 (pv 1) ?e2)
   case e2=>exact (be (aa (aA (ck (c:=.ref c4) O.ke (fun _ z=>z) O.k4) rfl B.isinstance bG (aa (pv 0) (aa (cq (v:=.ref c4) rfl Z.m4 rfl) ae))) (aa (aA (ck (c:=.ref c5) O.ke (fun _ z=>z) O.k5) rfl B.isinstance bG (aa (pv 0) (aa (cq (v:=.ref c5) rfl Z.m5 rfl) ae))) (aa (aA (ck (c:=.ref c6) O.ke (fun _ z=>z) O.k6) rfl B.isinstance bG (aa (pv 0) (aa (cq (v:=.ref c6) rfl Z.m6 rfl) ae))) (aa (aA (ck (c:=.ref c7) O.ke (fun _ z=>z) O.k7) rfl B.isinstance bG (aa (pv 0) (aa (cq (v:=.ref c7) rfl Z.m7 rfl) ae))) ae)))))
  case r =>
   refine' aA (pH (ea:=a) (C:=CT) (dx:=none) ?hh) rfl B.any uK (aa (ay b6 (pv 1) ?e3) ae)
   case hh=>exact hh
   case e3=>exact (be (aa (aA (ck (c:=.ref c8) O.ke (fun _ z=>z) O.k8) rfl B.isinstance bG (aa (pv 0) (aa (cq (v:=.ref c8) rfl Z.m8 rfl) ae))) (aa (aA (ck (c:=.ref c9) O.ke (fun _ z=>z) O.k9) rfl B.isinstance bG (aa (pv 0) (aa (cq (v:=.ref c9) rfl Z.m9 rfl) ae))) ae)))
  case main =>
   have hdn:∀(H':Hp) (d:Addr),(none:Option Addr)=some d->∃fs,H' d=some (.xd fs):=fun H' d z=>nomatch z
   refine⟨_,rfl,a,none,rfl,ha,hdn _,_,rfl,a,none,rfl,ha,hdn _,_,rfl,a,none,rfl,ha,hdn _,_,rfl,a,none,rfl,ha,hdn _,by show 4<=sizeLine;decide,fun p0 hp0=>?_⟩
   have u0:=ao (o:=.lst [.bl false,.bl false,.bl false,.bl false]) (ag.refl H) hp0
   have v0:upd H p0 (.lst [.bl false,.bl false,.bl false,.bl false]) p0=some (.lst [.bl false,.bl false,.bl false,.bl false]):=ah
   generalize upd H p0 (.lst [.bl false,.bl false,.bl false,.bl false])=H0 at u0 v0 ⊢
   have a0:=u0 _ _ ha
   refine⟨_,rfl,_,rfl,a,none,rfl,a0,hdn _,_,rfl,a,none,rfl,a0,hdn _,_,rfl,a,none,rfl,a0,hdn _,_,rfl,a,none,rfl,a0,hdn _,by show 4<=sizeLine;decide,fun p1 hp1=>?_⟩
   have u1:=ao (o:=.lst [.bl false,.bl false,.bl false,.bl false]) u0 hp1
   have v1:upd H0 p1 (.lst [.bl false,.bl false,.bl false,.bl false]) p1=some (.lst [.bl false,.bl false,.bl false,.bl false]):=ah
   have v01:upd H0 p1 (.lst [.bl false,.bl false,.bl false,.bl false]) p0=some (.lst [.bl false,.bl false,.bl false,.bl false]):=by rw [ai (au v0 hp1)];exact v0
   generalize upd H0 p1 (.lst [.bl false,.bl false,.bl false,.bl false])=H1 at u1 v1 v01 ⊢
   refine⟨p0,p1,_,_,rfl,rfl,v01,v1,by show 8<=sizeLine;decide,fun p2 hp2=>?_⟩
   have u2:=ao (o:=.lst ([.bl false,.bl false,.bl false,.bl false]++[.bl false,.bl false,.bl false,.bl false])) u1 hp2
   have v2:upd H1 p2 (.lst ([.bl false,.bl false,.bl false,.bl false]++[.bl false,.bl false,.bl false,.bl false])) p2=some (.lst ([.bl false,.bl false,.bl false,.bl false]++[.bl false,.bl false,.bl false,.bl false])):=ah
   generalize upd H1 p2 (.lst ([.bl false,.bl false,.bl false,.bl false]++[.bl false,.bl false,.bl false,.bl false]))=H2 at u2 v2 ⊢
   have a2:=u2 _ _ ha
   refine⟨_,rfl,_,rfl,a,none,rfl,a2,hdn _,_,rfl,a,none,rfl,a2,hdn _,by show 2<=sizeLine;decide,fun p3 hp3=>?_⟩
   have u3:=ao (o:=.lst [.bl false,.bl false]) u2 hp3
   have v3:upd H2 p3 (.lst [.bl false,.bl false]) p3=some (.lst [.bl false,.bl false]):=ah
   have v23:upd H2 p3 (.lst [.bl false,.bl false]) p2=some (.lst ([.bl false,.bl false,.bl false,.bl false]++[.bl false,.bl false,.bl false,.bl false])):=by rw [ai (au v2 hp3)];exact v2
   generalize upd H2 p3 (.lst [.bl false,.bl false])=H3 at u3 v3 v23 ⊢
   refine⟨p2,p3,_,_,rfl,rfl,v23,v3,by show 10<=sizeLine;decide,fun p4 hp4=>?_⟩
   have u4:=ao (o:=.lst (([.bl false,.bl false,.bl false,.bl false]++[.bl false,.bl false,.bl false,.bl false])++[.bl false,.bl false])) u3 hp4
   exact⟨p4,List.replicate 10 false,rfl,SqL.of ah,u4 _ _ ha,k _ u4⟩
end
end K16
namespace L2
open PySem PySem.Spec PyProof.Rows PySem.W PySem.Calls
theorem rG {X:Cx}{c a b:Expr}{pos:Pos}{tc:TT}{ta tb:TEX} (hc:PT X.nox c tc) (ha:PEX X a ta) (hb:PEX X b tb):PEX X (.IfExp c a b pos) (fun Ex σ H Q=>tc σ H fun d H1=>if d=true then ta Ex σ H1 Q else tb Ex σ H1 Q):=by
 intro pins s σ H Q Ex I h
 refine wpAny_IfExp (wpAny_mono (hc pins s σ H _ I.toNox h) (fun d s1 hq=>?_) fun _ _ z=>False.elim z)
 obtain⟨H1,I1,q1⟩:=hq
 cases d with
 | true=>exact ha pins s1 σ H1 Q Ex I1.ofNox q1
 | false=>exact hb pins s1 σ H1 Q Ex I1.ofNox q1
end L2
namespace K16
open PySem L2
noncomputable abbrev hV (d:PyData):PyData:=.tuple [.str ("told":Str),d]
noncomputable abbrev ik:PyData:=.tuple [.str ("refused":Str),.bool true]
noncomputable def Due (wb:Bool) (x:V) (H:Hp) (d:Option PyData):Prop :=
 (∃z,x=.str z/\cJ z/\((wb=true/\((∃ps rs,cV z ps rs/\d=some (wD ps rs))\/((∀ps rs,¬ cV z ps rs)/\d=none)))\/(wb=false/\((∃tl,eD z tl/\d=some (tlD tl))\/((∀tl,¬ eD z tl)/\d=none)))))\/(dj x H/\d=none)
section
variable {P:Program}{w:World}{K:PySem.W.Frag}{mg:Str->Option Value}{base:Heap}{CT c0 c1 c2 c3 c4 c5 c6 c7 c8 c9 R:Addr}
noncomputable def jy:Sp:=fun vs H Q _=>∃(x:V) (wb:Bool) (d:Option PyData),vs=[x,.bl wb]/\Due wb x H d/\∀v H',ag H H'->DV H' (.ref v) (match d with | some e=>hV e | none=>ik)->Q (.ref v) H'
noncomputable abbrev N44:List Str:=["_law_thing","_law_wants_web","_law_told_here","_law_e"]
theorem f9:aR N44 ["_law_thing","_law_wants_web"] (aI (top 44)):=⟨rfl,rfl,rfl,by decide +kernel,rfl,by decide +kernel,by decide +kernel⟩
theorem tG {f:Addr}{fd:FuncData} (F:Fun K "_law_told" "_law_told" (top 44) f fd) (B:Bl mg) (Z:Cls mg CT c0 c1 c2 c3 c4 c5 c6 c7 c8 c9) (O:Srt K CT c0 c1 c2 c3 c4 c5 c6 c7 c8 c9) (hxR:mg "RootError"=some (.ref R)) (hR:dD base R) (hT:Under base CT R)
  (F1:FnX P w K mg base 4 "read_web" ["text"] (kS CT)) (F2:FnX P w K mg base 3 "read_trees" ["text"] (j5 CT)) (F3:FnG P w K mg base 1 "_law_is_other" ["_law_e"] (mi CT)):aH P w K mg base CX0 5 f fd ["_law_thing","_law_wants_web"] jy:=by
 refine F.ok f9 (fun vs H Q E h=>?_) (fun cdv A outer s H vs Q E hr h=>?_)
 ·obtain⟨x,wb,d,rfl,_⟩:=h
  rfl
 ·obtain⟨x,wb,d,rfl,hd,k⟩:=h
  have hr1:aN 1 _:=hr.mono (by decide)
  have hr3:aN 3 _:=hr.mono (by decide)
  refine' ⟨_,aq (aD (i:=2) f9.nd rfl (Or.inl rfl) cu) (aq ?tr (aw (aM (pv 2)))),?main⟩
  case tr =>
   refine' sW (j:=3) ?t1 hxR hR ?t2 f9.nd rfl rfl rfl rfl rfl
   case t1=>exact ua (i:=2) f9.nd rfl (Or.inl rfl) (uf (lN (uN av) (lN (rG (bN (pv 1)) (mf F1 hr (aa (pv 0) ae)) (mf F2 hr3 (aa (pv 0) ae))) sJ)))
   case t2=>exact fun ea=>aw (aD (i:=2) f9.nd rfl (Or.inl rfl) (bR (aa av (aa (dq (aA (ck (c:=.ref CT) O.ke (fun _ z=>z) O.kt) rfl B.isinstance bG (aa (pv 3) (aa (cq (v:=.ref CT) rfl Z.mt rfl) ae))) (dq (aA (ck (c:=.ty "ValueError") O.ke (fun _ z=>z) O.kv) rfl B.isinstance bG (aa (pv 3) (aa (dn (v:=.ty "ValueError") rfl Z.ve vj rfl) ae))) (fe (uA (uv F3 ⟨hr1.dp,hr1.un,hr1.gd⟩ (aa (pv 3) ae)))))) ae))))
  case main =>
  have hdn:∀(H':Hp) (d:Addr),(none:Option Addr)=some d->∃fs,H' d=some (.xd fs):=fun H' d z=>nomatch z
  have told:∀(e:PyData) (v:Addr) (H1:Hp),ag H H1->d=some e->DV H1 (.ref v) e->∀u,H1 u=none->Q (.ref u) (upd H1 u (.tup [.str ("told":Str),.ref v])):=fun e v H1 s1 hde dv u hu=>by
   have s2:=ao (o:=.tup [.str ("told":Str),.ref v]) s1 hu
   have:=k u _ s2
   rw [hde] at this
   exact this (.tup ah (.cons (.str _) (.cons (DV.same (ao (ag.refl _) hu) dv) .nil)))
  refine⟨_,rfl,wb,rfl,?_⟩
  have fin:∀H1,ag H H1->d=none->∀ea,H1 ea=none->∀H3,ag (upd H1 ea (cG ea CT none)) H3->∀u,H3 u=none->Q (.ref u) (upd H3 u (.tup [.str ("refused":Str),.bl true])):=fun H1 s1 hd0 ea hea H3 s3 u hu=>by
   have s4:=ao (o:=.tup [.str ("refused":Str),.bl true]) ((ao (o:=cG ea CT none) s1 hea).trans s3) hu
   have:=k u _ s4
   rw [hd0] at this
   exact this (.tup ah (.cons (.str _) (.cons (.bl _) .nil)))
  cases wb with
  | true =>
   refine am ⟨_,rfl,x,rfl,?_⟩
   rcases hd with ⟨z,rfl,T,hz⟩ | ⟨hn,hd0⟩
   ·refine .inl ⟨z,rfl,T,fun ps rs W v H1 s1 dv=>⟨by show 2<=sizeLine;decide,fun u hu=>⟨_,rfl,told (wD ps rs) v H1 s1 ?_ dv u hu⟩⟩,fun hno H1 s1=>⟨CT,rfl,hT,fun ea hea=>?_⟩⟩
    ·rcases hz with ⟨_,⟨ps',rs',W',e⟩ | ⟨hno,_⟩⟩ | ⟨y,_⟩
     ·have r1:=W.rows.2
      rw [W'.rows.2] at r1
      obtain⟨r2,r3⟩:=List.cons.inj r1
      rw [e,r2,r3]
     ·exact absurd W (hno ps rs)
     ·cases y
    ·have hd0:d=none:=by
      rcases hz with ⟨_,⟨ps',rs',W',e⟩ | ⟨_,e⟩⟩ | ⟨y,_⟩
      ·exact absurd W' (hno ps' rs')
      ·exact e
      ·cases y
     exact⟨_,rfl,ea,none,rfl,ah,hdn _,_,rfl,am ⟨_,rfl,ea,none,rfl,ah,hdn _,_,rfl,am ⟨_,rfl,ea,rfl,rfl,ah,fun H3 s3=>⟨_,rfl,by show 2<=sizeLine;decide,fun u hu=>⟨_,rfl,fin H1 s1 hd0 ea hea H3 s3 u hu⟩⟩⟩⟩⟩
   ·refine .inr ⟨hn,CT,rfl,hT,fun ea hea=>?_⟩
    exact⟨_,rfl,ea,none,rfl,ah,hdn _,_,rfl,am ⟨_,rfl,ea,none,rfl,ah,hdn _,_,rfl,am ⟨_,rfl,ea,rfl,rfl,ah,fun H3 s3=>⟨_,rfl,by show 2<=sizeLine;decide,fun u hu=>⟨_,rfl,fin H (ag.refl _) hd0 ea hea H3 s3 u hu⟩⟩⟩⟩⟩
  | false =>
   refine aL ⟨_,rfl,x,rfl,?_⟩
   rcases hd with ⟨z,rfl,T,hz⟩ | ⟨hn,hd0⟩
   ·refine .inl ⟨z,rfl,T,fun tl W v H1 s1 dv=>⟨by show 2<=sizeLine;decide,fun u hu=>⟨_,rfl,told (tlD tl) v H1 s1 ?_ dv u hu⟩⟩,fun hno H1 s1=>⟨CT,rfl,hT,fun ea hea=>?_⟩⟩
    ·rcases hz with ⟨y,_⟩ | ⟨_,⟨tl',W',e⟩ | ⟨hno,_⟩⟩
     ·cases y
     ·rw [e,W'.eq,W.eq]
     ·exact absurd W (hno tl)
    ·have hd0:d=none:=by
      rcases hz with ⟨y,_⟩ | ⟨_,⟨tl',W',e⟩ | ⟨_,e⟩⟩
      ·cases y
      ·exact absurd W' (hno tl')
      ·exact e
     exact⟨_,rfl,ea,none,rfl,ah,hdn _,_,rfl,am ⟨_,rfl,ea,none,rfl,ah,hdn _,_,rfl,am ⟨_,rfl,ea,rfl,rfl,ah,fun H3 s3=>⟨_,rfl,by show 2<=sizeLine;decide,fun u hu=>⟨_,rfl,fin H1 s1 hd0 ea hea H3 s3 u hu⟩⟩⟩⟩⟩
   ·refine .inr ⟨hn,CT,rfl,hT,fun ea hea=>?_⟩
    exact⟨_,rfl,ea,none,rfl,ah,hdn _,_,rfl,am ⟨_,rfl,ea,none,rfl,ah,hdn _,_,rfl,am ⟨_,rfl,ea,rfl,rfl,ah,fun H3 s3=>⟨_,rfl,by show 2<=sizeLine;decide,fun u hu=>⟨_,rfl,fin H (ag.refl _) hd0 ea hea H3 s3 u hu⟩⟩⟩⟩⟩
end
structure Lay (k:Nat) (d:PyData):Prop where
 c:d.canLay0=true
 d:d.depth<=k
theorem Lay.two {j k:Nat}{a b:PyData} (ha:Lay j a) (hb:Lay j b) (hk:j + 1<=k):Lay k (.tuple [a,b]):=by
 have h1:=ha.d
 have h2:=hb.d
 refine⟨?_,?_⟩
 ·simp only [PyData.canLay0,PyData.canLayAll0,ha.c,hb.c];rfl
 ·simp only [PyData.depth,PyData.depthAll];omega
theorem Lay.sh {k:Nat}{d:PyData} (h:Lay k d) (hk:k<=6):SeqAt.shaped d=true:=by
 have:=h.d
 unfold SeqAt.shaped
 rw [h.c,decide_eq_true (by omega)]
 rfl
theorem sR {ss:List Str} (h:∀x∈ss,aB x):Lay 1 (aX ss):=by
 have q:=iV h
 refine⟨?_,?_⟩
 ·simp only [aX,PyData.canLay0,q.1]
 ·simp only [aX,PyData.depth,q.2];decide
theorem mL {tl:List (List Str)} (h:∀t∈tl,∀x∈t,aB x):Lay 2 (tlD tl)/\Lay 2 (.tuple (tl.map aX)):=by
 have q:=iN h
 have i2:=q.2
 refine⟨⟨?_,?_⟩,⟨?_,?_⟩⟩
 ·simp only [tlD,PyData.canLay0,q.1]
 ·simp only [tlD,PyData.depth];omega
 ·simp only [PyData.canLay0,q.1]
 ·simp only [PyData.depth];omega
theorem Lay.mono {j k:Nat}{d:PyData} (h:Lay j d) (hk:j<=k):Lay k d:=⟨h.c,Nat.le_trans h.d hk⟩
theorem IsW.lay {ps:List Str}{rs:List (List Str)} (W:IsW ps rs):Lay 3 (wD ps rs):=by
 refine Lay.two ((sR W.pn).mono (by decide)) (mL fun t ht x hx=>?_).2 (by decide)
 obtain⟨n,a,b,rfl,h1,h2,h3,_⟩:=W.rn t ht
 simp only [List.mem_cons,List.not_mem_nil,or_false] at hx
 rcases hx with rfl | rfl | rfl
 ·exact h1
 ·exact W.pn _ h2
 ·exact W.pn _ h3
theorem rP:Lay 0 (.str ("told":Str)):=⟨by decide +kernel,Nat.le_refl _⟩
theorem ja:Lay 1 ik:=⟨by decide +kernel,by decide⟩
theorem Due.lay {wb:Bool}{x:V}{H:Hp}{e:PyData} (h:Due wb x H (some e)):Lay 3 e:=by
 rcases h with ⟨z,_,_,⟨_,⟨ps,rs,W,e'⟩ | ⟨_,e'⟩⟩ | ⟨_,⟨tl,W,e'⟩ | ⟨_,e'⟩⟩⟩ | ⟨_,e'⟩
 ·cases e';exact W.ok.lay
 ·cases e'
 ·cases e';exact (mL fun t ht=>(W.ok t ht).1).1.mono (by decide)
 ·cases e'
 ·cases e'
noncomputable def Thing (x:V) (H:Hp):Prop:=(∃z,x=.str z/\cJ z)\/dj x H
theorem Thing.same {x:V}{H H':Hp} (h:Thing x H) (s:ag H H'):Thing x H':=h.imp id fun y=>y.same s
section
variable {P:Program}{w:World}{K:PySem.W.Frag}{mg:Str->Option Value}{base:Heap}
noncomputable def lG:Sp:=fun vs H Q _=>∃x,vs=[x]/\Thing x H/\∀H',ag H H'->Q (.bl true) H'
noncomputable abbrev N45:List Str:=["_law_thing","_law_wants_web","_law_due","_law_told_here"]
theorem iq:aR N45 ["_law_thing"] (aI (top 45)):=⟨rfl,rfl,rfl,by decide +kernel,rfl,by decide +kernel,by decide +kernel⟩
theorem pR {f:Addr}{fd:FuncData} (F:Fun K "_law_agrees" "_law_agrees" (top 45) f fd) (F1:Fn P w K mg base 3 "_law_web_of" ["_law_thing"] my) (F2:Fn P w K mg base 2 "_law_rows" ["_law_thing","_law_first"] jw) (F3:Fn P w K mg base 5 "_law_told" ["_law_thing","_law_wants_web"] jy):aH P w K mg base CX0 6 f fd ["_law_thing"] lG:=by
 refine F.ok iq (fun vs H Q E h=>?_) (fun cdv A outer s H vs Q E hr h=>?_)
 ·obtain⟨x,rfl,_⟩:=h
  rfl
 ·obtain⟨x,rfl,hx,k⟩:=h
  have hr1:aN 1 _:=hr.mono (by decide)
  have hr2:aN 2 _:=hr.mono (by decide)
  have hr3:aN 3 _:=hr.mono (by decide)
  refine' ⟨_,aq (cO PassesOwn.never rfl (ez (bR (aa cy (aa cy ae)))) (bw (i:=1) iq.nd rfl (Or.inl rfl)) ?d1) (aw (aM cy)),?main⟩
  case' d1=>refine' aq (aD (i:=2) iq.nd rfl (Or.inl rfl) (lE (bN (pv 1)) (aC F1 hr3 (aa (pv 0) ae)) (aC F2 hr2 (aa (pv 0) (aa av ae))))) ?d2
  case' d2=>refine' aq (aD (i:=3) iq.nd rfl (Or.inl rfl) (aC F3 hr (aa (pv 0) (aa (pv 1) ae)))) ?d3
  case d3=>exact aw (bh (PW.pt (bW (PW.pt (dO (aO jr (pv 2) cu (aS _)) (eY (aO (fc hr1) (pv 3) (bR (aa av (aa cy ae))) (aS _))))) (cP (PW.pt (dO (aO sV (pv 2) cu (aS _)) (eY (aO (fc hr1) (pv 3) (bR (aa av (aa (pv 2) ae))) (aS _)))))))) (aw (aM cy)) bp)
  case main =>
  refine⟨by show 2<=sizeLine;decide,fun tt htt=>?_⟩
  have s1:=ao (o:=.tup [.bl true,.bl false]) (ag.refl H) htt
  have t1:upd H tt (.tup [.bl true,.bl false]) tt=some (.tup [.bl true,.bl false]):=ah
  generalize upd H tt (.tup [.bl true,.bl false])=H1 at s1 t1 ⊢
  refine⟨tt,rfl,⟨_,SqT.of t1⟩,gL (xs:=[.bl true,.bl false]) (fun i σ H2=>∃g1 g2 g3:Option V,σ=[some x,g1,g2,g3]/\ag H1 H2) ⟨none,none,none,rfl,ag.refl _⟩ ?_ ?_ ?_⟩
  ·rintro i σ H2 _ ⟨g1,g2,g3,rfl,s2⟩
   exact SqT.of (s2 _ _ t1)
  ·rintro i y σ H2 hy ⟨g1,g2,g3,rfl,s2⟩
   have hx2:=hx.same (s1.trans s2)
   have rest:∀(bkp:L2.St->Hp->Prop) (wb:Bool) (d:Option PyData) (dv:V) (H3:Hp),ag H2 H3->Due wb x H3 d->(d=none->dv=.non)->(∀e,d=some e->∃v,dv=.ref v/\DV H3 (.ref v) e) ->
     f6 (gc (fi jy [] E0 (cA (bZ 0) (cA (bZ 1) cT))) (b8 3)) (iu (tOr (jL (eF (tOp (fun x y H Q=>y=V.non/\Q (V.bl (decide (x=V.non))) H) (bZ 2) (tC V.non))) (eF (tOp (fun x y H Q=>∃d e,DV H x d/\DV H y e/\SeqAt.shaped d=true/\SeqAt.shaped e=true/\Q (.bl (!PyData.eqv d e)) H) (bZ 3) (f7 (cA (tC (.str ("refused":Str))) (cA (tC (.bl true)) cT))))))
      (jL (eF (tOp (fun x y H Q=>y=V.non/\Q (V.bl (!decide (x=V.non))) H) (bZ 2) (tC V.non))) (eF (tOp (fun x y H Q=>∃d e,DV H x d/\DV H y e/\SeqAt.shaped d=true/\SeqAt.shaped e=true/\Q (.bl (!PyData.eqv d e)) H) (bZ 3) (f7 (cA (tC (.str ("told":Str))) (cA (bZ 2) cT)))))))
      (ij (tC (.bl false))) gZ) { nx:=fun σ H2=>∃g1 g2 g3:Option V,σ=[some x,g1,g2,g3]/\ag H1 H2,ct:=fun σ H2=>∃g1 g2 g3:Option V,σ=[some x,g1,g2,g3]/\ag H1 H2,bk:=bkp,rt:=Q } [some x,some (.bl wb),some dv,g3] H3:=fun bkp wb d dv H3 s3 hd h0 h1=>by
    refine⟨_,rfl,_,rfl,x,wb,d,rfl,hd,fun v H4 s4 dvt=>?_⟩
    cases d with
    | none =>
     rw [h0 rfl]
     refine⟨_,rfl,rfl,_,rfl,am ⟨_,rfl,by show 2<=sizeLine;decide,fun u hu=>?_⟩⟩
     have s5:=ao (o:=.tup [.str ("refused":Str),.bl true]) s4 hu
     refine⟨ik,ik,DV.same (ao (ag.refl _) hu) dvt,.tup ah (.cons (.str _) (.cons (.bl _) .nil)),ja.sh (by decide),ja.sh (by decide),_,rfl,?_⟩
     rw [iY _ ja.c]
     refine aL ⟨_,rfl,rfl,_,rfl,aL (aL ⟨_,_,_,rfl,(s2.trans s3).trans s5⟩)⟩
    | some e =>
     obtain⟨u,hu,du⟩:=h1 e rfl
     rw [hu]
     refine⟨_,rfl,rfl,_,rfl,aL (aL ⟨_,rfl,rfl,_,rfl,am ⟨_,rfl,_,rfl,by show 2<=sizeLine;decide,fun w' hw'=>?_⟩⟩)⟩
     have s5:=ao (o:=.tup [.str ("told":Str),.ref u]) s4 hw'
     have lt:Lay 4 (hV e):=Lay.two (rP.mono (by decide)) hd.lay (by decide)
     refine⟨hV e,hV e,DV.same (ao (ag.refl _) hw') dvt,.tup ah (.cons (.str _) (.cons (DV.same s5 du) .nil)),lt.sh (by decide),lt.sh (by decide),_,rfl,?_⟩
     rw [iY _ lt.c]
     exact aL ⟨_,_,_,rfl,(s2.trans s3).trans s5⟩
   match i,hy with
   | 0,hy =>
    have e:y=.bl true:=by simpa using hy.symm
    subst e
    refine⟨_,rfl,true,rfl,am ⟨_,rfl,x,rfl,?_⟩⟩
    rcases hx2 with ⟨z,rfl,T⟩ | hn
    ·refine .inl ⟨z,rfl,T,fun ps rs W v H3 s3 dv=>?_,fun hno H3 s3=>?_⟩
     ·exact rest _ true (some (wD ps rs)) (.ref v) H3 s3 (.inl ⟨z,rfl,T,.inl ⟨rfl,.inl ⟨ps,rs,W,rfl⟩⟩⟩) (fun h=>by cases h) (fun e he=>by cases he;exact⟨v,rfl,dv⟩)
     ·exact rest _ true none .non H3 s3 (.inl ⟨z,rfl,T,.inl ⟨rfl,.inr ⟨hno,rfl⟩⟩⟩) (fun _=>rfl) (fun e he=>by cases he)
    ·exact .inr ⟨hn,rest _ true none .non H2 (ag.refl _) (.inr ⟨hn,rfl⟩) (fun _=>rfl) (fun e he=>by cases he)⟩
   | 1,hy =>
    have e:y=.bl false:=by simpa using hy.symm
    subst e
    refine⟨_,rfl,false,rfl,aL ⟨_,rfl,x,"tree",rfl,?_⟩⟩
    rcases hx2 with ⟨z,rfl,T⟩ | hn
    ·refine .inl ⟨z,rfl,T,fun R v tss H3 s3 v3 T3 e3=>?_,fun hno H3 s3=>?_⟩
     ·refine rest _ false (some (tlD ((lines z).map List.tail))) (.ref v) H3 s3 (.inl ⟨z,rfl,T,.inr ⟨rfl,.inl ⟨_,kg.mp R,rfl⟩⟩⟩) (fun h=>by cases h) (fun e he=>?_)
      cases he
      exact⟨v,rfl,.lst v3 (by rw [<- e3];exact eJ T3)⟩
     ·refine rest _ false none .non H3 s3 (.inl ⟨z,rfl,T,.inr ⟨rfl,.inr ⟨fun tl W=>hno ?_,rfl⟩⟩⟩) (fun _=>rfl) (fun e he=>by cases he)
      have:=W.eq
      subst this
      exact kg.mpr W
    ·exact .inr ⟨hn,rest _ false none .non H2 (ag.refl _) (.inr ⟨hn,rfl⟩) (fun _=>rfl) (fun e he=>by cases he)⟩
   | n + 2,hy=>simp at hy
  ·rintro σ H2 ⟨g1,g2,g3,rfl,s2⟩
   exact k H2 (s1.trans s2)
end
noncomputable def Yd (t:TE) (σ:St) (H:Hp) (f:V->Hp->Prop):Prop:=∀H',ag H H'->∀Q:VK,(∀x H2,ag H' H2->f x H2->Q x H2)->t σ H' Q
noncomputable def Ya (f:V->Hp->Prop) (t:TA) (σ:St) (H:Hp) (n:Nat):Prop:=∀H',ag H H'->∀Q:List V->Hp->Prop,(∀xs H2,ag H' H2->(∀x∈xs,f x H2)->xs.length=n->Q xs H2)->t σ H' Q
noncomputable abbrev Keeps (f:V->Hp->Prop):Prop:=∀x H H',f x H->ag H H'->f x H'
theorem Yd.con {σ:St}{H:Hp}{v:V}{f:V->Hp->Prop} (h:∀H',f v H'):Yd (tC v) σ H f:=fun H' s Q k=>k _ _ (ag.refl _) (h _)
theorem Ya.nil {f:V->Hp->Prop}{σ:St}{H:Hp}:Ya f cT σ H 0:=fun H' s Q k=>k _ _ (ag.refl _) (fun x hx=>(by cases hx)) rfl
theorem Ya.cons {f:V->Hp->Prop} (kf:Keeps f) {te:TE}{t:TA}{σ:St}{H:Hp}{n:Nat} (h:Yd te σ H f) (hs:Ya f t σ H n):Ya f (cA te t) σ H (n + 1):=fun H' s Q k=>h H' s _ fun x H1 s1 hx=>hs H1 (s.trans s1) _ fun xs H2 s2 hxs hl=>k _ _ (s1.trans s2) (fun y hy=>by
 rcases List.mem_cons.mp hy with e | e
 ·subst e;exact kf _ _ _ hx s2
 ·exact hxs y e) (by simp [hl])
theorem tL {f:V->Hp->Prop} (kf:Keeps f) {t:TA}{g:TG}{u:TS}{D:Ends}{σ:St}{H:Hp}{n:Nat} (h:Ya f t σ H n) (hn:n<=900) (k:∀(p:Addr) (xs:List V) (H':Hp),ag H H'->H' p=some (.lst xs)->(∀x∈xs,f x H')->xs.length=n->H p=none->g (.ref p) σ H' (u D)):f6 (gc (fk t) g) u D σ H :=
 h H (ag.refl _) _ fun xs H2 s2 hx hl=>⟨Nat.le_of_lt (fits (by omega)),fun p hp=>k p xs _ (ao s2 hp) ah (fun x hm=>kf _ _ _ (hx x hm) (ao (ag.refl _) hp)) hl (by
  cases hc:H p with
  | none=>rfl
  | some o=>have:=s2 _ _ hc;rw [hp] at this;cases this)⟩
theorem jq {f:V->Hp->Prop} (kf:Keeps f) {t:TA}{g:TG}{u:TS}{D:Ends}{σ:St}{H:Hp}{n i:Nat}{q:Addr}{ys:List V} (hi:σ[i]?=some (some (.ref q))) (hq:H q=some (.lst ys)) (hy:∀x∈ys,f x H) (h:Ya f t σ H n) (hn:ys.length + n<=900)
  (k:∀(p:Addr) (xs:List V) (H':Hp),ag H H'->H' p=some (.lst xs)->(∀x∈xs,f x H')->xs.length=ys.length + n->H p=none->g (.ref p) σ H' (u D)):f6 (gc (tOp jO (bZ i) (fk t)) g) u D σ H :=
 ⟨_,hi,h H (ag.refl _) _ fun xs H2 s2 hx hl=>⟨Nat.le_of_lt (fits (by omega)),fun p hp=>by
  have s3:=ao (o:=.lst xs) s2 hp
  have h3:upd H2 p (.lst xs) p=some (.lst xs):=ah
  have x3:∀x∈xs,f x (upd H2 p (.lst xs)):=fun x hm=>kf _ _ _ (hx x hm) (ao (ag.refl _) hp)
  generalize upd H2 p (.lst xs)=H3 at s3 h3 x3 ⊢
  refine⟨q,p,_,_,rfl,rfl,s3 _ _ hq,h3,Nat.le_of_lt (fits (by omega)),fun r hr=>?_⟩
  have s4:=ao (o:=.lst (ys++xs)) (ag.refl H3) hr
  refine k r (ys++xs) _ (s3.trans s4) ah (fun x hm=>?_) (by simp [hl]) ?_
  ·rcases List.mem_append.mp hm with z | z
   ·exact kf _ _ _ (hy x z) (s3.trans s4)
   ·exact kf _ _ _ (x3 x z) s4
  ·cases hc:H r with
   | none=>rfl
   | some o=>have:=s3 _ _ hc;rw [hr] at this;cases this⟩⟩
theorem bj {c:Const}{k:Nat}{p:Pos}{es:List Expr}{env:Env}:starEach (.Constant c k p::es) env=(false,eval (.Constant c k p) env)::starEach es env:=rfl
theorem nV {xs:List Expr}{k:Nat}{p:Pos}{es:List Expr}{env:Env}:starEach (.Tuple xs k p::es) env=(false,eval (.Tuple xs k p) env)::starEach es env:=rfl
theorem nO {xs:List Expr}{p:Pos}{es:List Expr}{env:Env}:starEach (.List xs p::es) env=(false,eval (.List xs p) env)::starEach es env:=rfl
theorem vA {xs:List (Option Expr)}{ys:List Expr}{p:Pos}{es:List Expr}{env:Env}:starEach (.Dict xs ys p::es) env=(false,eval (.Dict xs ys p) env)::starEach es env:=rfl
theorem rD {σ:L2.St}{H:Hp}{f:V->Hp->Prop} (h:∀p H',H' p=some (.dK [])->f (.ref p) H'):Yd mG σ H f:=fun H' s Q k p hp=>k _ _ (ao (ag.refl _) hp) (h _ _ ah)
theorem Thing.keeps:Keeps Thing:=fun x H H' h s=>h.same s
noncomputable def txB (z:Str):Bool:=decide (NL z.cps.toList<=45) && (decide (z.cps.toList.length<=100) && ((cut 10 z.cps.toList).all (fun p=>decide (p.count 32<=47)) && z.cps.toList.all fun c=>decide (c < 128)))
theorem tI {z:Str} (h:txB z=true):cJ z:=by
 unfold txB at h
 simp only [Bool.and_eq_true,decide_eq_true_eq,List.all_eq_true] at h
 exact⟨fun p hp=>h.2.2.1 p hp,h.1,by omega,fun c hc=>h.2.2.2 c hc⟩
theorem bC {σ:L2.St}{H:Hp}{z:Str} (h:txB z=true):Yd (tC (.str z)) σ H Thing:=Yd.con fun _=>.inl ⟨z,rfl,tI h⟩
theorem ue {σ:L2.St}{H:Hp}:Yd (tC .non) σ H Thing:=Yd.con fun _=>.inr (.inl ⟨.none,.non,fun s z=>by cases z⟩)
theorem tR {σ:L2.St}{H:Hp}{i:Int}:Yd (tC (.int i)) σ H Thing:=Yd.con fun _=>.inr (.inl ⟨.int i,.int i,fun s z=>by cases z⟩)
theorem uR {σ:L2.St}{H:Hp}{b:Bool}:Yd (tC (.bl b)) σ H Thing:=Yd.con fun _=>.inr (.inl ⟨.bool b,.bl b,fun s z=>by cases z⟩)
theorem uO {σ:L2.St}{H:Hp}:Yd (fk cT) σ H Thing:=fun H' s Q k=>⟨Nat.zero_le _,fun p hp=>k _ _ (ao (ag.refl _) hp) (.inr (.inl ⟨.list [],.lst ah .nil,fun s z=>by cases z⟩))⟩
theorem uV {σ:L2.St}{H:Hp}:Yd (f7 cT) σ H Thing:=fun H' s Q k=>⟨Nat.zero_le _,fun p hp=>k _ _ (ao (ag.refl _) hp) (.inr (.inl ⟨.tuple [],.tup ah .nil,fun s z=>by cases z⟩))⟩
theorem uI {σ:L2.St}{H:Hp} (x:Str):Yd (fk (cA (tC (.str x)) cT)) σ H Thing:=fun H' s Q k=>⟨by show 1<=sizeLine;decide,fun p hp=>k _ _ (ao (ag.refl _) hp) (.inr (.inl ⟨.list [.str x],.lst ah (.cons (.str x) .nil),fun s z=>by cases z⟩))⟩
theorem uZ {σ:L2.St}{H:Hp} (x:Str):Yd (f7 (cA (tC (.str x)) cT)) σ H Thing:=fun H' s Q k=>⟨by show 1<=sizeLine;decide,fun p hp=>k _ _ (ao (ag.refl _) hp) (.inr (.inl ⟨.tuple [.str x],.tup ah (.cons (.str x) .nil),fun s z=>by cases z⟩))⟩
theorem ml {p:Addr}{H H1 H2:Hp} (s:ag H H1) (hp:H p=none) (k:Kp [p] H1 H2):ag H H2:=fun b o e=>k b o (s b o e) (by simp;exact au e hp)
section
variable {P:Program}{w:World}{K:PySem.W.Frag}{mg:Str->Option Value}{base:Heap}
noncomputable def gT (K:PySem.W.Frag):Sp:=fun vs H Q _=>∃(a:Addr) (ns:List Int),vs=[.ref a]/\SqL K H a (ns.map V.int)/\ns.length<=63/\∀H',Q (.bl true) H'
noncomputable abbrev N46:List Str:=["_law_script","_law_menu","_law_k","_law_pot_here","_law_web_here","_law_root","_law_trees","_law_texts","_law_turn"]
theorem cF:aR N46 ["_law_script"] (aI (top 46)):=⟨rfl,rfl,rfl,by decide +kernel,rfl,by decide +kernel,by decide +kernel⟩
theorem ub {f:Addr}{fd:FuncData} (F:Fun K "law" "law" (top 46) f fd) (B:Bl mg) (Fp:Fn P w K mg base 2 "_law_pot" ["_law_script","_law_k"] (nj K)) (Ft:Fn P w K mg base 1 "_law_take" ["_law_pot_here","_law_many"] de) (Fg:Fn P w K mg base 4 "_law_web" ["_law_pot_here","_law_most_places","_law_most_more"] mX)
  (Fx:Fn P w K mg base 1 "_law_web_text" ["_law_web_here"] kJ) (Fy:Fn P w K mg base 1 "_law_trees_text" ["_law_trees"] j3) (Fs:Fn P w K mg base 3 "_law_spoilt" ["_law_pot_here","_law_text"] lO) (Fa:Fn P w K mg base 6 "_law_agrees" ["_law_thing"] lG):aH P w K mg base CX0 7 f fd ["_law_script"] (gT K):=by
 refine F.ok cF (fun vs H Q E h=>?_) (fun cdv A outer s H vs Q E hr h=>?_)
 ·obtain⟨a,ns,rfl,_⟩:=h
  rfl
 ·obtain⟨a,ns,rfl,hS,hlen,k⟩:=h
  have hr1:aN 1 _:=hr.mono (by decide)
  have hr2:aN 2 _:=hr.mono (by decide)
  have hr3:aN 3 _:=hr.mono (by decide)
  have hr4:aN 4 _:=hr.mono (by decide)
  refine' ⟨_,?d0,?main⟩
  case' d0=>refine' aq ?s1 ?d1
  case' d1=>refine' aq ?s2 ?d2
  case' d2=>refine' aq ?s3 ?d3
  case' d3=>refine' aq ?s4 ?d4
  case' d4=>refine' aq ?lp ?d5
  case d5=>exact aw (aM cy)
  case s1 =>
   refine' aD (i:=1) ?kand ?kax ?kay ?kaz ?kahs ?kahf
   case kand=>exact cF.nd
   case kax=>exact rfl
   case kay=>exact Or.inl rfl
   case kahf=>first | exact .inl rfl | exact .inr rfl
   case' kaz=>refine' be ?kal0
   case' kal0=>refine' aa ?kai0 ?kal1 ?kah0
   case kai0=>exact cu
   case kah0=>exact bj
   case' kal1=>refine' aa ?kai1 ?kal2 ?kah1
   case kai1=>exact ak
   case kah1=>exact bj
   case' kal2=>refine' aa ?kai2 ?kal3 ?kah2
   case kai2=>exact cy
   case kah2=>exact bj
   case' kal3=>refine' aa ?kai3 ?kal4 ?kah3
   case kai3=>exact be ae
   case kah3=>exact nO
   case' kal4=>refine' aa ?kai4 ?kal5 ?kah4
   case kai4=>exact bR ae
   case kah4=>exact nV
   case' kal5=>refine' aa ?kai5 ?kal6 ?kah5
   case kai5=>exact qY
   case kah5=>exact vA
   case' kal6=>refine' aa ?kai6 ?kal7 ?kah6
   case kai6=>exact be (aa av ae bj)
   case kah6=>exact nO
   case' kal7=>refine' aa ?kai7 ?kal8 ?kah7
   case kai7=>exact bR (aa av ae bj)
   case kah7=>exact nV
   case' kal8=>refine' aa ?kai8 ?kal9 ?kah8
   case kai8=>exact av
   case kah8=>exact bj
   case' kal9=>refine' aa ?kai9 ?kal10 ?kah9
   case kai9=>exact av
   case kah9=>exact bj
   case' kal10=>refine' aa ?kai10 ?kal11 ?kah10
   case kai10=>exact av
   case kah10=>exact bj
   case' kal11=>refine' aa ?kai11 ?kal12 ?kah11
   case kai11=>exact av
   case kah11=>exact bj
   case' kal12=>refine' aa ?kai12 ?kal13 ?kah12
   case kai12=>exact av
   case kah12=>exact bj
   case' kal13=>refine' aa ?kai13 ?kal14 ?kah13
   case kai13=>exact av
   case kah13=>exact bj
   case' kal14=>refine' aa ?kai14 ?kal15 ?kah14
   case kai14=>exact av
   case kah14=>exact bj
   case kal15=>exact ae
   case kahs=>kernel_rfl
  case s2 =>
   refine' aD (i:=1) ?kbnd ?kbx ?kby ?kbz ?kbhs ?kbhf
   case kbnd=>exact cF.nd
   case kbx=>exact rfl
   case kby=>exact Or.inl rfl
   case kbhf=>first | exact .inl rfl | exact .inr rfl
   case' kbz=>refine' ay b6 (pv 1) (be ?kbl0)
   case' kbl0=>refine' aa ?kbi0 ?kbl1 ?kbh0
   case kbi0=>exact av
   case kbh0=>exact bj
   case' kbl1=>refine' aa ?kbi1 ?kbl2 ?kbh1
   case kbi1=>exact av
   case kbh1=>exact bj
   case' kbl2=>refine' aa ?kbi2 ?kbl3 ?kbh2
   case kbi2=>exact av
   case kbh2=>exact bj
   case' kbl3=>refine' aa ?kbi3 ?kbl4 ?kbh3
   case kbi3=>exact av
   case kbh3=>exact bj
   case' kbl4=>refine' aa ?kbi4 ?kbl5 ?kbh4
   case kbi4=>exact av
   case kbh4=>exact bj
   case' kbl5=>refine' aa ?kbi5 ?kbl6 ?kbh5
   case kbi5=>exact av
   case kbh5=>exact bj
   case kbl6=>exact ae
   case kbhs=>kernel_rfl
  case s3 =>
   refine' aD (i:=1) ?kcnd ?kcx ?kcy ?kcz ?kchs ?kchf
   case kcnd=>exact cF.nd
   case kcx=>exact rfl
   case kcy=>exact Or.inl rfl
   case kchf=>first | exact .inl rfl | exact .inr rfl
   case' kcz=>refine' ay b6 (pv 1) (be ?kcl0)
   case' kcl0=>refine' aa ?kci0 ?kcl1 ?kch0
   case kci0=>exact av
   case kch0=>exact bj
   case' kcl1=>refine' aa ?kci1 ?kcl2 ?kch1
   case kci1=>exact av
   case kch1=>exact bj
   case' kcl2=>refine' aa ?kci2 ?kcl3 ?kch2
   case kci2=>exact av
   case kch2=>exact bj
   case' kcl3=>refine' aa ?kci3 ?kcl4 ?kch3
   case kci3=>exact av
   case kch3=>exact bj
   case' kcl4=>refine' aa ?kci4 ?kcl5 ?kch4
   case kci4=>exact av
   case kch4=>exact bj
   case kcl5=>exact ae
   case kchs=>kernel_rfl
  case s4 =>
   refine' aD (i:=1) ?kdnd ?kdx ?kdy ?kdz ?kdhs ?kdhf
   case kdnd=>exact cF.nd
   case kdx=>exact rfl
   case kdy=>exact Or.inl rfl
   case kdhf=>first | exact .inl rfl | exact .inr rfl
   case' kdz=>refine' ay b6 (pv 1) (be ?kdl0)
   case' kdl0=>refine' aa ?kdi0 ?kdl1 ?kdh0
   case kdi0=>exact av
   case kdh0=>exact bj
   case' kdl1=>refine' aa ?kdi1 ?kdl2 ?kdh1
   case kdi1=>exact av
   case kdh1=>exact bj
   case' kdl2=>refine' aa ?kdi2 ?kdl3 ?kdh2
   case kdi2=>exact av
   case kdh2=>exact bj
   case kdl3=>exact ae
   case kdhs=>kernel_rfl
  case lp =>
   refine' cO PassesOwn.never rfl ?f1 ?f2 ?f3
   case f1=>exact dF rfl B.range (aa (aA (kL rfl) rfl B.max nI (aa ak (aa (aA (pW rfl) rfl B.min uQ (aa (aA bo rfl B.len PySem.boot_len (aa (pv 0) ae)) (aa ak ae))) ae))) ae)
   case f2=>exact bw (i:=2) cF.nd rfl (Or.inl rfl)
   case' f3=>refine' aq (aD (i:=3) cF.nd rfl (Or.inl rfl) (aC Fp hr2 (aa (pv 0) (aa (pv 2) ae)))) ?g1
   case' g1=>refine' aq (eA (aC Fg hr4 (aa (pv 3) (aa ak (aa ak ae)))) (fQ rfl (n:=3) (cm (bw (i:=4) cF.nd rfl (Or.inl rfl)) (cm (bw (i:=5) cF.nd rfl (Or.inl rfl)) (cm (bw (i:=6) cF.nd rfl (Or.inl rfl)) fG))))) ?g2
   case' g2=>refine' aq (aD (i:=7) cF.nd rfl (Or.inl rfl) (be (aa (aC Fx hr1 (aa (pv 4) ae)) (aa (aC Fy hr1 (aa (pv 6) ae)) ae)))) ?g3
   case' g3=>refine' aq (cO PassesOwn.never rfl (dF rfl B.range (aa ak ae)) (bw (i:=8) cF.nd rfl (Or.inl rfl)) ?g4) ?g5
   case g4=>exact aw (bh (bQ (bN (aC Fa hr (aa (aC Fs hr3 (aa (pv 3) (aa (aG aP (pv 7) (aC Ft hr1 (aa (pv 3) (aa ak ae))) (fun _ _=>rfl)) ae))) ae)))) kK bp)
   case g5=>exact aw (bh (PW.pt (bW (bQ (bN (aC Fa hr (aa (aG aP (pv 7) ak (fun _ _=>rfl)) ae)))) (bW (bQ (bN (aC Fa hr (aa (aG aP (pv 7) ak (fun _ _=>rfl)) ae)))) (cP (bQ (bN (aC Fa hr (aa (aG aP (pv 1) (aC Ft hr1 (aa (pv 3) (aa (aA bo rfl B.len PySem.boot_len (aa (pv 1) ae)) ae))) (fun _ _=>rfl)) ae)))))))) kK bp)
  case main =>
  refine tL Thing.keeps (n:=15) (Ya.cons Thing.keeps (ue) (Ya.cons Thing.keeps (tR) (Ya.cons Thing.keeps (uR) (Ya.cons Thing.keeps (uO) (Ya.cons Thing.keeps (uV) (Ya.cons Thing.keeps (rD fun p H z=>.inr (.inr ⟨p,rfl,z⟩)) (Ya.cons Thing.keeps (uI _) (Ya.cons Thing.keeps (uZ _) (Ya.cons Thing.keeps (bC (z:="") (by decide +kernel)) (Ya.cons Thing.keeps (bC (z:="\n") (by decide +kernel)) (Ya.cons Thing.keeps (bC (z:=" ") (by decide +kernel)) (Ya.cons Thing.keeps (bC (z:="tree") (by decide +kernel)) (Ya.cons Thing.keeps (bC (z:="tree\n") (by decide +kernel)) (Ya.cons Thing.keeps (bC (z:="tree \n") (by decide +kernel)) (Ya.cons Thing.keeps (bC (z:="places\n") (by decide +kernel)) (Ya.nil)))))))))))))))) (by decide) fun m0 xs0 H0 s0 m00 f0 z0 _=>?_
  refine jq Thing.keeps (i:=1) (n:=6) rfl m00 f0 (Ya.cons Thing.keeps (bC (z:="places a\n") (by decide +kernel)) (Ya.cons Thing.keeps (bC (z:="places a") (by decide +kernel)) (Ya.cons Thing.keeps (bC (z:="places  a\n") (by decide +kernel)) (Ya.cons Thing.keeps (bC (z:="places a \n") (by decide +kernel)) (Ya.cons Thing.keeps (bC (z:="places a\n\n") (by decide +kernel)) (Ya.cons Thing.keeps (bC (z:="\nplaces a\n") (by decide +kernel)) (Ya.nil))))))) (by omega) fun m1 xs1 H1 t1 m11 f1 z1 _=>?_
  have s1:=s0.trans t1
  refine jq Thing.keeps (i:=1) (n:=5) rfl m11 f1 (Ya.cons Thing.keeps (bC (z:="tie t a b\n") (by decide +kernel)) (Ya.cons Thing.keeps (bC (z:="places a b\ntie t a b\n") (by decide +kernel)) (Ya.cons Thing.keeps (bC (z:="places a b\ntie t a a\n") (by decide +kernel)) (Ya.cons Thing.keeps (bC (z:="places b a\n") (by decide +kernel)) (Ya.cons Thing.keeps (bC (z:="places a a\n") (by decide +kernel)) (Ya.nil)))))) (by omega) fun m2 xs2 H2 t2 m22 f2 z2 _=>?_
  have s2:=s1.trans t2
  refine jq Thing.keeps (i:=1) (n:=3) rfl m22 f2 (Ya.cons Thing.keeps (bC (z:="tree a\ntree\n") (by decide +kernel)) (Ya.cons Thing.keeps (bC (z:="tree b a\n") (by decide +kernel)) (Ya.cons Thing.keeps (bC (z:="tree a a\n") (by decide +kernel)) (Ya.nil)))) (by omega) fun m3 xs3 H3 t3 m33 f3 z3 _=>?_
  have s3:=s2.trans t3
  refine⟨_,rfl,a,_,rfl,.inl (s3.seq hS),_,_,rfl,_,_,rfl,_,rfl,?_,?_,?_⟩
  ·repeat' split
   all_goals omega
  ·repeat' split
   all_goals omega
  have hn9:∀x:Int,x=(if (if (8:Int) < ((ns.map V.int).length:Int) then 8 else ((ns.map V.int).length:Int)) > 1 then (if (8:Int) < ((ns.map V.int).length:Int) then 8 else ((ns.map V.int).length:Int)) else 1)->x.toNat<=8:=fun x hx=>by
   subst hx
   repeat' split
   all_goals omega
  refine fv (fun i σ H4=>(∃g2 g3 g4 g5 g6 g7 g8,σ=[some (.ref a),some (.ref m3),g2,g3,g4,g5,g6,g7,g8])/\ag H3 H4) ⟨⟨_,_,_,_,_,_,_,rfl⟩,ag.refl _⟩ ?_ (fun σ H4 _=>k H4)
  rintro i σ H4 hi ⟨⟨g2,g3,g4,g5,g6,g7,g8,rfl⟩,s4⟩
  have hi8:i < 8:=Nat.lt_of_lt_of_le hi (hn9 _ rfl)
  refine⟨_,rfl,_,rfl,a,ns,_,rfl,s4.seq (s3.seq hS),by omega,by omega,fun p H5 s5 p0 P5=>?_⟩
  refine⟨_,rfl,p,rfl,P5,fun w0 v tl pa ra root ps rs H6 P6 w6 W6 G p5 r40 K6 tss t6 TA TO tz=>?_⟩
  refine⟨w0,_,rfl,SqT.of w6,rfl,_,_,rfl,_,_,rfl,_,_,rfl,rfl,?_⟩
  refine⟨_,rfl,v,pa,ra,ps,rs,rfl,W6,G,by omega,fun H7 s7=>?_⟩
  refine⟨_,rfl,tl,tss,rfl,s7 _ _ t6,TA.same s7,TO,by omega,fun H8 s8=>?_⟩
  refine⟨by show 2<=sizeLine;decide,fun tx htx=>?_⟩
  have T1:TxB 5 42 2000 (textOf (cK ps (rs.map (·.2)))):=sH G p5 (by rw [List.length_map];exact r40)
  have T2:TxB 5 42 2000 (dr (tss.map (·.2))):=qi (fun t ht=>by
   obtain⟨y,hy,rfl⟩:=List.mem_map.mp ht
   exact TO y hy) (by rw [List.length_map];exact tz)
  generalize textOf (cK ps (rs.map (·.2)))=z1 at T1 ⊢
  generalize dr (tss.map (·.2))=z2 at T2 ⊢
  have s9:=ao (o:=.lst [.str z1,.str z2]) (s7.trans s8) htx
  have x9:upd H8 tx (.lst [.str z1,.str z2]) tx=some (.lst ([z1,z2].map V.str)):=ah
  have P9:Pot (upd H8 tx (.lst [.str z1,.str z2])) p:=P6.keep fun o e=>s9 _ _ e
  have K9:Kp [p] H5 (upd H8 tx (.lst [.str z1,.str z2])):=K6.of_same s9
  generalize upd H8 tx (.lst [.str z1,.str z2])=H9 at s9 x9 P9 K9 ⊢
  have nxp:tx≠p:=cN P9 x9
  have T3:∀z∈[z1,z2],TxB 5 42 2000 z:=fun z hz=>by
   simp only [List.mem_cons,List.not_mem_nil,or_false] at hz
   rcases hz with rfl | rfl
   ·exact T1
   ·exact T2
  refine⟨_,rfl,by decide,by decide,fv (fun j σ H10=>(∃g8,σ=[some (.ref a),some (.ref m3),some (.int (0 + (i:Int))),some (.ref p),some (.ref v),some (.str root),some (.ref tl),some (.ref tx),g8])/\Pot H10 p/\Kp [p] H5 H10/\H10 tx=some (.lst ([z1,z2].map V.str))) ⟨⟨_,rfl⟩,P9,K9,x9⟩ ?_ ?_⟩
  ·rintro j σ H10 hj ⟨⟨g8,rfl⟩,P10,K10,x10⟩
   refine⟨_,rfl,_,rfl,_,rfl,p,2,rfl,P10,by decide,by decide,fun r H11 r0 r1 P11 e11=>?_⟩
   have x11:=(e11 tx nxp).trans x10
   obtain⟨r',rfl⟩:∃r':Nat,r=r':=⟨r.toNat,by omega⟩
   have hr':r' < [z1,z2].length:=by show r' < 2;omega
   have hzr:[z1,z2][r']?=some [z1,z2][r']:=List.getElem?_eq_getElem hr'
   generalize [z1,z2][r']=zr at hzr
   refine aK (v:=.str zr) (j:=r') (.inl (SqL.of x11)) rfl (by rw [List.getElem?_map,hzr];rfl) ?_
   refine⟨p,zr,rfl,P11,T3 zr (List.mem_of_getElem? hzr),fun z' H12 P12 K12 T12=>?_⟩
   refine⟨_,rfl,.inl ⟨z',rfl,T12⟩,fun H13 s13=>⟨_,rfl,aL ?_⟩⟩
   exact⟨⟨_,rfl⟩,P12.keep fun o e=>s13 _ _ e,((K10.turn e11).trans K12).of_same s13,s13 _ _ (K12 _ _ x11 (by simpa using nxp))⟩
  ·rintro σ H10 ⟨⟨g8,rfl⟩,P10,K10,x10⟩
   have ok0:∀{z:Str},TxB 5 42 2000 z->cJ z:=fun h=>TxI.ok (TxI.zero h) (by decide)
   refine⟨_,rfl,aK (j:=0) (.inl (SqL.of x10)) rfl rfl ⟨.str z1,rfl,.inl ⟨z1,rfl,ok0 T1⟩,fun H11 s11=>⟨_,rfl,aL ?_⟩⟩⟩
   refine⟨_,rfl,aK (j:=1) (.inl (SqL.of (s11 _ _ x10))) rfl rfl ⟨.str z2,rfl,.inl ⟨z2,rfl,ok0 T2⟩,fun H12 s12=>⟨_,rfl,aL ?_⟩⟩⟩
   have sA:ag H4 H12:=(ml s5 p0 K10).trans (s11.trans s12)
   have m12:=sA _ _ (s4 _ _ m33)
   have P12:Pot H12 p:=P10.keep fun o e=>(s11.trans s12) _ _ e
   refine⟨_,rfl,_,rfl,_,rfl,m3,_,rfl,.inl (SqL.of m12),p,_,rfl,P12,by omega,by omega,fun r H13 r0 r1 P13 e13=>?_⟩
   obtain⟨r',rfl⟩:∃r':Nat,r=r':=⟨r.toNat,by omega⟩
   have hrl:r' < xs3.length:=by omega
   have hxr:xs3[r']?=some xs3[r']:=List.getElem?_eq_getElem hrl
   have fx:=f3 xs3[r'] (List.getElem_mem hrl)
   generalize xs3[r']=y at hxr fx
   have K13:Kp [p] H5 H13:=(K10.of_same (s11.trans s12)).turn e13
   have sB:ag H4 H13:=ml s5 p0 K13
   have m13:=sB _ _ (s4 _ _ m33)
   refine aK (v:=y) (j:=r') (.inl (SqL.of m13)) rfl hxr ?_
   refine⟨y,rfl,fx.same (s4.trans sB),fun H14 s14=>⟨_,rfl,aL ?_⟩⟩
   exact⟨⟨_,_,_,_,_,_,_,rfl⟩,s4.trans (sB.trans s14)⟩
end
noncomputable def aT (K:PySem.W.Frag) (x:Str) (st:Stmt):Prop:=∃(f:Addr) (oc:Value) (od:Option Addr) (kV doc pm:Value) (an:Option Addr) (cd ct:Value) (sl:Array (Option Value)),
 PySem.W.nsIn K mainGlobals x=some (some (.ref f))/\K.lookup f=some ⟨oc,od,.func (PySem.W.fnOf x x (dc st) (b9 st) (aI st) .none kV doc pm an cd ct),sl⟩/\PySem.W.codeIn K cd x=true/\PySem.W.keepIn K (.ref f)=true
theorem vF {K:PySem.W.Frag}{x:Str}{st:Stmt}{f:Addr}{oc:Value}{od:Option Addr}{kV doc pm:Value}{an:Option Addr}{cd ct:Value}{sl:Array (Option Value)} (a:PySem.W.nsIn K mainGlobals x=some (some (.ref f)))
  (l:K.lookup f=some ⟨oc,od,.func (PySem.W.fnOf x x (dc st) (b9 st) (aI st) .none kV doc pm an cd ct),sl⟩) (c:PySem.W.codeIn K cd x=true) (k:PySem.W.keepIn K (.ref f)=true):aT K x st :=
 ⟨f,oc,od,kV,doc,pm,an,cd,ct,sl,a,l,c,k⟩
theorem bu {P:Program}{w:World}{K:PySem.W.Frag}{mg:Str->Option Value}{base h:Heap}{x:Str}{st:Stmt}{k:Nat}{ps:List Str}{sp:Sp} (D:aT K x st) (X:K.In h) (G:h.Ns mainGlobals mg)
  (hb:∀(kV doc pm:Value) (an:Option Addr) (cdv ct:Value) (us:List Value),us.length=ps.length->bindArgs (PySem.W.fnOf x x (dc st) (b9 st) (aI st) .none kV doc pm an cdv ct) ⟨us,[]⟩=pure (ps.zip us))
  (ok:∀(f:Addr) (fd:FuncData),Fun K x x st f fd->aH P w K mg base CX0 k f fd ps sp):Fn P w K mg base k x ps sp:=by
 obtain⟨f,oc,od,kV,doc,pm,an,cd,ct,sl,a,l,c,kk⟩:=D
 have F:=gO (st:=st) l c kk
 exact⟨f,_,PySem.W.mg_of X G a,kk,F.binds hb,ok f _ F⟩
theorem gK {P:Program}{w:World}{K:PySem.W.Frag}{mg:Str->Option Value}{base h:Heap}{x:Str}{st:Stmt}{k:Nat}{ps:List Str}{sp:Sp} (D:aT K x st) (X:K.In h) (G:h.Ns mainGlobals mg)
  (hb:∀(kV doc pm:Value) (an:Option Addr) (cdv ct:Value) (us:List Value),us.length=ps.length->bindArgs (PySem.W.fnOf x x (dc st) (b9 st) (aI st) .none kV doc pm an cdv ct) ⟨us,[]⟩=pure (ps.zip us))
  (ok:∀(f:Addr) (fd:FuncData),Fun K x x st f fd->aH P w K mg base (CXE P w) k f fd ps sp):FnX P w K mg base k x ps sp:=by
 obtain⟨f,oc,od,kV,doc,pm,an,cd,ct,sl,a,l,c,kk⟩:=D
 have F:=gO (st:=st) l c kk
 exact⟨f,_,PySem.W.mg_of X G a,kk,F.binds hb,ok f _ F⟩
theorem sI {P:Program}{w:World}{K:PySem.W.Frag}{mg:Str->Option Value}{base h:Heap}{x:Str}{st:Stmt}{k:Nat}{ps:List Str}{sp:Option Value->Sp} (D:aT K x st) (X:K.In h) (G:h.Ns mainGlobals mg)
  (hb:∀(kV doc pm:Value) (an:Option Addr) (cdv ct:Value) (us:List Value),us.length=ps.length->bindArgs (PySem.W.fnOf x x (dc st) (b9 st) (aI st) .none kV doc pm an cdv ct) ⟨us,[]⟩=pure (ps.zip us))
  (ok:∀(f:Addr) (fd:FuncData),Fun K x x st f fd->eI P w K mg base CX0 k f fd ps sp):FnG P w K mg base k x ps sp:=by
 obtain⟨f,oc,od,kV,doc,pm,an,cd,ct,sl,a,l,c,kk⟩:=D
 have F:=gO (st:=st) l c kk
 exact⟨f,_,PySem.W.mg_of X G a,kk,F.binds hb,ok f _ F⟩
theorem vG {l:PySem.W.OpenLaw}{w:World}{K:PySem.W.Frag}{h:Heap}{mg:Str->Option Value}{fa:Addr} (X:K.In h) (G:h.Ns mainGlobals mg) (hfa:mg "law"=some (.ref fa)) (B:Bl mg) {Rc CT d1a d2a d3a d4a d5a d6a d7a d8a d9a d10a:Addr}
  (cRc:PySem.W.nsIn K mainGlobals "RootError"=some (some (.ref Rc))) (eRc:PySem.W.excIn K Rc veM "ValueError.__new__"=true)
  (cCT:PySem.W.nsIn K mainGlobals "NoText"=some (some (.ref CT))) (eCT:PySem.W.excIn K CT veM "ValueError.__new__"=true)
  (uCTRc:je K CT Rc=true)
  (cd1a:PySem.W.nsIn K mainGlobals "NoCosts"=some (some (.ref d1a)))
  (cd2a:PySem.W.nsIn K mainGlobals "NoLot"=some (some (.ref d2a)))
  (cd3a:PySem.W.nsIn K mainGlobals "NoNumber"=some (some (.ref d3a)))
  (cd4a:PySem.W.nsIn K mainGlobals "NoPlace"=some (some (.ref d4a)))
  (cd5a:PySem.W.nsIn K mainGlobals "NoRoots"=some (some (.ref d5a)))
  (cd6a:PySem.W.nsIn K mainGlobals "NoTie"=some (some (.ref d6a)))
  (cd7a:PySem.W.nsIn K mainGlobals "NoTree"=some (some (.ref d7a)))
  (cd8a:PySem.W.nsIn K mainGlobals "NoWeb"=some (some (.ref d8a)))
  (cd9a:PySem.W.nsIn K mainGlobals "TooFew"=some (some (.ref d9a)))
  (cd10a:PySem.W.nsIn K mainGlobals "TooMany"=some (some (.ref d10a)))
  (zve:PySem.W.nsIn K mainGlobals "ValueError"=some none)
  (q0:PySem.W.kitOne K (.ref CT) (.ref CT)=some true)
  (q1:PySem.W.kitOne K (.ref CT) (.ref d1a)=some false)
  (q2:PySem.W.kitOne K (.ref CT) (.ref d2a)=some false)
  (q3:PySem.W.kitOne K (.ref CT) (.ref d3a)=some false)
  (q4:PySem.W.kitOne K (.ref CT) (.ref d4a)=some false)
  (q5:PySem.W.kitOne K (.ref CT) (.ref d5a)=some false)
  (q6:PySem.W.kitOne K (.ref CT) (.ref d6a)=some false)
  (q7:PySem.W.kitOne K (.ref CT) (.ref d7a)=some false)
  (q8:PySem.W.kitOne K (.ref CT) (.ref d8a)=some false)
  (q9:PySem.W.kitOne K (.ref CT) (.ref d9a)=some false)
  (q10:PySem.W.kitOne K (.ref CT) (.ref d10a)=some false)
  (qv:PySem.W.kitOne K (.ref CT) (.type "ValueError")=some true)
  (qx:jo K CT=true)
  (d15:aT K "is_name" (top 15))
  (d16:aT K "is_rising" (top 16))
  (d17:aT K "is_sorted_names" (top 17))
  (d18:aT K "is_among" (top 18))
  (d19:aT K "is_tie_row" (top 19))
  (d20:aT K "is_web" (top 20))
  (d22:aT K "lines_in" (top 22))
  (d23:aT K "names_behind" (top 23))
  (d24:aT K "read_web" (top 24))
  (d25:aT K "read_trees" (top 25))
  (d27:aT K "_law_at" (top 27))
  (d28:aT K "_law_pot" (top 28))
  (d29:aT K "_law_take" (top 29))
  (d30:aT K "_law_name" (top 30))
  (d31:aT K "_law_grown" (top 31))
  (d32:aT K "_law_more" (top 32))
  (d33:aT K "_law_places" (top 33))
  (d34:aT K "_law_web" (top 34))
  (d35:aT K "_law_web_text" (top 35))
  (d36:aT K "_law_trees_text" (top 36))
  (d37:aT K "_law_sign_spoilt" (top 37))
  (d38:aT K "_law_lines_spoilt" (top 38))
  (d39:aT K "_law_spoilt" (top 39))
  (d40:aT K "_law_names" (top 40))
  (d41:aT K "_law_rows" (top 41))
  (d42:aT K "_law_web_of" (top 42))
  (d43:aT K "_law_is_other" (top 43))
  (d44:aT K "_law_told" (top 44))
  (d45:aT K "_law_agrees" (top 45))
  (d46:aT K "law" (top 46)) :
  ∃fd:FuncData,(∀(s:Shared) (v:Value),BindsTo s fd ⟨[v],[]⟩ [("_law_script",v)])/\∀base:Heap,K.In base->base.Ns mainGlobals mg->aH l.prog w K mg base CX0 7 fa fd ["_law_script"] (gT K):=by
 obtain⟨f,oc,od,kV,doc,pm,an,cd,ct,sl,a,lk,c,kk⟩:=d46
 have e:=hfa.symm.trans (PySem.W.mg_of X G a)
 cases e
 refine⟨PySem.W.fnOf "law" "law" (dc (top 46)) (b9 (top 46)) (aI (top 46)) .none kV doc pm an cd ct,fun s v=>.of_eq rfl,fun base KB _=>?_⟩
 have gRc:=PySem.W.mg_of X G cRc
 have xRc:=lS KB eRc
 have gCT:=PySem.W.mg_of X G cCT
 have xCT:=lS KB eCT
 have vCTRc:=rk KB uCTRc
 have gd1a:=PySem.W.mg_of X G cd1a
 have gd2a:=PySem.W.mg_of X G cd2a
 have gd3a:=PySem.W.mg_of X G cd3a
 have gd4a:=PySem.W.mg_of X G cd4a
 have gd5a:=PySem.W.mg_of X G cd5a
 have gd6a:=PySem.W.mg_of X G cd6a
 have gd7a:=PySem.W.mg_of X G cd7a
 have gd8a:=PySem.W.mg_of X G cd8a
 have gd9a:=PySem.W.mg_of X G cd9a
 have gd10a:=PySem.W.mg_of X G cd10a
 have Z:Cls mg CT d1a d2a d3a d4a d5a d6a d7a d8a d9a d10a:=⟨gCT,gd1a,gd2a,gd3a,gd4a,gd5a,gd6a,gd7a,gd8a,gd9a,gd10a,PySem.W.mg_none_of X G zve⟩
 have Oo:Srt K CT d1a d2a d3a d4a d5a d6a d7a d8a d9a d10a:=⟨tm qx,q0,qv,q1,q2,q3,q4,q5,q6,q7,q8,q9,q10⟩
 have n15:=bu (P:=l.prog) (w:=w) (base:=base) d15 X G (ps:=["thing"]) (fun _ _ _ _ _ _ us hl=>match us,hl with | [_],_=>rfl) fun f fd F=>qV F B
 have n16:=bu (P:=l.prog) (w:=w) (base:=base) d16 X G (ps:=["names"]) (fun _ _ _ _ _ _ us hl=>match us,hl with | [_],_=>rfl) fun f fd F=>pK F B
 have n17:=bu (P:=l.prog) (w:=w) (base:=base) d17 X G (ps:=["thing"]) (fun _ _ _ _ _ _ us hl=>match us,hl with | [_],_=>rfl) fun f fd F=>pN F B n15 n16
 have n18:=bu (P:=l.prog) (w:=w) (base:=base) d18 X G (ps:=["thing","names"]) (fun _ _ _ _ _ _ us hl=>match us,hl with | [_,_],_=>rfl) fun f fd F=>qL F B
 have n19:=bu (P:=l.prog) (w:=w) (base:=base) d19 X G (ps:=["thing","places"]) (fun _ _ _ _ _ _ us hl=>match us,hl with | [_,_],_=>rfl) fun f fd F=>tq F B n15 n18
 have n20:=bu (P:=l.prog) (w:=w) (base:=base) d20 X G (ps:=["thing"]) (fun _ _ _ _ _ _ us hl=>match us,hl with | [_],_=>rfl) fun f fd F=>sQ F B n17 n19 n16
 have n22:=gK (P:=l.prog) (w:=w) (base:=base) d22 X G (ps:=["text"]) (fun _ _ _ _ _ _ us hl=>match us,hl with | [_],_=>rfl) fun f fd F=>rY F B gCT xCT
 have n23:=gK (P:=l.prog) (w:=w) (base:=base) d23 X G (ps:=["word","words"]) (fun _ _ _ _ _ _ us hl=>match us,hl with | [_,_],_=>rfl) fun f fd F=>qu F B gCT xCT
 have n24:=gK (P:=l.prog) (w:=w) (base:=base) d24 X G (ps:=["text"]) (fun _ _ _ _ _ _ us hl=>match us,hl with | [_],_=>rfl) fun f fd F=>o7 F B gCT xCT n22 n23 n20
 have n25:=gK (P:=l.prog) (w:=w) (base:=base) d25 X G (ps:=["text"]) (fun _ _ _ _ _ _ us hl=>match us,hl with | [_],_=>rfl) fun f fd F=>oE F B gCT xCT n22 n23 n17
 have n27:=bu (P:=l.prog) (w:=w) (base:=base) d27 X G (ps:=["_law_script","_law_k"]) (fun _ _ _ _ _ _ us hl=>match us,hl with | [_,_],_=>rfl) fun f fd F=>uW F B
 have n28:=bu (P:=l.prog) (w:=w) (base:=base) d28 X G (ps:=["_law_script","_law_k"]) (fun _ _ _ _ _ _ us hl=>match us,hl with | [_,_],_=>rfl) fun f fd F=>uG F B n27
 have n29:=bu (P:=l.prog) (w:=w) (base:=base) d29 X G (ps:=["_law_pot_here","_law_many"]) (fun _ _ _ _ _ _ us hl=>match us,hl with | [_,_],_=>rfl) fun f fd F=>sv F
 have n30:=bu (P:=l.prog) (w:=w) (base:=base) d30 X G (ps:=["_law_pot_here","_law_taken"]) (fun _ _ _ _ _ _ us hl=>match us,hl with | [_,_],_=>rfl) fun f fd F=>sY F B n29
 have n31:=bu (P:=l.prog) (w:=w) (base:=base) d31 X G (ps:=["_law_pot_here","_law_places_here","_law_root","_law_rows_here","_law_taken"]) (fun _ _ _ _ _ _ us hl=>match us,hl with | [_,_,_,_,_],_=>rfl) fun f fd F=>qO F B n29 n30
 have n32:=bu (P:=l.prog) (w:=w) (base:=base) d32 X G (ps:=["_law_pot_here","_law_places_here","_law_rows_here","_law_taken","_law_many"]) (fun _ _ _ _ _ _ us hl=>match us,hl with | [_,_,_,_,_],_=>rfl) fun f fd F=>sX F B n29 n30
 have n33:=bu (P:=l.prog) (w:=w) (base:=base) d33 X G (ps:=["_law_pot_here","_law_most"]) (fun _ _ _ _ _ _ us hl=>match us,hl with | [_,_],_=>rfl) fun f fd F=>qK F B n29 n30
 have n34:=bu (P:=l.prog) (w:=w) (base:=base) d34 X G (ps:=["_law_pot_here","_law_most_places","_law_most_more"]) (fun _ _ _ _ _ _ us hl=>match us,hl with | [_,_,_],_=>rfl) fun f fd F=>tU F B n29 n33 n31 n32
 have n35:=bu (P:=l.prog) (w:=w) (base:=base) d35 X G (ps:=["_law_web_here"]) (fun _ _ _ _ _ _ us hl=>match us,hl with | [_],_=>rfl) fun f fd F=>tW F B
 have n36:=bu (P:=l.prog) (w:=w) (base:=base) d36 X G (ps:=["_law_trees"]) (fun _ _ _ _ _ _ us hl=>match us,hl with | [_],_=>rfl) fun f fd F=>uB F B
 have n37:=bu (P:=l.prog) (w:=w) (base:=base) d37 X G (ps:=["_law_pot_here","_law_text"]) (fun _ _ _ _ _ _ us hl=>match us,hl with | [_,_],_=>rfl) fun f fd F=>tw F B n29
 have n38:=bu (P:=l.prog) (w:=w) (base:=base) d38 X G (ps:=["_law_pot_here","_law_text"]) (fun _ _ _ _ _ _ us hl=>match us,hl with | [_,_],_=>rfl) fun f fd F=>o9 F B n29
 have n39:=bu (P:=l.prog) (w:=w) (base:=base) d39 X G (ps:=["_law_pot_here","_law_text"]) (fun _ _ _ _ _ _ us hl=>match us,hl with | [_,_],_=>rfl) fun f fd F=>pV F B n29 n37 n38
 have n40:=bu (P:=l.prog) (w:=w) (base:=base) d40 X G (ps:=["_law_words"]) (fun _ _ _ _ _ _ us hl=>match us,hl with | [_],_=>rfl) fun f fd F=>pU F B
 have n41:=bu (P:=l.prog) (w:=w) (base:=base) d41 X G (ps:=["_law_thing","_law_first"]) (fun _ _ _ _ _ _ us hl=>match us,hl with | [_,_],_=>rfl) fun f fd F=>sT F B n40
 have n42:=bu (P:=l.prog) (w:=w) (base:=base) d42 X G (ps:=["_law_thing"]) (fun _ _ _ _ _ _ us hl=>match us,hl with | [_],_=>rfl) fun f fd F=>qd F B n41
 have n43:=sI (P:=l.prog) (w:=w) (base:=base) d43 X G (ps:=["_law_e"]) (fun _ _ _ _ _ _ us hl=>match us,hl with | [_],_=>rfl) fun f fd F=>rd F B Z Oo
 have n44:=bu (P:=l.prog) (w:=w) (base:=base) d44 X G (ps:=["_law_thing","_law_wants_web"]) (fun _ _ _ _ _ _ us hl=>match us,hl with | [_,_],_=>rfl) fun f fd F=>tG F B Z Oo gRc xRc vCTRc n24 n25 n43
 have n45:=bu (P:=l.prog) (w:=w) (base:=base) d45 X G (ps:=["_law_thing"]) (fun _ _ _ _ _ _ us hl=>match us,hl with | [_],_=>rfl) fun f fd F=>pR F n42 n41 n44
 exact ub (gO (st:=top 46) lk c kk) B n28 n29 n34 n35 n36 n39 n45
theorem vJ {K:PySem.W.Frag}{h:Heap}{mg:Str->Option Value} (X:K.In h) (G:h.Ns mainGlobals mg) {t_lng:Tok}
  (z_len:PySem.W.nsIn K mainGlobals "len"=some none)
  (z_isinstance:PySem.W.nsIn K mainGlobals "isinstance"=some none)
  (z_all:PySem.W.nsIn K mainGlobals "all"=some none)
  (z_range:PySem.W.nsIn K mainGlobals "range"=some none)
  (z_sorted:PySem.W.nsIn K mainGlobals "sorted"=some none)
  (z_repr:PySem.W.nsIn K mainGlobals "repr"=some none)
  (z_max:PySem.W.nsIn K mainGlobals "max"=some none)
  (z_min:PySem.W.nsIn K mainGlobals "min"=some none)
  (z_str:PySem.W.nsIn K mainGlobals "str"=some none)
  (z_tuple:PySem.W.nsIn K mainGlobals "tuple"=some none)
  (z_list:PySem.W.nsIn K mainGlobals "list"=some none)
  (z_int:PySem.W.nsIn K mainGlobals "int"=some none)
  (z_set:PySem.W.nsIn K mainGlobals "set"=some none)
  (z_bool:PySem.W.nsIn K mainGlobals "bool"=some none)
  (z_any:PySem.W.nsIn K mainGlobals "any"=some none)
  (z_lng:PySem.W.nsIn K mainGlobals "LONGEST_NAME"=some (some (.int 8 t_lng)))
  : Bl mg :=
 ⟨PySem.W.mg_none_of X G z_len,PySem.W.mg_none_of X G z_isinstance,PySem.W.mg_none_of X G z_all,PySem.W.mg_none_of X G z_range,PySem.W.mg_none_of X G z_sorted,PySem.W.mg_none_of X G z_repr,PySem.W.mg_none_of X G z_max,PySem.W.mg_none_of X G z_min,PySem.W.mg_none_of X G z_str,PySem.W.mg_none_of X G z_tuple,PySem.W.mg_none_of X G z_list,PySem.W.mg_none_of X G z_int,PySem.W.mg_none_of X G z_set,PySem.W.mg_none_of X G z_bool,PySem.W.mg_none_of X G z_any,⟨t_lng,PySem.W.mg_of X G z_lng⟩⟩
theorem walk {l:PySem.W.OpenLaw}{q:Program}{loose:List Str}{XP:(Str->Option Value)->Heap->Prop}{YP:World->Heap->Prop}{d:DefRec}{K:Params->PySem.W.Frag} (hn:l.most=some 63) (hdf:d.params.defaults=[])
  (hY:∀(w:World) (h:Heap),YP w h->(K w.params).In h)
  (F:∀(w:World) (mg:Str->Option Value) (fa:Addr) (h:Heap),(K w.params).In h->h.Ns mainGlobals mg->mg d.name=some (.ref fa) ->
   ∃fd:FuncData,(∀(s:Shared) (u:Value),BindsTo s fd ⟨[u],[]⟩ [("_law_script",u)])/\∀base:Heap,(K w.params).In base->base.Ns mainGlobals mg->aH l.prog w (K w.params) mg base CX0 7 fa fd ["_law_script"] (gT (K w.params))) :
  PySem.W.WalkO q loose XP YP l.row.toRowW d [] (fun f vs=>PySem.call f vs) :=
 L2.vE (n:=63) (k:=7) (x:="_law_script") (CX:=fun _=>CX0) (sp:=fun w=>gT (K w.params)) hn (by decide) hdf ⟨rfl,by decide,by decide,rfl⟩ hY F (fun _ _ a ns hl _ hS=>⟨a,ns,rfl,hS,hl,fun _=>rfl⟩) fun _ _ _ _ _ z=>z
end K16
theorem PySem.W.Fast.tw16404082258322306278 : True := trivial
theorem PySem.W.Fast.tw5049552604762983334 : True := trivial
theorem PySem.W.Fast.tw9148610782449143339 : True := trivial
theorem PySem.W.Fast.tw15897260106207865864 : True := trivial
theorem PySem.W.Fast.tw4876508855383347592 : True := trivial
theorem PySem.W.Fast.tw1698179789606363014 : True := trivial
theorem PySem.W.Fast.tw8053226870645748639 : True := trivial
theorem PySem.W.Fast.tw2769235643166888741 : True := trivial
theorem PySem.W.Fast.tw15029703400485682904 : True := trivial
theorem PySem.W.Fast.tw7616960100021140808 : True := trivial
theorem PySem.W.Fast.tw5058194606297108662 : True := trivial
theorem PySem.W.Fast.tw9403684155716353740 : True := trivial
theorem PySem.W.Fast.tw14450759594118853173 : True := trivial
theorem PySem.W.Fast.tw13259353304105408252 : True := trivial
theorem PySem.W.Fast.tw17552349723738399752 : True := trivial
theorem PySem.W.Fast.tw5047233184944300131 : True := trivial
theorem PySem.W.Fast.tw6362791779817385254 : True := trivial
theorem PySem.W.Fast.tw7171360997417966660 : True := trivial
theorem PySem.W.Fast.tw14850408524337377075 : True := trivial
theorem PySem.W.Fast.tw11592747770371100786 : True := trivial
theorem PySem.W.Fast.tw8924580238275571800 : True := trivial
theorem PySem.W.Fast.tw3191413330405598011 : True := trivial
theorem PySem.W.Fast.tw3709114302255309594 : True := trivial
theorem PySem.W.Fast.tw3716466401196186193 : True := trivial
theorem PySem.W.Fast.tw13992810676312082522 : True := trivial
theorem PySem.W.Fast.tw7197542235026651562 : True := trivial
theorem PySem.W.Fast.tw18127482778743612314 : True := trivial
theorem PySem.W.Fast.tw16689425907690136643 : True := trivial
theorem PySem.W.Fast.tw11913239378497202616 : True := trivial
theorem PySem.W.Fast.tw4499166100591404646 : True := trivial
theorem PySem.W.Fast.tw10645437043529662605 : True := trivial
theorem PySem.W.Fast.tw37076383973496909 : True := trivial
theorem PySem.W.Fast.tw7410639926283172813 : True := trivial
theorem PySem.W.Fast.tw11071804921909750439 : True := trivial
theorem PySem.W.Fast.tw17453461305025547965 : True := trivial
theorem PySem.W.Fast.tw4095360706694525902 : True := trivial
theorem PySem.W.Fast.tw2243459871517001516 : True := trivial
theorem PySem.W.Fast.tw17052115696189121949 : True := trivial
theorem PySem.W.Fast.tw1137309833601835346 : True := trivial
theorem PySem.W.Fast.tw15631636120169754919 : True := trivial
theorem PySem.W.Fast.tw6422955195828307444 : True := trivial
theorem PySem.W.Fast.tw3944293297411978345 : True := trivial
theorem PySem.W.Fast.tw16036749691095863134 : True := trivial
theorem PySem.W.Fast.tw6558298992932563910 : True := trivial
theorem PySem.W.Fast.tw8704987311957096272 : True := trivial
theorem PySem.W.Fast.tw3052066009820616422 : True := trivial
theorem PySem.W.Fast.tw6958599681362098106 : True := trivial
theorem PySem.W.Fast.tw16910293544072541605 : True := trivial
theorem PySem.W.Fast.tw7521511647976789755 : True := trivial
theorem PySem.W.Fast.tw9850306411610792237 : True := trivial
theorem PySem.W.Fast.tw9236531556437485090 : True := trivial
theorem PySem.W.Fast.tw11738087012555464582 : True := trivial
theorem PySem.W.Fast.tw1921078566713918537 : True := trivial
theorem PySem.W.Fast.tw11228300077833501662 : True := trivial
theorem PySem.W.Fast.tw13749046855527080441 : True := trivial
theorem PySem.W.Fast.tw17169349599559385703 : True := trivial
theorem PySem.W.Fast.tw15946008582901238523 : True := trivial
theorem PySem.W.Fast.tw10504604899301773994 : True := trivial
theorem PySem.W.Fast.tw15648239519767805561 : True := trivial
theorem PySem.W.Fast.tw13293902366689570240 : True := trivial
theorem PySem.W.Fast.tw10800857556476446265 : True := trivial
theorem PySem.W.Fast.tw78383567505125967 : True := trivial
theorem PySem.W.Fast.tw8321134321256652515 : True := trivial
theorem PySem.W.Fast.tw12304419814866258628 : True := trivial
theorem PySem.W.Fast.tw12790819930489662996 : True := trivial
theorem PySem.W.Fast.tw17835143405631674636 : True := trivial
theorem PySem.W.Fast.tw1201432692545962932 : True := trivial
theorem PySem.W.Fast.tw13993641784898621630 : True := trivial
theorem PySem.W.Fast.tw4106718160939245243 : True := trivial
theorem PySem.W.Fast.tw14374528024008496867 : True := trivial
theorem PySem.W.Fast.tw1187782502871701228 : True := trivial
theorem PySem.W.Fast.tw7564797898000446576 : True := trivial
theorem PySem.W.Fast.tw8382137370798099281 : True := trivial
theorem PySem.W.Fast.tw5182159613685139942 : True := trivial
theorem PySem.W.Fast.tw10139267249289788345 : True := trivial
theorem PySem.W.Fast.tw12681761154282937895 : True := trivial
theorem PySem.W.Fast.tw16613989520109540411 : True := trivial
theorem PySem.W.Fast.tw7930292945569651946 : True := trivial
theorem PySem.W.Fast.tw1662907009426066707 : True := trivial
theorem PySem.W.Fast.tw12417327062371980935 : True := trivial
theorem PySem.W.Fast.tw13958940110308769850 : True := trivial
theorem PySem.W.Fast.tw7783970996874969289 : True := trivial
theorem PySem.W.Fast.tw9136072512640854093 : True := trivial
theorem PySem.W.Fast.tw5238208206529657627 : True := trivial
theorem PySem.W.Fast.tw12386432566842095642 : True := trivial
theorem PySem.W.Fast.tw15736803866728270739 : True := trivial
theorem PySem.W.Fast.tw15119357765039674857 : True := trivial
theorem PySem.W.Fast.tw2205033676262654669 : True := trivial
theorem PySem.W.Fast.tw5110324502724527629 : True := trivial
theorem PySem.W.Fast.tw3802857383019682594 : True := trivial
theorem PySem.W.Fast.tw447856153158587301 : True := trivial
theorem PySem.W.Fast.tw13039694379341383992 : True := trivial
theorem PySem.W.Fast.tw905868381374539382 : True := trivial
theorem PySem.W.Fast.tw12657025159936406151 : True := trivial
theorem PySem.W.Fast.tw8948603943932294700 : True := trivial
theorem PySem.W.Fast.tw16209261312054726475 : True := trivial
theorem PySem.W.Fast.tw3760694590211210449 : True := trivial
theorem PySem.W.Fast.tw13231584612195330235 : True := trivial
theorem PySem.W.Fast.tw3818371265557126619 : True := trivial
theorem PySem.W.Fast.tw1171099581491242940 : True := trivial
theorem PySem.W.Fast.tw4461380203862223421 : True := trivial
theorem PySem.W.Fast.tw311377961470612758 : True := trivial
theorem PySem.W.Fast.tw11940566205495877828 : True := trivial
theorem PySem.W.Fast.tw5536376647659284563 : True := trivial
theorem PySem.W.Fast.tw15925692494757305705 : True := trivial
theorem PySem.W.Fast.tw15800691017165918162 : True := trivial
theorem PySem.W.Fast.tw7157862893119554713 : True := trivial
theorem PySem.W.Fast.tw3251463028665134370 : True := trivial
theorem PySem.W.Fast.tw13710723085038599358 : True := trivial
theorem PySem.W.Fast.tw11107647941768769091 : True := trivial
theorem PySem.W.Fast.tw2453547964662273256 : True := trivial
theorem PySem.W.Fast.tw9695713018380027169 : True := trivial
theorem PySem.W.Fast.tw10059309090036537309 : True := trivial
theorem PySem.W.Fast.tw6442354839294925634 : True := trivial
theorem PySem.W.Fast.tw10497960848256212950 : True := trivial
theorem PySem.W.Fast.tw15471145999254686480 : True := trivial
theorem PySem.W.Fast.tw16639253775976934716 : True := trivial
theorem PySem.W.Fast.tw4066380207893720684 : True := trivial
theorem PySem.W.Fast.tw201526028472237930 : True := trivial
theorem PySem.W.Fast.tw1410574717827671155 : True := trivial
theorem PySem.W.Fast.tw10977607337650446221 : True := trivial
theorem PySem.W.Fast.tw18159827461074776726 : True := trivial
theorem PySem.W.Fast.tw12583503993000089059 : True := trivial
theorem PySem.W.Fast.tw865601127456714794 : True := trivial
theorem PySem.W.Fast.tw13569983181068926084 : True := trivial
theorem PySem.W.Fast.tw5260139446034014541 : True := trivial
theorem PySem.W.Fast.tw5229612764437540481 : True := trivial
theorem PySem.W.Fast.tw63447135420661531 : True := trivial
theorem PySem.W.Fast.tw6519360416902585916 : True := trivial
theorem PySem.W.Fast.tw16000380823825003837 : True := trivial
theorem PySem.W.Fast.tw9636152127244876706 : True := trivial
theorem PySem.W.Fast.tw4229655560831790211 : True := trivial
theorem PySem.W.Fast.tw11029248658295781473 : True := trivial
theorem PySem.W.Fast.tw18206505069077089869 : True := trivial
theorem PySem.W.Fast.tw6055206119875975929 : True := trivial
theorem PySem.W.Fast.tw8795096386049726536 : True := trivial
theorem PySem.W.Fast.tw7831036594930506687 : True := trivial
theorem PySem.W.Fast.tw14989337324915418091 : True := trivial
theorem PySem.W.Fast.tw15445953680613646698 : True := trivial
theorem PySem.W.Fast.tw9545769594203652559 : True := trivial
theorem PySem.W.Fast.tw3273664550928136774 : True := trivial
theorem PySem.W.Fast.tw14702998142113559083 : True := trivial
theorem PySem.W.Fast.tw7936122535814461533 : True := trivial
theorem PySem.W.Fast.tw14301591220605165195 : True := trivial
theorem PySem.W.Fast.tw6753762727700397504 : True := trivial
theorem PySem.W.Fast.tw11101745014268859681 : True := trivial
theorem PySem.W.Fast.tw4648718099261175323 : True := trivial
theorem PySem.W.Fast.tw1834945563195658614 : True := trivial
theorem PySem.W.Fast.tw15077511075341010231 : True := trivial
theorem PySem.W.Fast.tw5302417599093804541 : True := trivial
theorem PySem.W.Fast.tw10286847784272035291 : True := trivial
theorem PySem.W.Fast.tw8744690869222191511 : True := trivial
theorem PySem.W.Fast.tw11089478155875171815 : True := trivial
theorem PySem.W.Fast.tw14951870934574629942 : True := trivial
theorem PySem.W.Fast.tw5760949187865938864 : True := trivial
theorem PySem.W.Fast.tw13276217332090915841 : True := trivial
theorem PySem.W.Fast.tw14061589811677904893 : True := trivial
theorem PySem.W.Fast.tw200364325762317864 : True := trivial
theorem PySem.W.Fast.tw15481543144763300997 : True := trivial
theorem PySem.W.Fast.tw11966522037997362610 : True := trivial
theorem PySem.W.Fast.tw8141040452325113899 : True := trivial
theorem PySem.W.Fast.tw12664024895093975780 : True := trivial
theorem PySem.W.Fast.tw7820609860175048359 : True := trivial
theorem PySem.W.Fast.tw14662208728440949317 : True := trivial
theorem PySem.W.Fast.tw16439943809734537004 : True := trivial
theorem PySem.W.Fast.tw8877197907237827259 : True := trivial
theorem PySem.W.Fast.tw13023121887535274881 : True := trivial
theorem PySem.W.Fast.tw18067115434094352040 : True := trivial
theorem PySem.W.Fast.tw8024762458419072793 : True := trivial
theorem PySem.W.Fast.tw175532736500189487 : True := trivial
theorem PySem.W.Fast.tw8444769563592725814 : True := trivial
theorem PySem.W.Fast.tw16878513247002786925 : True := trivial
theorem PySem.W.Fast.tw7729252645347083555 : True := trivial
theorem PySem.W.Fast.tw15157162922135036258 : True := trivial
theorem PySem.W.Fast.tw13506531610679456434 : True := trivial
theorem PySem.W.Fast.tw11381320295022676965 : True := trivial
theorem PySem.W.Fast.tw11203694932850857666 : True := trivial
theorem PySem.W.Fast.tw11875362859457228261 : True := trivial
theorem PySem.W.Fast.tw4147435465630615015 : True := trivial
theorem PySem.W.Fast.tw16230180644624203214 : True := trivial
theorem PySem.W.Fast.tw8950127994691295653 : True := trivial
theorem PySem.W.Fast.tw18286007144183137650 : True := trivial
theorem PySem.W.Fast.tw13870910722128633026 : True := trivial
theorem PySem.W.Fast.tw2789913100798211528 : True := trivial
theorem PySem.W.Fast.tw3395472738377381834 : True := trivial
theorem PySem.W.Fast.tw15515113354629176178 : True := trivial
theorem PySem.W.Fast.tw14558469807881770267 : True := trivial
theorem PySem.W.Fast.tw11082415663605438477 : True := trivial
theorem PySem.W.Fast.tw854585159292781899 : True := trivial
theorem PySem.W.Fast.tw4066504225683485533 : True := trivial
theorem PySem.W.Fast.tw2997363463357749977 : True := trivial
theorem PySem.W.Fast.tw9863576856824633049 : True := trivial
theorem PySem.W.Fast.tw5502613020872312430 : True := trivial
theorem PySem.W.Fast.tw1249715610737069558 : True := trivial
theorem PySem.W.Fast.tw13656597631708296947 : True := trivial
theorem PySem.W.Fast.tw4039698657142976315 : True := trivial
theorem PySem.W.Fast.tw5369208971320317129 : True := trivial
theorem PySem.W.Fast.tw6229278773824050920 : True := trivial
theorem PySem.W.Fast.tw9759678858696614659 : True := trivial
theorem PySem.W.Fast.tw17230919231393031496 : True := trivial
theorem PySem.W.Fast.tw9468066276369529622 : True := trivial
theorem PySem.W.Fast.tw1621994270212063434 : True := trivial
theorem PySem.W.Fast.tw28605280579016160 : True := trivial
theorem PySem.W.Fast.tw5334665926373029586 : True := trivial
theorem PySem.W.Fast.tw6853266498899874855 : True := trivial
open PySem PySem.W PyProof.Rows
set_option maxRecDepth 100000 in
set_option maxHeartbeats 0 in
theorem PySem.Challenge.cw_rootshares_k16_texts_refused_holds : PySem.Challenge.rw_rootshares_k16_texts_refused.Holds := by
 w_on;o_law;k_head;(case hw=>w_witness2)
 k_fill
 refine K16.walk (l:=PySem.Challenge.rw_rootshares_k16_texts_refused) rfl rfl (fun w h Y=>PySem.W.kIn_of Y) ?F
 case F =>
  intro w mg fa h KX G hmg
  have B:K16.Bl mg:=by
   refine' K16.vJ KX G ?len ?isinstance ?all ?range ?sorted ?repr ?max ?min ?str ?tuple ?list ?int ?set ?bool ?any ?lng
   (case len=>k_is)
   (case isinstance=>k_is)
   (case all=>k_is)
   (case range=>k_is)
   (case sorted=>k_is)
   (case repr=>k_is)
   (case max=>k_is)
   (case min=>k_is)
   (case str=>k_is)
   (case tuple=>k_is)
   (case list=>k_is)
   (case int=>k_is)
   (case set=>k_is)
   (case bool=>k_is)
   (case any=>k_is)
   (case lng=>k_is)
  refine' K16.vG KX G hmg B ?cRc ?eRc ?cCT ?eCT ?uCTRc ?cd1a ?cd2a ?cd3a ?cd4a ?cd5a ?cd6a ?cd7a ?cd8a ?cd9a ?cd10a ?zve ?q0 ?q1 ?q2 ?q3 ?q4 ?q5 ?q6 ?q7 ?q8 ?q9 ?q10 ?qv ?qx ?d15 ?d16 ?d17 ?d18 ?d19 ?d20 ?d22 ?d23 ?d24 ?d25 ?d27 ?d28 ?d29 ?d30 ?d31 ?d32 ?d33 ?d34 ?d35 ?d36 ?d37 ?d38 ?d39 ?d40 ?d41 ?d42 ?d43 ?d44 ?d45 ?d46
  (case cRc=>k_is)
  (case cCT=>k_is)
  (case eRc=>kernel_rfl)
  (case eCT=>kernel_rfl)
  (case uCTRc=>kernel_rfl)
  (case cd1a=>k_is)
  (case cd2a=>k_is)
  (case cd3a=>k_is)
  (case cd4a=>k_is)
  (case cd5a=>k_is)
  (case cd6a=>k_is)
  (case cd7a=>k_is)
  (case cd8a=>k_is)
  (case cd9a=>k_is)
  (case cd10a=>k_is)
  (case zve=>k_is)
  (case q0=>kernel_rfl)
  (case q1=>kernel_rfl)
  (case q2=>kernel_rfl)
  (case q3=>kernel_rfl)
  (case q4=>kernel_rfl)
  (case q5=>kernel_rfl)
  (case q6=>kernel_rfl)
  (case q7=>kernel_rfl)
  (case q8=>kernel_rfl)
  (case q9=>kernel_rfl)
  (case q10=>kernel_rfl)
  (case qv=>kernel_rfl)
  (case qx=>kernel_rfl)
  (case d15=>(refine' K16.vF ?a ?l ?c ?k;(case a=>k_is);(case l=>k_is);(case c=>k_is);(case k=>k_is)))
  (case d16=>(refine' K16.vF ?a ?l ?c ?k;(case a=>k_is);(case l=>k_is);(case c=>k_is);(case k=>k_is)))
  (case d17=>(refine' K16.vF ?a ?l ?c ?k;(case a=>k_is);(case l=>k_is);(case c=>k_is);(case k=>k_is)))
  (case d18=>(refine' K16.vF ?a ?l ?c ?k;(case a=>k_is);(case l=>k_is);(case c=>k_is);(case k=>k_is)))
  (case d19=>(refine' K16.vF ?a ?l ?c ?k;(case a=>k_is);(case l=>k_is);(case c=>k_is);(case k=>k_is)))
  (case d20=>(refine' K16.vF ?a ?l ?c ?k;(case a=>k_is);(case l=>k_is);(case c=>k_is);(case k=>k_is)))
  (case d22=>(refine' K16.vF ?a ?l ?c ?k;(case a=>k_is);(case l=>k_is);(case c=>k_is);(case k=>k_is)))
  (case d23=>(refine' K16.vF ?a ?l ?c ?k;(case a=>k_is);(case l=>k_is);(case c=>k_is);(case k=>k_is)))
  (case d24=>(refine' K16.vF ?a ?l ?c ?k;(case a=>k_is);(case l=>k_is);(case c=>k_is);(case k=>k_is)))
  (case d25=>(refine' K16.vF ?a ?l ?c ?k;(case a=>k_is);(case l=>k_is);(case c=>k_is);(case k=>k_is)))
  (case d27=>(refine' K16.vF ?a ?l ?c ?k;(case a=>k_is);(case l=>k_is);(case c=>k_is);(case k=>k_is)))
  (case d28=>(refine' K16.vF ?a ?l ?c ?k;(case a=>k_is);(case l=>k_is);(case c=>k_is);(case k=>k_is)))
  (case d29=>(refine' K16.vF ?a ?l ?c ?k;(case a=>k_is);(case l=>k_is);(case c=>k_is);(case k=>k_is)))
  (case d30=>(refine' K16.vF ?a ?l ?c ?k;(case a=>k_is);(case l=>k_is);(case c=>k_is);(case k=>k_is)))
  (case d31=>(refine' K16.vF ?a ?l ?c ?k;(case a=>k_is);(case l=>k_is);(case c=>k_is);(case k=>k_is)))
  (case d32=>(refine' K16.vF ?a ?l ?c ?k;(case a=>k_is);(case l=>k_is);(case c=>k_is);(case k=>k_is)))
  (case d33=>(refine' K16.vF ?a ?l ?c ?k;(case a=>k_is);(case l=>k_is);(case c=>k_is);(case k=>k_is)))
  (case d34=>(refine' K16.vF ?a ?l ?c ?k;(case a=>k_is);(case l=>k_is);(case c=>k_is);(case k=>k_is)))
  (case d35=>(refine' K16.vF ?a ?l ?c ?k;(case a=>k_is);(case l=>k_is);(case c=>k_is);(case k=>k_is)))
  (case d36=>(refine' K16.vF ?a ?l ?c ?k;(case a=>k_is);(case l=>k_is);(case c=>k_is);(case k=>k_is)))
  (case d37=>(refine' K16.vF ?a ?l ?c ?k;(case a=>k_is);(case l=>k_is);(case c=>k_is);(case k=>k_is)))
  (case d38=>(refine' K16.vF ?a ?l ?c ?k;(case a=>k_is);(case l=>k_is);(case c=>k_is);(case k=>k_is)))
  (case d39=>(refine' K16.vF ?a ?l ?c ?k;(case a=>k_is);(case l=>k_is);(case c=>k_is);(case k=>k_is)))
  (case d40=>(refine' K16.vF ?a ?l ?c ?k;(case a=>k_is);(case l=>k_is);(case c=>k_is);(case k=>k_is)))
  (case d41=>(refine' K16.vF ?a ?l ?c ?k;(case a=>k_is);(case l=>k_is);(case c=>k_is);(case k=>k_is)))
  (case d42=>(refine' K16.vF ?a ?l ?c ?k;(case a=>k_is);(case l=>k_is);(case c=>k_is);(case k=>k_is)))
  (case d43=>(refine' K16.vF ?a ?l ?c ?k;(case a=>k_is);(case l=>k_is);(case c=>k_is);(case k=>k_is)))
  (case d44=>(refine' K16.vF ?a ?l ?c ?k;(case a=>k_is);(case l=>k_is);(case c=>k_is);(case k=>k_is)))
  (case d45=>(refine' K16.vF ?a ?l ?c ?k;(case a=>k_is);(case l=>k_is);(case c=>k_is);(case k=>k_is)))
  (case d46=>(refine' K16.vF ?a ?l ?c ?k;(case a=>k_is);(case l=>k_is);(case c=>k_is);(case k=>k_is)))
