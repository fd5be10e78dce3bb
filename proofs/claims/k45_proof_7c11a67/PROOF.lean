import PyProof.Rows.All
import Wide.All
import OpenK.AllK
import Wide.FinOn
import Lean
import PyProof.EqAt
import PyProof.EqKinds
import PyProof.TupleCall
import KE.KSortTup
import KE.KDictSum
import KE.KDictOf
import PyProof.AttrMissHeap
import PyProof.WalksEnum
import PyProof.EnumMake
import PyProof.Draws
import PyProof.Rows.SetFrom
import KE.KTryOn
import KE.KTryDeep
import PySem.Challenge.RW_rootshares_k45_roots_refused
set_option Elab.async false
set_option linter.all false
set_option maxRecDepth 100000
namespace L2
open PySem PySem.Spec PyProof.Rows
noncomputable abbrev Key:=Sum Int Str
noncomputable def eQ:Key->Value->Bool
 | .inl k,v=>Value.isInt k v
 | .inr x,v=>Value.isStrOf x v
noncomputable def xT (w:World):Key->Int
 | .inl k=>hashInt k
 | .inr x=>hashStr w x
theorem dM:∀{k:Key}{v:Value},eQ k v=true->(∃i t,k=Sum.inl i/\v=Value.int i t)\/(∃x t,k=Sum.inr x/\v=Value.str x t)
 | .inl i,v,h=>by
  obtain⟨t,e⟩:=Value.isInt_shape (k:=i) (v:=v) h
  exact .inl ⟨i,t,rfl,e⟩
 | .inr x,v,h=>by
  obtain⟨t,e⟩:=Value.isStrOf_shape (x:=x) (v:=v) h
  exact .inr ⟨x,t,rfl,e⟩
theorem r8 (i:Int) (t:Tok):eQ (.inl i) (.int i t)=true:=by simp [eQ,Value.isInt]
theorem tE (x:Str) (t:Tok):eQ (.inr x) (.str x t)=true:=by simp [eQ,Value.isStrOf]
theorem xk (a b:Int):decide ((Sum.inl a:Key)=Sum.inl b)=(a == b):=by
 by_cases e:a=b
 ·subst e;simp
 ·have h:¬ (Sum.inl a:Key)=Sum.inl b:=fun q=>e (Sum.inl.inj q)
  rw [decide_eq_false h]
  exact (beq_eq_false_iff_ne.mpr e).symm
theorem wB (a b:Str):decide ((Sum.inr a:Key)=Sum.inr b)=decide (a=b):=by
 by_cases e:a=b
 ·subst e;simp
 ·have h:¬ (Sum.inr a:Key)=Sum.inr b:=fun q=>e (Sum.inr.inj q)
  rw [decide_eq_false h,decide_eq_false e]
theorem wF (a:Int) (b:Str):decide ((Sum.inl a:Key)=Sum.inr b)=false:=decide_eq_false (fun q=>nomatch q)
theorem wx (a:Str) (b:Int):decide ((Sum.inr a:Key)=Sum.inl b)=false:=decide_eq_false (fun q=>nomatch q)
noncomputable def cN (prog:Program) (w:World):PySem.KeyKind prog w Key where
 is:=eQ
 hash:=xT w
 inj:=fun v a b ha hb=>by
  rcases dM ha with ⟨i,t,rfl,rfl⟩ | ⟨x,t,rfl,rfl⟩
  ·rcases dM hb with ⟨j,u,rfl,e⟩ | ⟨y,u,rfl,e⟩
   ·injection e with e1 _;rw [e1]
   ·exact nomatch e
  ·rcases dM hb with ⟨j,u,rfl,e⟩ | ⟨y,u,rfl,e⟩
   ·exact nomatch e
   ·injection e with e1 _;rw [e1]
 byValue:=fun k v h=>by
  rcases dM h with ⟨i,t,rfl,rfl⟩ | ⟨x,t,rfl,rfl⟩ <;> rfl
 pyHash:=fun hv h=>by
  rcases dM hv with ⟨i,t,rfl,rfl⟩ | ⟨x,t,rfl,rfl⟩
  ·exact wpAny_pyHash_int h
  ·exact wpAny_pyHash_str h
 eqBool:=fun hu hv h=>by
  rcases dM hu with ⟨i,t,rfl,rfl⟩ | ⟨x,t,rfl,rfl⟩
  ·rcases dM hv with ⟨j,u,rfl,rfl⟩ | ⟨y,u,rfl,rfl⟩
   ·rw [xk] at h;exact wpAny_eqBool_int h
   ·rw [wF] at h;exact SeqAt.EqAt.int_str i t y u _ _ _ _ h
  ·rcases dM hv with ⟨j,u,rfl,rfl⟩ | ⟨y,u,rfl,rfl⟩
   ·rw [wx] at h;exact SeqAt.EqAt.str_int x t j u _ _ _ _ h
   ·rw [wB] at h;exact wpAny_eqBool_str h
 «strs»:=fun k x t v h=>by
  rcases dM h with ⟨i,u,rfl,e⟩ | ⟨y,u,rfl,e⟩
  ·exact nomatch e
  ·injection e with e1 _
   subst e1
   cases v <;> rfl
theorem qI (prog:Program) (w:World) (i:Int) (t:Tok):(cN prog w).is (.inl i) (.int i t)=true:=r8 i t
theorem qL (prog:Program) (w:World) (x:Str) (t:Tok):(cN prog w).is (.inr x) (.str x t)=true:=tE x t
inductive V where
 | non | bl (b:Bool) | int (i:Int) | str (x:Str) | byt (b:Array UInt8) | flt (b:UInt64) | ref (a:Addr) | ty (n:String)
 deriving DecidableEq
noncomputable def RelV:V->Value->Prop
 | .non,u=>u=Value.none
 | .bl b,u=>u=Value.bool b
 | .int i,u=>∃t,u=Value.int i t
 | .str x,u=>∃t,u=Value.str x t
 | .byt b,u=>∃t,u=Value.bytes b t
 | .flt b,u=>∃t,u=Value.float b t
 | .ref a,u=>u=Value.ref a
 | .ty n,u=>u=Value.type n
noncomputable abbrev av:List V->List Value->Prop:=Paired RelV
theorem av.length {xs:List V}{us:List Value} (r:av xs us):xs.length=us.length:=Paired.length r
theorem av.get:∀{xs:List V}{us:List Value}{i:Nat}{x:V},av xs us->xs[i]?=some x->∃u,us[i]?=some u/\RelV x u
 | _,_,_,_,.nil,e=>by simp at e
 | _,_,0,_,.cons r _,e=>by simp at e;subst e;exact⟨_,rfl,r⟩
 | _,_,i + 1,x,.cons _ t,e=>by
  obtain⟨u,h1,h2⟩:=av.get (i:=i) (x:=x) t (by simpa using e)
  exact⟨u,by simpa using h1,h2⟩
theorem av.set {x:V}{u:Value} (r:RelV x u):∀{xs:List V}{us:List Value} (i:Nat),av xs us->av (xs.set i x) (us.set i u)
 | _,_,_,.nil=>.nil
 | _,_,0,.cons _ t=>.cons r t
 | _,_,i + 1,.cons q t=>.cons q (av.set r i t)
theorem av.append:∀{xs ys:List V}{us ws:List Value},av xs us->av ys ws->av (xs++ys) (us++ws)
 | _,_,_,_,.nil,s=>s
 | _,_,_,_,.cons r t,s=>.cons r (av.append t s)
theorem av.take:∀{xs:List V}{us:List Value} (n:Nat),av xs us->av (xs.take n) (us.take n)
 | _,_,0,_=>.nil
 | _,_,_ + 1,.nil=>.nil
 | _,_,n + 1,.cons r t=>.cons r (av.take n t)
theorem av.drop:∀{xs:List V}{us:List Value} (n:Nat),av xs us->av (xs.drop n) (us.drop n)
 | _,_,0,r=>r
 | _,_,_ + 1,.nil=>.nil
 | _,_,n + 1,.cons _ t=>av.drop n t
noncomputable def dI:Option V->Option Value->Prop
 | some v,some u=>RelV v u
 | none,none=>True
 | _,_=>False
noncomputable def KV {κ:Type}:List (κ×V)->List (κ×Value)->Prop:=Paired fun (p:κ×V) (q:κ×Value)=>p.1=q.1/\RelV p.2 q.2
noncomputable def kV:Key->V
 | .inl i=>.int i
 | .inr x=>.str x
inductive HO where
  | lst (xs:List V)
  | tup (xs:List V)
  | dK (kvs:List (Key×V)) | dT (kvs:List (List Key×V))
  | set (S:Int->Bool) (n:Nat)
  | ins (C dx:Addr) (fs:List (Str×V))
  | own (x:Addr)
  | xd (fs:List (Str×V))
  | met (f x:Addr)
  | rng (lo hi:Int)
  | frz (o:Obj) (u:HO)
  | tbl (ps:Array Value)
  | ext (φ:Heap->Prop)
noncomputable abbrev Hp:=Addr->Option HO
noncomputable def upd (H:Hp) (a:Addr) (o:HO):Hp:=fun b=>if b=a then some o else H b
theorem ak {H:Hp}{a:Addr}{o:HO}:upd H a o a=some o:=by unfold upd;rw [if_pos rfl]
theorem aq {H:Hp}{a b:Addr}{o:HO} (h:b≠a):upd H a o b=H b:=by unfold upd;rw [if_neg h]
theorem j3 {H:Hp}{a b:Addr}{o u:HO} (h:H a=some o) (h':H b=some u) (d:o≠u):a≠b:=by
 intro e;subst e;rw [h] at h';exact d (Option.some.inj h')
theorem bu {H:Hp}{a b:Addr}{o:HO} (h:H a=some o) (h':H b=none):a≠b:=by
 intro e;subst e;rw [h] at h';cases h'
section
variable (P:Program) (w:World)
noncomputable def aJ (H:Hp) (h:Heap) (a:Addr):HO->Prop
 | .lst xs=>xs.length<=sizeLine/\∃(its:List Value) (n:Nat),av xs its/\h.get? a=some { cls:=.type "list",data:=.seq its.toArray n }
 | .tup xs=>xs.length<=sizeLine/\∃its:List Value,av xs its/\IsTup h a its.toArray
 | .dK kvs=>kvs.length<=sizeLine/\(a == sysModules)=false/\∃vs,KV kvs vs/\h.DictOf (cN P w) a vs
 | .dT kvs=>kvs.length<=sizeLine/\(a == sysModules)=false/\∃xs:List (List Key×Addr×Value),
   Paired (fun (p:List Key×V) (q:List Key×Addr×Value)=>p.1=q.1/\H q.2.1=some (.tup (p.1.map kV))/\RelV p.2 q.2.2) kvs xs /\
   ∃o es ep,h.get? a=some o/\o.ExactDict/\o.data=.dict es ep/\es.toList=xs.map (entryOfKey (tupleKind (cN P w)))/\(xs.map (·.1)).Nodup
 | .set S n=>h.SetOf (intKind P w) a S n
 | .ins C dx fs=>H dx=some (.own a)/\fs.length<=1000/\dx≠a/\h.get? a=some (PySem.W.instObj C dx) /\
   ∃mA,h.Ns1 dx mA/\(∀f,dI (fs.lookup f) (mA f))/\PySem.Within mA (fs.map (·.1))
 | .own _=>∃o,h.get? a=some o
 | .xd fs=>∃mA,h.Ns1 a mA/\∀f,dI (fs.lookup f) (mA f)
 | .rng lo hi=>∃t u v,h.get? a=some { cls:=.type "range",data:=.fields #[.int lo t,.int hi u,.int 1 v] }
 | .frz o u=>h.get? a=some o/\aJ H h a u
 | .tbl ps=>h.get? a=some { cls:=.none,data:=.fields ps }
 | .met f x=>h.get? a=some (PySem.W.methodObj (.ref f) (.ref x))
 | .ext φ=>φ h/\(∃o,h.get? a=some o)/\∀h1 h2:Heap,φ h1->(∀o,h1.get? a=some o->h2.get? a=some o)->φ h2
noncomputable def HOk (H:Hp) (h:Heap):Prop:=∀a o,H a=some o->aJ P w H h a o
end
section
variable {P:Program}{w:World}{H H':Hp}{h h':Heap}{a:Addr}{o:HO}
theorem aJ.lt (x:aJ P w H h a o):a < h.objs.size:=by
 cases o with
 | lst xs=>obtain⟨_,_,_,_,e⟩:=x;exact Heap.lt_size e
 | tup xs=>obtain⟨_,_,_,p⟩:=x;exact p.lt
 | dK kvs=>obtain⟨_,_,_,_,o,_,_,e,_⟩:=x;exact Heap.lt_size e
 | dT kvs=>obtain⟨_,_,_,_,o,_,_,e,_⟩:=x;exact Heap.lt_size e
 | set S n=>obtain⟨o,_,_,_,e,_⟩:=x;exact Heap.lt_size e
 | ins C dx fs=>obtain⟨_,_,_,e,_⟩:=x;exact Heap.lt_size e
 | own y=>obtain⟨_,e⟩:=x;exact Heap.lt_size e
 | xd fs=>obtain⟨_,⟨_,_,_,e,_⟩,_⟩:=x;exact Heap.lt_size e
 | rng lo hi=>obtain⟨_,_,_,e⟩:=x;exact Heap.lt_size e
 | frz ob u=>obtain⟨e,_⟩:=x;exact Heap.lt_size e
 | tbl ps=>exact Heap.lt_size (show h.get? a=some _ from x)
 | met f y=>exact Heap.lt_size (show h.get? a=some _ from x)
 | ext φ=>obtain⟨_,⟨_,e⟩,_⟩:=x;exact Heap.lt_size e
theorem Paired.mapP {α β:Type}{F G:α->β->Prop}:∀{l₁:List α}{l₂:List β},Paired F l₁ l₂->(∀a b,F a b->G a b)->Paired G l₁ l₂
 | _,_,.nil,_=>.nil
 | _,_,.cons r t,f=>.cons (f _ _ r) (Paired.mapP t f)
theorem aJ.stay (x:aJ P w H h a o) (k:∀b u,(b=a\/H b=some (.own a))->h.get? b=some u->h'.get? b=some u)
  (ho:∀b,H b=some (.own a)->H' b=some (.own a)) (ht:∀b xs,H b=some (.tup xs)->H' b=some (.tup xs)):aJ P w H' h' a o:=by
 induction o with
 | lst xs=>obtain⟨z,its,n,r,e⟩:=x;exact⟨z,its,n,r,k _ _ (.inl rfl) e⟩
 | tup xs=>obtain⟨z,its,r,ob,e,c⟩:=x;exact⟨z,its,r,ob,k _ _ (.inl rfl) e,c⟩
 | dK kvs=>obtain⟨z,y,vs,r,ob,es,ep,e,c⟩:=x;exact⟨z,y,vs,r,ob,es,ep,k _ _ (.inl rfl) e,c⟩
 | dT kvs =>
  obtain⟨z,y,xs,r,ob,es,ep,e,c⟩:=x
  exact⟨z,y,xs,Paired.mapP r fun p q z=>⟨z.1,ht _ _ z.2.1,z.2.2⟩,ob,es,ep,k _ _ (.inl rfl) e,c⟩
 | set S n=>obtain⟨ob,es,ep,t,e,c⟩:=x;exact⟨ob,es,ep,t,k _ _ (.inl rfl) e,c⟩
 | ins C dx fs =>
  obtain⟨d,z,ne,e,mA,⟨od,es,ep,e2,c⟩,r⟩:=x
  exact⟨ho _ d,z,ne,k _ _ (.inl rfl) e,mA,⟨od,es,ep,k _ _ (.inr d) e2,c⟩,r⟩
 | own y=>obtain⟨ob,e⟩:=x;exact⟨ob,k _ _ (.inl rfl) e⟩
 | xd fs=>obtain⟨mA,⟨od,es,ep,e,c⟩,r⟩:=x;exact⟨mA,⟨od,es,ep,k _ _ (.inl rfl) e,c⟩,r⟩
 | rng lo hi=>obtain⟨t,u,v,e⟩:=x;exact⟨t,u,v,k _ _ (.inl rfl) e⟩
 | frz ob u ih=>obtain⟨e,q⟩:=x;exact⟨k _ _ (.inl rfl) e,ih q⟩
 | tbl ps =>
  have e:h.get? a=some { cls:=.none,data:=.fields ps }:=x
  show h'.get? a=some { cls:=.none,data:=.fields ps }
  exact k a _ (.inl rfl) e
 | met f y =>
  have e:h.get? a=some (PySem.W.methodObj (.ref f) (.ref y)):=x
  show h'.get? a=some (PySem.W.methodObj (.ref f) (.ref y))
  exact k a _ (.inl rfl) e
 | ext φ=>obtain⟨p,⟨o,e⟩,st⟩:=x;exact⟨st _ _ p fun o q=>k _ _ (.inl rfl) q,⟨o,k _ _ (.inl rfl) e⟩,st⟩
theorem HOk.lt (x:HOk P w H h) (e:H a=some o):a < h.objs.size:=(x a o e).lt
theorem HOk.fresh (x:HOk P w H h) (e:h.objs.size<=a):H a=none:=by
 cases q:H a with
 | none=>rfl
 | some u=>exact absurd (Nat.lt_of_lt_of_le (x.lt q) e) (Nat.lt_irrefl _)
theorem HOk.kept (x:HOk P w H h) (k:∀b u,h.get? b=some u->h'.get? b=some u):HOk P w H h':=fun a o e =>
 (x a o e).stay (fun b u _ q=>k b u q) (fun _ q=>q) fun _ _ q=>q
theorem HOk.laid (x:HOk P w H h) (k:∀b u,h.get? b=some u->h'.get? b=some u) (hp:h.objs.size<=a) (new:aJ P w (upd H a o) h' a o):HOk P w (upd H a o) h':=fun b u e=>by
 have hn:=x.fresh hp
 by_cases hb:b=a
 ·subst hb;rw [ak] at e;cases e;exact new
 ·rw [aq hb] at e
  exact (x b u e).stay (fun c v _ q=>k c v q) (fun c q=>by rw [aq (bu q hn)];exact q) fun c xs q=>by rw [aq (bu q hn)];exact q
end
noncomputable def Rd (H:Hp) (a:Addr) (u:HO):Prop:=H a=some u\/∃o,H a=some (.frz o u)
theorem Rd.ok {P:Program}{w:World}{H:Hp}{h:Heap}{a:Addr}{u:HO} (r:Rd H a u) (x:HOk P w H h):aJ P w H h a u:=by
 rcases r with r | ⟨o,r⟩
 ·exact x a u r
 ·obtain⟨_,q⟩:=x a _ r
  exact q
noncomputable def Mut:Option HO->Prop
 | some (.lst _)=>True
 | some (.dK _)=>True
 | some (.dT _)=>True
 | some (.set _ _)=>True
 | some (.ins _ _ _)=>True
 | some (.ext _)=>True
 | _=>False
section
variable {P:Program}{w:World}{H:Hp}{h h':Heap}{x e:Addr}{o':HO}
theorem HOk.write (ok:HOk P w H h) (mu:Mut (H x)) (he:e=x\/H e=some (.own x)) (k:∀b u,b≠e->h.get? b=some u->h'.get? b=some u) (heo:∃u,h'.get? e=some u)
  (new:aJ P w (upd H x o') h' x o'):HOk P w (upd H x o') h':=fun b u q=>by
 have nown:∀c y,H c=some (.own y)->c≠x:=fun c y r z=>by subst z;rw [r] at mu;exact mu
 have ntup:∀c xs,H c=some (.tup xs)->c≠x:=fun c xs r z=>by subst z;rw [r] at mu;exact mu
 by_cases hb:b=x
 ·subst hb;rw [ak] at q;cases q;exact new
 ·rw [aq hb] at q
  by_cases hbe:b=e
  ·have q':H b=some (.own x):=by
    rcases he with z | z
    ·exact absurd (hbe.trans z) hb
    ·rw [hbe];exact z
   rw [q] at q';cases q'
   obtain⟨v,hv⟩:=heo
   exact⟨v,by rw [hbe];exact hv⟩
  ·refine (ok b u q).stay (fun c v hc r=>k c v ?_ r) (fun c r=>by rw [aq (nown c b r)];exact r) fun c xs r=>by rw [aq (ntup c xs r)];exact r
   rcases hc with rfl | hc
   ·exact hbe
   ·rintro rfl
    rcases he with z | z
    ·exact nown c b hc z
    ·rw [hc] at z;cases z;exact hb rfl
end
structure Un (fs ex:List Addr) (H H':Hp) (h h':Heap):Prop where
 keep:∀b o,h.get? b=some o->H b=none->b∉fs->b∉ex->h'.get? b=some o
 slot:∀b o,h.get? b=some o->H b=none->b∈fs->b∉ex->∃sl,h'.get? b=some { o with slots:=sl }
 free:∀b o,h.get? b=some o->H b=none->b∉ex->H' b=none
 there:∀b o,h.get? b=some o->b∉ex->∃o',h'.get? b=some o'
 tups:∀b xs,H b=some (.tup xs)->H' b=some (.tup xs)
 frzs:∀b o u,H b=some (.frz o u)->H' b=some (.frz o u)
 tbls:∀b ps,H b=some (.tbl ps)->∃more,H' b=some (.tbl (ps++more))
section
variable {fs fs' ex ex':List Addr}{H H1 H2:Hp}{h h1 h2 h':Heap}{a x e:Addr}{o:HO}
theorem Un.any (u:Un fs ex H H1 h h1) {b:Addr}{ob:Obj} (q:h.get? b=some ob) (n:H b=none) (hx:b∉ex):∃sl,h1.get? b=some { ob with slots:=sl }:=by
 by_cases hb:b∈fs
 ·exact u.slot b ob q n hb hx
 ·exact⟨ob.slots,u.keep b ob q n hb hx⟩
theorem Un.kept (k:∀b u,h.get? b=some u->h'.get? b=some u):Un fs ex H H h h' :=
 ⟨fun b ob q _ _ _=>k b ob q,fun b ob q _ _ _=>⟨ob.slots,k b ob q⟩,fun _ _ _ n _=>n,fun b ob q _=>⟨ob,k b ob q⟩,fun _ _ q=>q,fun _ _ _ q=>q,fun _ ps q=>⟨#[],by rw [q];simp⟩⟩
theorem Un.refl:Un fs ex H H h h:=Un.kept fun _ _ q=>q
theorem Un.laid (k:∀b u,h.get? b=some u->h'.get? b=some u) (hp:h.objs.size<=a) (hn:H a=none):Un fs ex H (upd H a o) h h' where
 keep:=fun b u q _ _ _=>k b u q
 slot:=fun b u q _ _ _=>⟨u.slots,k b u q⟩
 free:=fun b u q n _=>by rw [aq (Nat.ne_of_lt (Nat.lt_of_lt_of_le (Heap.lt_size q) hp))];exact n
 there:=fun b u q _=>⟨u,k b u q⟩
 tups:=fun b xs q=>by rw [aq (bu q hn)];exact q
 frzs:=fun b u xs q=>by rw [aq (bu q hn)];exact q
 tbls:=fun b ps q=>⟨#[],by rw [aq (bu q hn),q];simp⟩
theorem Un.write (mu:Mut (H x)) (he:e=x\/H e=some (.own x)) (k:∀b u,b≠e->h.get? b=some u->h'.get? b=some u) (heo:∃u,h'.get? e=some u):Un fs ex H (upd H x o) h h':=by
 have hx:∀b,H b=none->b≠x:=fun b n z=>by subst z;rw [n] at mu;exact mu
 have hb:∀b,H b=none->b≠e:=fun b n z=>by
  subst z
  rcases he with r | r
  ·exact hx b n r
  ·rw [n] at r;cases r
 have hm:∀b u,H b=some u->¬ Mut (some u)->b≠x:=fun b u q nm z=>by subst z;rw [q] at mu;exact nm mu
 refine⟨fun b u q n _ _=>k b u (hb b n) q,fun b u q n _ _=>⟨u.slots,k b u (hb b n) q⟩,fun b u q n _=>by rw [aq (hx b n)];exact n,fun b u q _=>?_,
  fun b xs q=>by rw [aq (hm b _ q fun z=>z)];exact q,fun b u xs q=>by rw [aq (hm b _ q fun z=>z)];exact q,fun b ps q=>⟨#[],by rw [aq (hm b _ q fun z=>z),q];simp⟩⟩
 by_cases hbe:b=e
 ·subst hbe;exact heo
 ·exact⟨u,k b u hbe q⟩
end
noncomputable def trk (h:Heap) (H:Hp):List Addr:=(List.range h.objs.size).filter fun a=>(H a).isSome
noncomputable def eC (h:Heap) (H:Hp):Heap:=PySem.W.hideAll h (trk h H)
theorem ua (h:Heap) (H:Hp):(eC h H).objs.size=h.objs.size:=PySem.W.hideAll_size _ _
theorem uS {h:Heap}{H:Hp}{b:Addr}{o:Obj} (e:h.get? b=some o) (n:H b=none):(eC h H).get? b=some o :=
 PySem.W.hideAll_get _ e fun hm=>by
  have q:(H b).isSome=true:=(List.mem_filter.mp hm).2
  rw [n] at q;simp at q
theorem vL {h:Heap}{H:Hp}{b:Addr}{o:Obj} (e:(eC h H).get? b=some o):h.get? b=some o/\H b=none:=by
 have e':h.get? b=some o:=PySem.W.of_hideAll (trk h H) e
 refine⟨e',?_⟩
 cases q:H b with
 | none=>rfl
 | some x =>
  have hm:b∈trk h H:=List.mem_filter.mpr ⟨List.mem_range.mpr (Heap.lt_size e'),by simp [q]⟩
  have z:(eC h H).get? b=none:=PySem.W.hideAll_none (trk h H) hm
  rw [z] at e;cases e
noncomputable def vt (g h:Heap) (L:Addr):List (Addr×Obj):=(List.range h.objs.size).filterMap fun a=>if a=L\/(g.get? a).isSome=true then none else (h.get? a).map fun o=>(a,o)
noncomputable def rest (g h:Heap) (L d:Addr):List (Addr×Obj):=(vt g h L).filter fun p=>decide (p.1≠d)
structure Mod (K:PySem.W.Frag) (mg:Str->Option Value) (base:Heap):Prop where
 kin:K.In base
 glob:base.Ns mainGlobals mg
 blt:∃mb,base.Ns builtinsNs mb/\∀x:Str,x≠"__name__"->mb x=bootBuiltins x
 nolimit:base.NoLimit
structure Cx where
 prog:Program
 w:World
 K:PySem.W.Frag
 mg:Str->Option Value
 base:Heap
 A:Around
 N:List Str
 s₀:Shared
 H₀:Hp
 env:Env
 outer:List Env
 stack:List Env
 ex:List Addr
 fn:Str->Bool
 calm:Bool
 pn:List (Addr×Obj)
 xe:Value->Shared->Prop
noncomputable def frs (l:List Env):List Addr:=l.filterMap (·.frame)
noncomputable abbrev Cx.fs (X:Cx):List Addr:=frs X.outer
noncomputable def Vis (sc:Scope) (x:Str):Prop:=sc.names.lookup x=some .local\/sc.names.lookup x=some .cell\/sc.names.lookup x=some .free
noncomputable def Loc (sc:Scope) (x:Str):Prop:=sc.names.lookup x=some .local\/sc.names.lookup x=some .cell
noncomputable def Look (env:Env) (h:Heap) (m:Str->Option Value) (x:Str) (u:Value):Prop :=
 (env.kindOf x=some .local/\m x=some u)\/((env.kindOf x=some .cell\/env.kindOf x=some .free)/\∃c,env.cells.lookup x=some c/\h.IsCell c (some u))
structure Cx.Ok (X:Cx):Prop where
 mod:Mod X.K X.mg X.base
 kind:X.env.scope.kind=.function
 glob:X.env.globals=mainGlobals
 blt:X.env.builtins=builtinsNs
 above:X.s₀.heap.objs.size<=X.env.locals
 inj:∀x y c,X.env.cells.lookup x=some c->X.env.cells.lookup y=some c->x=y
 has:∀x,(X.env.kindOf x=some .cell\/X.env.kindOf x=some .free)->∃c,X.env.cells.lookup x=some c
 cab:∀x c,X.fn x=true->X.env.cells.lookup x=some c->X.s₀.heap.objs.size<=c
 hd:X.calm=true->X.A.handled=none
 frames:X.A.frames=some X.stack
 stk:X.stack=X.outer\/(X.stack=X.env::X.outer/\X.env.frame=some X.env.locals)
 exf:∀b∈X.ex,b≠X.env.locals/\∀x c,X.env.cells.lookup x=some c->c≠b
 bs:∀b o,X.base.get? b=some o->X.s₀.heap.get? b=some o/\X.H₀ b=none
 bsz:X.base.objs.size<=X.s₀.heap.objs.size
 noex:∀b o,X.base.get? b=some o->b∉X.ex
 exfs:∀b∈X.ex,b∉X.fs
 funs:X.s₀.heap.FunFrames X.base X.outer
 frf:∀b∈X.fs,X.H₀ b=none
structure Inv (X:Cx) (pins:List (Addr×Obj)) (σ:List (Option V)) (H:Hp) (s:Shared):Prop where
 ok:X.Ok
 os:s.os=X.s₀.os
 bare:AllBare s.gens
 base:Un X.fs X.ex X.H₀ H X.s₀.heap s.heap
 loc:∃m,s.heap.Ns X.env.locals m/\∀(i:Nat) (x:Str) (v:V),X.N[i]?=some x->σ[i]?=some (some v)->Vis X.env.scope x->∃u,RelV v u/\Look X.env s.heap m x u
 cell:∀x c,X.env.cells.lookup x=some c->∃v,s.heap.IsCell c v
 free:H X.env.locals=none
 freeC:∀x c,X.env.cells.lookup x=some c->H c=none
 pin:∀p∈X.pn++pins,s.heap.get? p.1=some p.2/\H p.1=none/\p.1≠X.env.locals/\p.1∉X.fs/\∀v,p.2.data≠.cell v
 hok:HOk X.prog X.w H s.heap
 len:σ.length=X.N.length
section
variable {X:Cx}{pins:List (Addr×Obj)}{σ:List (Option V)}{H H':Hp}{s:Shared}{h':Heap}
theorem Cx.Ok.nofr (ok:X.Ok) {b:Addr}{o:Obj} (e:X.base.get? b=some o):b∉X.fs:=fun hb=>by
 have:=(ok.funs.mem hb).1
 rw [e] at this;cases this
theorem Inv.bs (I:Inv X pins σ H s):∀b o,X.base.get? b=some o->s.heap.get? b=some o/\H b=none:=fun b o e =>
 ⟨I.base.keep b o (I.ok.bs b o e).1 (I.ok.bs b o e).2 (I.ok.nofr e) (I.ok.noex b o e),I.base.free b o (I.ok.bs b o e).1 (I.ok.bs b o e).2 (I.ok.noex b o e)⟩
theorem Inv.bk (I:Inv X pins σ H s):∀b o,X.base.get? b=some o->s.heap.get? b=some o:=fun b o e=>(I.bs b o e).1
theorem Inv.mod (I:Inv X pins σ H s):Mod X.K X.mg X.base:=I.ok.mod
theorem Inv.kIn (I:Inv X pins σ H s):X.K.In s.heap:=I.ok.mod.kin.keeps I.bk
theorem Inv.lt (I:Inv X pins σ H s):X.env.locals < s.heap.objs.size:=let ⟨_,hn,_⟩:=I.loc;hn.lt
theorem Inv.sz (I:Inv X pins σ H s):X.s₀.heap.objs.size<=s.heap.objs.size:=Nat.le_trans I.ok.above (Nat.le_of_lt I.lt)
theorem Inv.nofs (I:Inv X pins σ H s) {a:Addr} (h:s.heap.objs.size<=a):a∉X.fs:=fun hb=>by
 obtain⟨_,o,ho,_⟩:=I.ok.funs.mem hb
 exact absurd (Nat.lt_of_lt_of_le (Heap.lt_size ho) (Nat.le_trans I.sz h)) (Nat.lt_irrefl _)
theorem Inv.cne (I:Inv X pins σ H s):∀x c,X.env.cells.lookup x=some c->c≠X.env.locals:=fun x c e z=>by
 obtain⟨v,o,ho,hd⟩:=I.cell x c e
 obtain⟨m,⟨o',es,ep,ho',hd',_⟩,_⟩:=I.loc
 rw [z,ho'] at ho;cases ho;rw [hd'] at hd;cases hd
theorem Inv.funs (I:Inv X pins σ H s):s.heap.FunFrames X.base X.outer:=by
 have all:∀(l:List Env),(∀b∈frs l,b∈X.fs)->X.s₀.heap.FunFrames X.base l->s.heap.FunFrames X.base l:=by
  intro l
  induction l with
  | nil=>intro _ _;trivial
  | cons env r ih =>
   intro hs hl
   obtain⟨hk,⟨L,o,hf,hn,ho,hd⟩,hr⟩:=hl
   have hL:L∈X.fs:=hs L (by unfold frs;rw [List.filterMap_cons,hf];exact List.mem_cons_self)
   obtain⟨sl,e⟩:=I.base.slot L o ho (I.ok.frf L hL) hL fun z=>I.ok.exfs L z hL
   exact⟨hk,⟨L,_,hf,hn,e,hd⟩,ih (fun b hb=>hs b (by unfold frs;rw [List.filterMap_cons,hf];exact List.mem_cons_of_mem _ hb)) hr⟩
 exact all X.outer (fun _ hb=>hb) I.ok.funs
theorem Inv.stack (I:Inv X pins σ H s):s.heap.FunFrames X.base X.stack:=by
 rcases I.ok.stk with e | ⟨e,hf⟩
 ·rw [e];exact I.funs
 ·rw [e]
  obtain⟨m,hn,_⟩:=I.loc
  refine .cons (by rw [I.ok.kind];decide) hf hn ?_ I.funs
  exact Heap.get?_none_of_le (Nat.le_trans I.ok.bsz I.ok.above)
theorem Inv.stkSub (I:Inv X pins σ H s):∀b∈frs X.stack,b∈X.env.locals::X.fs:=fun b hb=>by
 rcases I.ok.stk with e | ⟨e,hf⟩
 ·rw [e] at hb;exact List.mem_cons_of_mem _ hb
 ·rw [e] at hb
  unfold frs at hb
  rw [List.filterMap_cons,hf] at hb
  exact hb
theorem Inv.stkFree (I:Inv X pins σ H s):∀b∈frs X.stack,H b=none:=fun b hb=>by
 rcases List.mem_cons.mp (I.stkSub b hb) with e | hb
 ·rw [e];exact I.free
 ·obtain⟨_,o,ho,_⟩:=I.ok.funs.mem hb
  exact I.base.free b o ho (I.ok.frf b hb) fun z=>I.ok.exfs b z hb
theorem Inv.step {g':Array GenState}{t':Nat}{d':Drawn}{ch:List Addr} (I:Inv X pins σ H s)
  (hch:∀b∈ch,(b∈X.ex\/X.s₀.heap.objs.size<=b)/\b≠X.env.locals/\(∀x c,X.env.cells.lookup x=some c->c≠b)/\∀p∈X.pn++pins,p.1≠b)
  (keep:∀b o,b≠X.env.locals->b∉X.fs->b∉ch->s.heap.get? b=some o->H b=none->h'.get? b=some o)
  (slot:∀b o,b≠X.env.locals->b∈X.fs->b∉ch->s.heap.get? b=some o->H b=none->∃sl,h'.get? b=some { o with slots:=sl }) (free:∀b o,b∉ch->s.heap.get? b=some o->H b=none->H' b=none)
  (there:∀b o,b∉ch->s.heap.get? b=some o->∃o',h'.get? b=some o')
  (tups:∀b xs,H b=some (.tup xs)->H' b=some (.tup xs)) (frzs:∀b o u,H b=some (.frz o u)->H' b=some (.frz o u)) (tbls:∀b ps,H b=some (.tbl ps)->∃more,H' b=some (.tbl (ps++more)))
  (ns:∀m,s.heap.Ns X.env.locals m->h'.Ns X.env.locals m) (hok:HOk X.prog X.w H' h') (hg:AllBare g') :
  Inv X pins σ H' { s with heap:=h',gens:=g',drawn:=d',toks:=t' }:=by
 have neL:∀b o,X.s₀.heap.get? b=some o->b≠X.env.locals:=fun b o e=>Nat.ne_of_lt (Nat.lt_of_lt_of_le (Heap.lt_size e) I.ok.above)
 have neC:∀b o,X.s₀.heap.get? b=some o->b∉X.ex->b∉ch:=fun b o e hx hb=>by
  rcases (hch b hb).1 with z | z
  ·exact hx z
  ·exact absurd (Nat.lt_of_lt_of_le (Heap.lt_size e) z) (Nat.lt_irrefl _)
 have cellK:∀x c,X.env.cells.lookup x=some c->∀v,s.heap.IsCell c v->h'.IsCell c v:=fun x c e v ⟨o,ho,hd⟩=>by
  have nch:c∉ch:=fun z=>(hch c z).2.2.1 x c e rfl
  by_cases hc:c∈X.fs
  ·obtain⟨sl,q⟩:=slot c o (I.cne x c e) hc nch ho (I.freeC x c e)
   exact⟨_,q,hd⟩
  ·exact⟨o,keep c o (I.cne x c e) hc nch ho (I.freeC x c e),hd⟩
 refine⟨I.ok,I.os,hg,⟨fun b o e n hb hx=>?_,fun b o e n hb hx=>?_,fun b o e n hx=>?_,fun b o e hx=>?_,fun b xs e=>tups b xs (I.base.tups b xs e),fun b o xs e=>frzs b o xs (I.base.frzs b o xs e),fun b ps e=>?_⟩,?_,fun x c e=>?_,?_,fun x c e=>?_,fun p hp=>?_,hok,I.len⟩
 ·exact keep b o (neL b o e) hb (neC b o e hx) (I.base.keep b o e n hb hx) (I.base.free b o e n hx)
 ·obtain⟨sl,e1⟩:=I.base.slot b o e n hb hx
  obtain⟨sl',e2⟩:=slot b _ (neL b o e) hb (neC b o e hx) e1 (I.base.free b o e n hx)
  exact⟨sl',e2⟩
 ·obtain⟨o',e1⟩:=I.base.there b o e hx
  exact free b o' (neC b o e hx) e1 (I.base.free b o e n hx)
 ·obtain⟨o',e1⟩:=I.base.there b o e hx
  exact there b o' (neC b o e hx) e1
 ·obtain⟨m1,e1⟩:=I.base.tbls b ps e
  obtain⟨m2,e2⟩:=tbls b _ e1
  exact⟨m1++m2,by rw [e2,Array.append_assoc]⟩
 ·obtain⟨m,hn,hl⟩:=I.loc
  refine⟨m,ns m hn,fun i x v e1 e2 e3=>?_⟩
  obtain⟨u,r,l⟩:=hl i x v e1 e2 e3
  refine⟨u,r,?_⟩
  rcases l with l | ⟨k,c,e,z⟩
  ·exact .inl l
  ·exact .inr ⟨k,c,e,cellK x c e _ z⟩
 ·obtain⟨v,z⟩:=I.cell x c e
  exact⟨v,cellK x c e v z⟩
 ·obtain⟨m,⟨o,_,_,ho,_⟩,_⟩:=I.loc
  exact free _ o (fun z=>(hch _ z).2.1 rfl) ho I.free
 ·obtain⟨v,o,ho,hd⟩:=I.cell x c e
  exact free c o (fun z=>(hch c z).2.2.1 x c e rfl) ho (I.freeC x c e)
 ·obtain⟨e,n,ne,nf,d⟩:=I.pin p hp
  have nch:p.1∉ch:=fun z=>(hch p.1 z).2.2.2 p hp rfl
  exact⟨keep p.1 p.2 ne nf nch e n,free p.1 p.2 nch e n,ne,nf,d⟩
theorem Inv.un {t':Nat} (I:Inv X pins σ H s) (u:Un X.fs [] H H' s.heap h') (hok:HOk X.prog X.w H' h'):Inv X pins σ H' { s with heap:=h',toks:=t' }:=by
 obtain⟨m,⟨o,es,ep,ho,r⟩,_⟩:=id I.loc
 obtain⟨sl,hL⟩:=u.any ho I.free (by simp)
 exact I.step (g':=s.gens) (d':=s.drawn) (ch:=[]) (fun _ z=>nomatch z) (fun b o _ hb _ e n=>u.keep b o e n hb (by simp)) (fun b o _ hb _ e n=>u.slot b o e n hb (by simp)) (fun b o _ e n=>u.free b o e n (by simp)) (fun b o _ e=>u.there b o e (by simp)) u.tups u.frzs u.tbls (fun m' hm=>by
  obtain⟨o',es',ep',ho',r'⟩:=hm
  rw [ho] at ho';cases ho'
  exact⟨_,es',ep',hL,r'⟩) hok I.bare
theorem Inv.call {g':Array GenState}{t':Nat}{d':Drawn}{ch:List Addr} (I:Inv X pins σ H s) (u:Un (frs X.stack) ch H H' s.heap h') (hok:HOk X.prog X.w H' h') (hg:AllBare g')
  (hch:∀b∈ch,(b∈X.ex\/X.s₀.heap.objs.size<=b)/\b≠X.env.locals/\(∀x c,X.env.cells.lookup x=some c->c≠b)/\∀p∈X.pn++pins,p.1≠b) :
  Inv X pins σ H' { s with heap:=h',gens:=g',drawn:=d',toks:=t' }:=by
 obtain⟨m,⟨o,es,ep,ho,r⟩,_⟩:=id I.loc
 obtain⟨sl,hL⟩:=u.any ho I.free fun z=>(hch _ z).2.1 rfl
 exact I.step (ch:=ch) hch (fun b o hL hb hc e n=>u.keep b o e n (fun z=>(List.mem_cons.mp (I.stkSub b z)).elim hL hb) hc) (fun b o _ _ hc e n=>u.any e n hc) (fun b o hc e n=>u.free b o e n hc) (fun b o hc e=>u.there b o e hc) u.tups u.frzs u.tbls (fun m' hm=>by
  obtain⟨o',es',ep',ho',r'⟩:=hm
  rw [ho] at ho';cases ho'
  exact⟨_,es',ep',hL,r'⟩) hok hg
theorem Inv.turned {t':Nat}{it:Addr} (I:Inv X pins σ H s) (k:∀b o,b≠it->s.heap.get? b=some o->h'.get? b=some o) (hn:H it=none) (hL:it≠X.env.locals)
  (h1:it∈X.ex\/X.s₀.heap.objs.size<=it) (h2:∀x c,X.env.cells.lookup x=some c->c≠it) (h3:∀p∈X.pn++pins,p.1≠it):Inv X pins σ H { s with heap:=h',toks:=t' }:=by
 have nit:∀b u,H b=some u->b≠it:=fun b u e z=>by rw [z,hn] at e;cases e
 refine I.step (g':=s.gens) (d':=s.drawn) (ch:=[it]) (fun b hb=>?_) (fun b o _ _ hc e _=>k b o (fun z=>hc (by simp [z])) e) (fun b o _ _ hc e _=>⟨o.slots,k b o (fun z=>hc (by simp [z])) e⟩) (fun _ _ _ _ n=>n)
  (fun b o hc e=>⟨o,k b o (fun z=>hc (by simp [z])) e⟩) (fun _ _ e=>e) (fun _ _ _ e=>e) (fun b ps e=>⟨#[],by rw [e];simp⟩) (fun m hm=>?_) (fun b u e=>?_) I.bare
 ·have e:b=it:=by simpa using hb
  subst e
  exact⟨h1,hL,h2,h3⟩
 ·obtain⟨o,es,ep,ho,r⟩:=hm
  exact⟨o,es,ep,k _ o (Ne.symm hL) ho,r⟩
 ·refine (I.hok b u e).stay (fun c v hc q=>k c v ?_ q) (fun _ q=>q) fun _ _ q=>q
  rcases hc with z | z
  ·rw [z];exact nit b u e
  ·exact nit c _ z
theorem Inv.tok (I:Inv X pins σ H s) (t:Nat):Inv X pins σ H { s with toks:=t }:=I.un (h':=s.heap) (t':=t) Un.refl I.hok
theorem Inv.kept {t':Nat} (I:Inv X pins σ H s) (k:∀b u,s.heap.get? b=some u->h'.get? b=some u):Inv X pins σ H { s with heap:=h',toks:=t' }:=I.un (Un.kept k) (I.hok.kept k)
theorem Inv.laid {a:Addr}{o:HO}{t':Nat} (I:Inv X pins σ H s) (k:∀b u,s.heap.get? b=some u->h'.get? b=some u) (hp:s.heap.objs.size<=a) (new:aJ X.prog X.w (upd H a o) h' a o) :
  Inv X pins σ (upd H a o) { s with heap:=h',toks:=t' }:=I.un (Un.laid k hp (I.hok.fresh hp)) (I.hok.laid k hp new)
theorem Inv.write {x e:Addr}{o:HO}{t':Nat} (I:Inv X pins σ H s) (mu:Mut (H x)) (he:e=x\/H e=some (.own x)) (k:∀b u,b≠e->s.heap.get? b=some u->h'.get? b=some u) (heo:∃u,h'.get? e=some u)
  (new:aJ X.prog X.w (upd H x o) h' x o):Inv X pins σ (upd H x o) { s with heap:=h',toks:=t' }:=I.un (Un.write mu he k heo) (I.hok.write mu he k heo new)
theorem Inv.pins_of {pins':List (Addr×Obj)} (I:Inv X pins σ H s) (h:∀p∈pins',s.heap.get? p.1=some p.2/\H p.1=none/\p.1≠X.env.locals/\p.1∉X.fs/\∀v,p.2.data≠.cell v):Inv X pins' σ H s :=
 ⟨I.ok,I.os,I.bare,I.base,I.loc,I.cell,I.free,I.freeC,fun p hp=>(List.mem_append.mp hp).elim (fun z=>I.pin p (List.mem_append_left _ z)) (h p),I.hok,I.len⟩
theorem jr {N:List Str} (hN:N.Nodup) {i j:Nat}{x:Str} (a:N[i]?=some x) (b:N[j]?=some x):i=j:=by
 obtain⟨h1,e1⟩:=List.getElem?_eq_some_iff.mp a
 obtain⟨h2,e2⟩:=List.getElem?_eq_some_iff.mp b
 exact (List.getElem_inj hN).mp (e1.trans e2.symm)
theorem jc {M:Model}{A:Around}{E:Value->Shared->Prop}{i:Nat}{x:Str}{v:V}{u:Value}{Q:Unit->Shared->Prop} (I:Inv X pins σ H s) (hN:X.N.Nodup) (hi:X.N[i]?=some x) (hx:Loc X.env.scope x) (r:RelV v u)
  (h:∀s',Inv X pins (σ.set i (some v)) H s'->(∃a,Heap.SameBut a s.heap s'.heap/\(a=X.env.locals\/X.env.cells.lookup x=some a))->Q () s') (hf:X.fn x=true\/X.env.scope.names.lookup x=some .local:=by first | exact .inl rfl | exact .inr rfl | assumption):wpAny M A (storeName X.env x u) Q E s:=by
 obtain⟨m,hn,hl⟩:=id I.loc
 have hcls:(X.env.scope.kind == .class || (X.env.scope.kind == .module && X.env.locals != X.env.globals))=false:=by rw [I.ok.kind];rfl
 have hiσ:i < σ.length:=by rw [I.len];exact (List.getElem?_eq_some_iff.mp hi).1
 have cne:=I.cne
 have tracked:∀{a:Addr}{h':Heap},(∃o,s.heap.get? a=some o/\H a=none)->Heap.SameBut a s.heap h'->HOk X.prog X.w H h':=fun {a h'} ha hs b ob e=>by
  obtain⟨_,_,hfree⟩:=ha
  refine (I.hok b ob e).stay (fun c w' hc q=>(hs.2 c ?_).trans q) (fun _ q=>q) fun _ _ q=>q
  rintro rfl
  rcases hc with rfl | hc
  ·rw [hfree] at e;cases e
  ·rw [hfree] at hc;cases hc
 rcases hx with hk | hk
 ·refine wpAny_storeName_local hk hn (fun h' hn' hs=>?_) hcls
  obtain⟨oL,_,_,hoL,_⟩:=id hn
  refine h _ ⟨I.ok,I.os,I.bare,⟨fun b o e n hb hx=>?_,fun b o e n hb hx=>?_,I.base.free,fun b o e hx=>?_,I.base.tups,I.base.frzs,I.base.tbls⟩,⟨_,hn',fun j y v' e1 e2 e3=>?_⟩,fun y c e=>?_,I.free,I.freeC,fun p hp=>?_,tracked ⟨oL,hoL,I.free⟩ hs,by simpa using I.len⟩ ⟨_,hs,.inl rfl⟩
  ·exact (hs.2 b (Nat.ne_of_lt (Nat.lt_of_lt_of_le (Heap.lt_size e) I.ok.above))).trans (I.base.keep b o e n hb hx)
  ·obtain⟨sl,e1⟩:=I.base.slot b o e n hb hx
   exact⟨sl,(hs.2 b (Nat.ne_of_lt (Nat.lt_of_lt_of_le (Heap.lt_size e) I.ok.above))).trans e1⟩
  ·obtain⟨o',e1⟩:=I.base.there b o e hx
   exact⟨o',(hs.2 b (Nat.ne_of_lt (Nat.lt_of_lt_of_le (Heap.lt_size e) I.ok.above))).trans e1⟩
  ·by_cases hj:j=i
   ·subst hj
    rw [hi] at e1;cases e1
    rw [List.getElem?_set_self hiσ] at e2
    cases e2
    exact⟨u,r,.inl ⟨hk,by simp⟩⟩
   ·rw [List.getElem?_set_ne (Ne.symm hj)] at e2
    obtain⟨u',r',q⟩:=hl j y v' e1 e2 e3
    refine⟨u',r',?_⟩
    rcases q with ⟨k,e⟩ | ⟨k,c,e,z⟩
    ·refine .inl ⟨k,?_⟩
     have:y≠x:=fun e=>hj (jr hN e1 (e ▸ hi))
     simp [this,e]
    ·exact .inr ⟨k,c,e,z.sameBut hs (cne y c e)⟩
  ·obtain⟨w',z⟩:=I.cell y c e
   exact⟨w',z.sameBut hs (cne y c e)⟩
  ·obtain⟨e,n,ne,nf,d⟩:=I.pin p hp
   exact⟨(hs.2 p.1 ne).trans e,n,ne,nf,d⟩
 ·have hfn:X.fn x=true:=by
   rcases hf with z | z
   ·exact z
   ·rw [z] at hk;cases hk
  obtain⟨c,hc⟩:=I.ok.has x (.inl hk)
  obtain⟨w',z⟩:=I.cell x c hc
  refine wpAny_storeName_cell I.ok.kind hk hc z (fun h' hc' hs=>?_)
  obtain⟨oc,hoc,hocd⟩:=id z
  refine h { s with heap:=h' } ⟨I.ok,I.os,I.bare,⟨fun b o e n hb hx=>?_,fun b o e n hb hx=>?_,I.base.free,fun b o e hx=>?_,I.base.tups,I.base.frzs,I.base.tbls⟩,⟨m,hn.sameBut hs (Ne.symm (cne x c hc)),fun j y v' e1 e2 e3=>?_⟩,fun y c' e=>?_,I.free,I.freeC,fun p hp=>?_,tracked ⟨oc,hoc,I.freeC x c hc⟩ hs,by simpa using I.len⟩ ⟨c,hs,.inr hc⟩
  ·exact (hs.2 b (Nat.ne_of_lt (Nat.lt_of_lt_of_le (Heap.lt_size e) (I.ok.cab x c hfn hc)))).trans (I.base.keep b o e n hb hx)
  ·obtain⟨sl,e1⟩:=I.base.slot b o e n hb hx
   exact⟨sl,(hs.2 b (Nat.ne_of_lt (Nat.lt_of_lt_of_le (Heap.lt_size e) (I.ok.cab x c hfn hc)))).trans e1⟩
  ·obtain⟨o',e1⟩:=I.base.there b o e hx
   exact⟨o',(hs.2 b (Nat.ne_of_lt (Nat.lt_of_lt_of_le (Heap.lt_size e) (I.ok.cab x c hfn hc)))).trans e1⟩
  ·by_cases hj:j=i
   ·subst hj
    rw [hi] at e1;cases e1
    rw [List.getElem?_set_self hiσ] at e2
    cases e2
    exact⟨u,r,.inr ⟨.inl hk,c,hc,hc'⟩⟩
   ·rw [List.getElem?_set_ne (Ne.symm hj)] at e2
    obtain⟨u',r',q⟩:=hl j y v' e1 e2 e3
    refine⟨u',r',?_⟩
    rcases q with q | ⟨k,c',e,z'⟩
    ·exact .inl q
    ·refine .inr ⟨k,c',e,z'.sameBut hs ?_⟩
     rintro rfl
     exact hj (jr hN e1 (I.ok.inj _ _ _ e hc ▸ hi))
  ·by_cases hcc:c'=c
   ·subst hcc;exact⟨_,hc'⟩
   ·obtain⟨w2,z2⟩:=I.cell y c' e
    exact⟨w2,z2.sameBut hs hcc⟩
  ·obtain⟨e,n,ne,nf,d⟩:=I.pin p hp
   refine⟨(hs.2 p.1 ?_).trans e,n,ne,nf,d⟩
   intro q
   rw [q,hoc] at e
   have q':oc=p.2:=Option.some.inj e
   exact d w' (by rw [<- q'];exact hocd)
theorem eg {M:Model}{A:Around}{E:Value->Shared->Prop}{i:Nat}{x:Str}{v:V}{u:Value}{Q:Unit->Shared->Prop} (I:Inv X pins σ H s) (hN:X.N.Nodup) (hi:X.N[i]?=some x) (hx:Loc X.env.scope x) (r:RelV v u)
  (h:∀s',Inv X pins (σ.set i (some v)) H s'->Q () s') (hf:X.fn x=true\/X.env.scope.names.lookup x=some .local:=by first | exact .inl rfl | exact .inr rfl | assumption):wpAny M A (storeName X.env x u) Q E s :=
 jc I hN hi hx r (fun s' I' _=>h s' I') hf
theorem Inv.call' {s':Shared}{ch:List Addr} (I:Inv X pins σ H s) (ho:s'.os=s.os) (u:Un (frs X.stack) ch H H' s.heap s'.heap) (hok:HOk X.prog X.w H' s'.heap) (hg:AllBare s'.gens)
  (hch:∀b∈ch,(b∈X.ex\/X.s₀.heap.objs.size<=b)/\b≠X.env.locals/\(∀x c,X.env.cells.lookup x=some c->c≠b)/\∀p∈X.pn++pins,p.1≠b):Inv X pins σ H' s':=by
 obtain⟨h',g',d',t',o'⟩:=s'
 have e:o'=s.os:=ho
 subst e
 exact I.call (g':=g') (t':=t') (d':=d') u hok hg hch
end
noncomputable abbrev XK:=Value->Option Addr->Hp->Prop
noncomputable abbrev St:=List (Option V)
noncomputable abbrev VK:=V->Hp->Prop
noncomputable abbrev TE:=St->Hp->VK->Prop
noncomputable abbrev TT:=St->Hp->(Bool->Hp->Prop)->Prop
noncomputable abbrev TA:=St->Hp->(List V->Hp->Prop)->Prop
structure Ends where
 nx:St->Hp->Prop
 rt:VK
 bk:St->Hp->Prop:=fun _ _=>False
 ct:St->Hp->Prop:=fun _ _=>False
noncomputable abbrev TS:=Ends->St->Hp->Prop
noncomputable def EP (X:Cx) (pins:List (Addr×Obj)) (σ:St) (Q:VK) (u:Value) (s':Shared):Prop:=∃v H',Inv X pins σ H' s'/\RelV v u/\Q v H'
noncomputable def TP (X:Cx) (pins:List (Addr×Obj)) (σ:St) (Q:Bool->Hp->Prop) (b:Bool) (s':Shared):Prop:=∃H',Inv X pins σ H' s'/\Q b H'
noncomputable def AP (X:Cx) (pins:List (Addr×Obj)) (σ:St) (Q:List V->Hp->Prop) (us:List Value) (s':Shared):Prop:=∃vs H',Inv X pins σ H' s'/\av vs us/\Q vs H'
noncomputable def SP (X:Cx) (pins:List (Addr×Obj)) (D:Ends) (f:Flow) (s':Shared):Prop :=
 match f with
 | .next=>∃σ' H',Inv X pins σ' H' s'/\D.nx σ' H'
 | .brk=>∃σ' H',Inv X pins σ' H' s'/\D.bk σ' H'
 | .cont=>∃σ' H',Inv X pins σ' H' s'/\D.ct σ' H'
 | .ret u=>∃v σ' H',Inv X pins σ' H' s'/\RelV v u/\D.rt v H'
noncomputable def PE (X:Cx) (e:Expr) (t:TE):Prop :=
 ∀(pins:List (Addr×Obj)) (s:Shared) (σ:St) (H:Hp) (Q:VK),Inv X pins σ H s->t σ H Q->wpAny (model X.prog X.w) X.A (eval e X.env) (EP X pins σ Q) X.xe s
noncomputable def PT (X:Cx) (e:Expr) (t:TT):Prop :=
 ∀(pins:List (Addr×Obj)) (s:Shared) (σ:St) (H:Hp) (Q:Bool->Hp->Prop),Inv X pins σ H s->t σ H Q->wpAny (model X.prog X.w) X.A (isTrue e X.env (eval e X.env)) (TP X pins σ Q) X.xe s
noncomputable def PW (X:Cx) (e:Expr) (t:TT):Prop :=
 ∀(whole:Sem Value) (pins:List (Addr×Obj)) (s:Shared) (σ:St) (H:Hp) (Q:Bool->Hp->Prop),Inv X pins σ H s->t σ H Q->wpAny (model X.prog X.w) X.A (isTrue e X.env whole) (TP X pins σ Q) X.xe s
theorem PW.pt {X:Cx}{e:Expr}{t:TT} (h:PW X e t):PT X e t:=h _
noncomputable def PA (X:Cx) (es:List Expr) (t:TA):Prop :=
 ∀(pos:Pos) (pins:List (Addr×Obj)) (s:Shared) (σ:St) (H:Hp) (Q:List V->Hp->Prop),Inv X pins σ H s->t σ H Q->wpAny (model X.prog X.w) X.A (spliced (backTo pos (starEach es X.env))) (AP X pins σ Q) X.xe s
noncomputable def PS (X:Cx) (st:Stmt) (t:TS):Prop :=
 ∀(pins:List (Addr×Obj)) (s:Shared) (σ:St) (H:Hp) (D:Ends),Inv X pins σ H s->t D σ H->wpAny (model X.prog X.w) X.A (exec st X.env) (SP X pins D) X.xe s
noncomputable def PSs (X:Cx) (st:List Stmt) (t:TS):Prop :=
 ∀(pins:List (Addr×Obj)) (s:Shared) (σ:St) (H:Hp) (D:Ends),Inv X pins σ H s->t D σ H->wpAny (model X.prog X.w) X.A (execs st X.env) (SP X pins D) X.xe s
theorem thn {α:Type}{t:Sem α}{Q Q':α->Shared->Prop}{M:Model}{A:Around}{E:Value->Shared->Prop}{s:Shared} (h:wpAny M A t Q E s) (hQ:∀a s,Q a s->Q' a s):wpAny M A t Q' E s:=wpAny_mono h hQ fun _ _ x=>x
section
variable {X:Cx}
noncomputable def bz (i:Nat):TE:=fun σ H Q=>∃v,σ[i]?=some (some v)/\Q v H
noncomputable def tC (v:V):TE:=fun _ H Q=>Q v H
theorem w5 {i:Nat}{x:Str}{pos:Pos} (hN:X.N[i]?=some x) (hv:Vis X.env.scope x) (hd:(x == ("__debug__":Str))=false:=by decide) (hcd:(x == ("__classdict__":Str))=false:=by decide):PE X (.Name x pos) (bz i):=by
 intro pins s σ H Q I h
 obtain⟨v,e,h⟩:=h
 obtain⟨m,hn,hl⟩:=I.loc
 obtain⟨u,r,l⟩:=hl i x v hN e hv
 have fin:EP X pins σ Q u s:=⟨v,H,I,r,h⟩
 rcases l with ⟨hk,hm⟩ | ⟨hk,c,hc,hcell⟩
 ·exact wpAny_Name (wpAny_loadName_local I.ok.kind hk hn hm fin) hd
 ·rcases hk with hk | hk
  ·exact wpAny_Name (wpAny_loadName_cell I.ok.kind hk hc hcell fin) hd
  ·exact wpAny_Name (wpAny_loadName_free I.ok.kind hk hc hcell fin hcd) hd
theorem aj {i j pos}:PE X (.Constant (.int i) j pos) (tC (.int i)):=fun _ _ _ H _ I h=>wpAny_Constant_int ⟨.int i,H,I.tok _,⟨_,rfl⟩,h⟩
theorem bW {b j pos}:PE X (.Constant (.bool b) j pos) (tC (.bl b)):=fun _ _ _ H _ I h=>Constant_bool ⟨.bl b,H,I,rfl,h⟩
theorem eI {j pos}:PE X (.Constant .none j pos) (tC .non):=fun _ _ _ H _ I h=>Constant_none ⟨.non,H,I,rfl,h⟩
theorem aM {x j pos}:PE X (.Constant (.str x) j pos) (tC (.str x)):=fun _ _ _ H _ I h=>Calls.Constant_str ⟨.str x,H,I.tok _,⟨_,rfl⟩,h⟩
noncomputable def Gl (X:Cx) (x:Str):Prop:=X.env.kindOf x=some .globalImplicit
theorem fL {E:Value->Shared->Prop}{pins:List (Addr×Obj)}{s:Shared}{σ:St}{H:Hp}{x:Str}{u:Value}{pos:Pos}{Q:Value->Shared->Prop} (I:Inv X pins σ H s) (hg:Gl X x) (hm:X.mg x=some u) (h:Q u s)
  (hd:(x == ("__debug__":Str))=false:=by decide):wpAny (model X.prog X.w) X.A (eval (.Name x pos) X.env) Q E s :=
 Calls.Name_function_global I.ok.kind hg (Calls.loadGlobal_global (by rw [I.ok.glob];exact I.mod.glob.keeps I.bk) hm h) hd
theorem fi {E:Value->Shared->Prop}{pins:List (Addr×Obj)}{s:Shared}{σ:St}{H:Hp}{x:Str}{u:Value}{pos:Pos}{Q:Value->Shared->Prop} (I:Inv X pins σ H s) (hg:Gl X x) (hm:X.mg x=none) (hv:bootBuiltins x=some u) (h:Q u s)
  (hn:x≠"__name__":=by decide) (hd:(x == ("__debug__":Str))=false:=by decide):wpAny (model X.prog X.w) X.A (eval (.Name x pos) X.env) Q E s:=by
 obtain⟨mb,h1,h2⟩:=I.mod.blt
 exact Calls.Name_function_global I.ok.kind hg (Calls.loadGlobal_builtin (by rw [I.ok.glob];exact I.mod.glob.keeps I.bk) hm (by rw [I.ok.blt];exact h1.keeps I.bk) ((h2 x hn).trans hv) h) hd
theorem cG {x:Str}{v:V}{u:Value}{pos:Pos} (hg:Gl X x) (hm:X.mg x=some u) (r:RelV v u) (hd:(x == ("__debug__":Str))=false:=by decide):PE X (.Name x pos) (tC v) :=
 fun _ _ _ H _ I h=>fL I hg hm ⟨v,H,I,r,h⟩ hd
theorem bV {x:Str}{v:V}{u:Value}{pos:Pos} (hg:Gl X x) (hm:X.mg x=none) (hv:bootBuiltins x=some u) (r:RelV v u) (hn:x≠"__name__":=by decide) (hd:(x == ("__debug__":Str))=false:=by decide):PE X (.Name x pos) (tC v) :=
 fun _ _ _ H _ I h=>fi I hg hm hv ⟨v,H,I,r,h⟩ hn hd
variable {a b:Expr}{ta tb:TE}{pos:Pos}
noncomputable def tB (t:TE):TT:=fun σ H Q=>t σ H fun x H1=>∃c,x=.bl c/\Q c H1
theorem bE {e:Expr}{t:TE} (h:PE X e t) (he:∀whole,isTrue e X.env whole=(do let v <- whole;standAt e.pos;holding [v] (truthy v)):=by intro _;rfl):PT X e (tB t):=by
 intro pins s σ H Q I hw
 refine isTrue_plain (thn (h pins s σ H _ I hw) fun v s1 ⟨x,H1,I1,r1,q1⟩=>?_) (he _)
 obtain⟨d,rfl,q⟩:=q1
 cases r1
 exact wpAny_truthy_bool ⟨H1,I1,q⟩
variable {tA tB':TT}{rest:List Expr}
noncomputable def yt (t u:TT):TT:=fun σ H Q=>t σ H fun c H1=>if c=true then u σ H1 Q else Q false H1
noncomputable def tOr (t u:TT):TT:=fun σ H Q=>t σ H fun c H1=>if c=true then Q true H1 else u σ H1 Q
noncomputable def ye (t:TT):TT:=fun σ H Q=>t σ H fun c H1=>Q (!c) H1
theorem vp (ha:PT X a tA):PW X (.BoolOp .And [a] pos) tA:=by
 intro wh pins s σ H Q I h
 refine isTrue_and (thn (ha pins s σ H Q I h) fun c s1 e=>?_)
 cases c with
 | true=>exact isTrue_and_nil e
 | false=>exact e
theorem cc (ha:PT X a tA):PW X (.BoolOp .Or [a] pos) tA:=by
 intro wh pins s σ H Q I h
 refine isTrue_or (thn (ha pins s σ H Q I h) fun c s1 e=>?_)
 cases c with
 | false=>exact isTrue_or_nil e
 | true=>exact e
theorem xj (ha:PT X a tA) (hb:PW X (.BoolOp .And (b::rest) pos) tB'):PW X (.BoolOp .And (a::b::rest) pos) (yt tA tB'):=by
 intro wh pins s σ H Q I h
 refine isTrue_and (thn (ha pins s σ H _ I h) fun c s1 ⟨H1,I1,q1⟩=>?_)
 cases c with
 | true=>exact hb wh pins s1 σ H1 Q I1 q1
 | false=>exact⟨H1,I1,q1⟩
theorem bS (ha:PT X a tA) (hb:PW X (.BoolOp .Or (b::rest) pos) tB'):PW X (.BoolOp .Or (a::b::rest) pos) (tOr tA tB'):=by
 intro wh pins s σ H Q I h
 refine isTrue_or (thn (ha pins s σ H _ I h) fun c s1 ⟨H1,I1,q1⟩=>?_)
 cases c with
 | true=>exact⟨H1,I1,q1⟩
 | false=>exact hb wh pins s1 σ H1 Q I1 q1
theorem bw (ha:PT X a tA):PT X (.UnaryOp .Not a pos) (ye tA):=by
 intro pins s σ H Q I h
 exact isTrue_not (ha pins s σ H (fun c H1=>Q (!c) H1) I h)
noncomputable def xq (ta tb:TE):TE:=fun σ H Q=>ta σ H fun x H1=>∃c,x=.bl c/\if c=true then tb σ H1 Q else Q (.bl false) H1
noncomputable def xI (ta:TE):TE:=fun σ H Q=>ta σ H fun x H1=>∃c,x=.bl c/\Q (.bl (!c)) H1
theorem cZ {op}{t:TE} (h:PE X a t):PE X (.BoolOp op [a] pos) t:=fun pins s σ H Q I hw=>BoolOp_one (h pins s σ H Q I hw)
theorem cH (ha:PE X a ta) (hb:PE X (.BoolOp .And (b::rest) pos) tb):PE X (.BoolOp .And (a::b::rest) pos) (xq ta tb):=by
 intro pins s σ H Q I h
 refine BoolOp_and (thn (ha pins s σ H _ I h) fun v s1 ⟨x,H1,I1,r1,q1⟩=>?_)
 obtain⟨c,rfl,q1⟩:=q1
 cases r1
 refine wpAny_truthy_bool ?_
 cases c with
 | true=>exact hb pins s1 σ H1 Q I1 q1
 | false=>exact⟨.bl false,H1,I1,rfl,q1⟩
theorem oa (ha:PE X a ta):PE X (.UnaryOp .Not a pos) (xI ta):=by
 intro pins s σ H Q I h
 refine UnaryOp_ (thn (ha pins s σ H _ I h) fun v s1 ⟨x,H1,I1,r1,q1⟩=>?_)
 obtain⟨c,rfl,q1⟩:=q1
 cases r1
 exact not_of (wpAny_truthy_bool ⟨.bl (!c),H1,I1,rfl,q1⟩)
noncomputable def tIf (t:TT) (ta tb:TE):TE:=fun σ H Q=>t σ H fun c H1=>if c=true then ta σ H1 Q else tb σ H1 Q
theorem mR {c:Expr} (hc:PT X c tA) (ha:PE X a ta) (hb:PE X b tb):PE X (.IfExp c a b pos) (tIf tA ta tb):=by
 intro pins s σ H Q I h
 refine wpAny_IfExp (thn (hc pins s σ H _ I h) fun d s1 ⟨H1,I1,q1⟩=>?_)
 cases d with
 | true=>exact ha pins s1 σ H1 Q I1 q1
 | false=>exact hb pins s1 σ H1 Q I1 q1
end
noncomputable def SqL (K:PySem.W.Frag) (H:Hp) (a:Addr) (xs:List V):Prop :=
 Rd H a (.lst xs) \/
  ∃(o:Obj) (its:Array Value) (n:Nat),K.lookup a=some o/\o.cls=.type "list"/\o.dict=none/\o.data=.seq its n/\its.size<=sizeLine/\av xs its.toList
noncomputable def SqT (K:PySem.W.Frag) (H:Hp) (a:Addr) (xs:List V):Prop :=
 Rd H a (.tup xs) \/
  ∃(o:Obj) (its:Array Value) (n:Nat),K.lookup a=some o/\o.cls=.type "tuple"/\o.data=.seq its n/\its.size<=sizeLine/\av xs its.toList
noncomputable def yj:Value->Option V
 | .none=>some .non
 | .bool b=>some (.bl b)
 | .int i _=>some (.int i)
 | .str x _=>some (.str x)
 | .bytes b _=>some (.byt b)
 | .float b _=>some (.flt b)
 | .ref a=>some (.ref a)
 | .type n=>some (.ty n)
 | _=>none
theorem RelV.abs {x:V}{u:Value} (r:RelV x u):yj u=some x:=by
 cases x with
 | non=>cases r;rfl
 | bl _=>cases r;rfl
 | int _=>obtain⟨t,rfl⟩:=r;rfl
 | str _=>obtain⟨t,rfl⟩:=r;rfl
 | byt _=>obtain⟨t,rfl⟩:=r;rfl
 | flt _=>obtain⟨t,rfl⟩:=r;rfl
 | ref _=>cases r;rfl
 | ty _=>cases r;rfl
theorem RelV.inj {x y:V}{u:Value} (r:RelV x u) (q:RelV y u):x=y:=Option.some.inj (r.abs.symm.trans q.abs)
theorem av.inj:∀{xs ys:List V}{us:List Value},av xs us->av ys us->xs=ys
 | _,_,_,.nil,.nil=>rfl
 | _,_,_,.cons r t,.cons r' t'=>by rw [r.inj r',av.inj t t']
section
variable {X:Cx}{pins:List (Addr×Obj)}{σ:St}{H:Hp}{s:Shared}{a:Addr}{xs ys:List V}
theorem SqL.of {K:PySem.W.Frag} (h:H a=some (.lst xs)):SqL K H a xs:=.inl (.inl h)
theorem SqT.of {K:PySem.W.Frag} (h:H a=some (.tup xs)):SqT K H a xs:=.inl (.inl h)
theorem Inv.list (I:Inv X pins σ H s) (h:SqL X.K H a xs):∃its:List Value,av xs its/\PlainL s.heap a its.toArray/\xs.length<=sizeLine:=by
 rcases h with h | ⟨o,its,n,hk,hc,hd,hs,hz,r⟩
 ·obtain⟨z,its,n,r,e⟩:=h.ok I.hok
  exact⟨its,r,⟨_,n,e,rfl,rfl,rfl⟩,z⟩
 ·refine⟨its.toList,r,⟨o,n,I.kIn a o hk,hc,hd,by simpa using hs⟩,?_⟩
  have e:=r.length
  simp only [Array.length_toList] at e
  omega
theorem Inv.tuple (I:Inv X pins σ H s) (h:SqT X.K H a xs):∃its:List Value,av xs its/\IsTup s.heap a its.toArray/\xs.length<=sizeLine:=by
 rcases h with h | ⟨o,its,n,hk,hc,hs,hz,r⟩
 ·obtain⟨z,its,r,p⟩:=h.ok I.hok
  exact⟨its,r,p,z⟩
 ·refine⟨its.toList,r,⟨o,I.kIn a o hk,hc,n,by simpa using hs⟩,?_⟩
  have e:=r.length
  simp only [Array.length_toList] at e
  omega
theorem Inv.list_inj (I:Inv X pins σ H s) (h:SqL X.K H a xs) (h':SqL X.K H a ys):xs=ys:=by
 obtain⟨its,r,⟨o,n,e,_,_,d⟩,_⟩:=I.list h
 obtain⟨its',r',⟨o',n',e',_,_,d'⟩,_⟩:=I.list h'
 rw [e] at e';cases e'
 rw [d] at d'
 injection d' with d1 _
 have:its=its':=by simpa using congrArg Array.toList d1
 subst this
 exact r.inj r'
theorem Inv.tuple_inj (I:Inv X pins σ H s) (h:SqT X.K H a xs) (h':SqT X.K H a ys):xs=ys:=by
 obtain⟨its,r,⟨o,e,_,n,d⟩,_⟩:=I.tuple h
 obtain⟨its',r',⟨o',e',_,n',d'⟩,_⟩:=I.tuple h'
 rw [e] at e';cases e'
 rw [d] at d'
 injection d' with d1 _
 have:its=its':=by simpa using congrArg Array.toList d1
 subst this
 exact r.inj r'
end
noncomputable abbrev Cx.wish (X:Cx) (E:Value->Shared->Prop):Cx:={ X with xe:=E }
noncomputable abbrev Cx.nox (X:Cx):Cx:=X.wish fun _ _=>False
theorem Cx.Ok.wish {X:Cx} (ok:X.Ok) (E:Value->Shared->Prop):(X.wish E).Ok :=
 ⟨ok.mod,ok.kind,ok.glob,ok.blt,ok.above,ok.inj,ok.has,ok.cab,ok.hd,ok.frames,ok.stk,ok.exf,ok.bs,ok.bsz,ok.noex,ok.exfs,ok.funs,ok.frf⟩
theorem Cx.Ok.unwish {X:Cx}{E:Value->Shared->Prop} (ok:(X.wish E).Ok):X.Ok :=
 ⟨ok.mod,ok.kind,ok.glob,ok.blt,ok.above,ok.inj,ok.has,ok.cab,ok.hd,ok.frames,ok.stk,ok.exf,ok.bs,ok.bsz,ok.noex,ok.exfs,ok.funs,ok.frf⟩
section
variable {X:Cx}{pins:List (Addr×Obj)}{σ:St}{H:Hp}{s:Shared}{E:Value->Shared->Prop}
theorem Inv.wish (I:Inv X pins σ H s) (E:Value->Shared->Prop):Inv (X.wish E) pins σ H s:=⟨I.ok.wish E,I.os,I.bare,I.base,I.loc,I.cell,I.free,I.freeC,I.pin,I.hok,I.len⟩
theorem Inv.unwish (I:Inv (X.wish E) pins σ H s):Inv X pins σ H s:=⟨I.ok.unwish,I.os,I.bare,I.base,I.loc,I.cell,I.free,I.freeC,I.pin,I.hok,I.len⟩
theorem SP.unwish {D:Ends}{f:Flow}{s':Shared} (h:SP (X.wish E) pins D f s'):SP X pins D f s':=by
 cases f with
 | next=>obtain⟨σ',H',I,q⟩:=h;exact⟨σ',H',I.unwish,q⟩
 | brk=>obtain⟨σ',H',I,q⟩:=h;exact⟨σ',H',I.unwish,q⟩
 | cont=>obtain⟨σ',H',I,q⟩:=h;exact⟨σ',H',I.unwish,q⟩
 | ret u=>obtain⟨v,σ',H',I,r,q⟩:=h;exact⟨v,σ',H',I.unwish,r,q⟩
theorem PSs.nox {st:List Stmt}{t:TS} (h:PSs X.nox st t):PSs X st t:=fun pins s σ H D I hw =>
 wpAny_mono (h pins s σ H D (I.wish _) hw) (fun _ _ q=>q.unwish) fun _ _ z=>False.elim z
end
section
variable {X:Cx}{st:Stmt}{rest:List Stmt}{t u:TS}{e:Expr}{te:TE}{pos:Pos}
noncomputable def xA:TS:=fun D σ H=>D.nx σ H
noncomputable def kL (t u:TS):TS:=fun D σ H=>t { D with nx:=u D } σ H
theorem aX:PSs X [] xA:=fun _ _ σ H _ I h=>wpAny_execs_nil ⟨σ,H,I,h⟩
theorem am (h1:PS X st t) (h2:PSs X rest u):PSs X (st::rest) (kL t u):=by
 intro pins s σ H D I h
 refine wpAny_execs_cons (thn (h1 pins s σ H { D with nx:=u D } I h) fun f s1 q=>?_)
 cases f with
 | next =>
  obtain⟨σ',H',I',q⟩:=q
  exact h2 pins s1 σ' H' D I' q
 | ret v=>exact q
 | brk=>exact q
 | cont=>exact q
theorem ay (h1:PS X st t):PSs X [st] t:=by
 intro pins s σ H D I h
 refine wpAny_execs_cons (thn (h1 pins s σ H D I h) fun f s1 q=>?_)
 cases f with
 | next=>exact wpAny_execs_nil q
 | ret v=>exact q
 | brk=>exact q
 | cont=>exact q
theorem Inv.quiet {pins:List (Addr×Obj)}{σ:St}{H:Hp}{s:Shared} (I:Inv X pins σ H s):interactive X.env=false:=by simp [interactive,I.ok.kind]
noncomputable def oU (te:TE):TS:=fun D σ H=>te σ H fun _ H1=>D.nx σ H1
theorem bN (he:PE X e te) (hs:swapsWith e none pos.line X.env=pure false:=by rfl):PS X (.Expr e pos) (oU te):=by
 intro pins s σ H D I h
 exact wpAny_Expr_any (thn (he pins s σ H _ I h) fun v s1 ⟨x,H1,I1,r1,q1⟩=>⟨σ,H1,I1,q1⟩) I.quiet hs
noncomputable def gM (te:TE):TS:=fun D σ H=>te σ H D.rt
theorem aD (he:PE X e te):PS X (.Return (some e) pos) (gM te):=by
 intro pins s σ H D I h
 exact wpAny_Return_some (thn (he pins s σ H _ I h) fun v s1 ⟨x,H1,I1,r1,q1⟩=>⟨x,σ,H1,I1,r1,q1⟩)
noncomputable def yq (c:TT) (t u:TS):TS:=fun D σ H=>c σ H fun b H1=>if b=true then t D σ H1 else u D σ H1
theorem aY {c:Expr}{a b:List Stmt}{tc:TT} (hc:PT X c tc) (ha:PSs X a t) (hb:PSs X b u):PS X (.If c a b pos) (yq tc t u):=by
 intro pins s σ H D I h
 refine wpAny_If (thn (hc pins s σ H _ I h) fun d s1 ⟨H1,I1,q1⟩=>?_)
 cases d with
 | true=>exact ha pins s1 σ H1 D I1 q1
 | false=>exact hb pins s1 σ H1 D I1 q1
noncomputable def wA:TS:=fun _ _ _=>False
theorem cx {sts:List Stmt}:PSs X sts wA:=fun _ _ _ _ _ _ h=>h.elim
end
noncomputable abbrev TG:=V->St->Hp->(St->Hp->Prop)->Prop
noncomputable abbrev TGs:=List V->St->Hp->(St->Hp->Prop)->Prop
noncomputable def PG (X:Cx) (target:Expr) (t:TG):Prop :=
 ∀(pins:List (Addr×Obj)) (s:Shared) (σ:St) (H:Hp) (v:V) (u:Value) (Q:St->Hp->Prop),Inv X pins σ H s->RelV v u->t v σ H Q ->
  wpAny (model X.prog X.w) X.A (assign target X.env u) (fun _ s'=>∃σ' H',Inv X pins σ' H' s'/\Q σ' H') X.xe s
noncomputable def PGs (X:Cx) (ts:List Expr) (t:TGs):Prop :=
 ∀(pins:List (Addr×Obj)) (s:Shared) (σ:St) (H:Hp) (vs:List V) (us:List Value) (Q:St->Hp->Prop),Inv X pins σ H s->av vs us->t vs σ H Q ->
  wpAny (model X.prog X.w) X.A (assignInOrder ((assignEach ts X.env).map (·.2)) us) (fun _ s'=>∃σ' H',Inv X pins σ' H' s'/\Q σ' H') X.xe s
noncomputable abbrev kE:=V->V->V->Hp->(Hp->Prop)->Prop
noncomputable def pJ (X:Cx) (t:kE):Prop :=
 ∀(pins:List (Addr×Obj)) (s:Shared) (σ:St) (H:Hp) (o i v:V) (ov iv u:Value) (Q:Hp->Prop),Inv X pins σ H s->RelV o ov->RelV i iv->RelV v u->t o i v H Q ->
  wpAny (model X.prog X.w) X.A (setItem ov iv u) (fun _ s'=>∃H',Inv X pins σ H' s'/\Q H') X.xe s
section
variable {X:Cx}{pos:Pos}
noncomputable def cy (i:Nat):TG:=fun v σ H Q=>Q (σ.set i (some v)) H
theorem br {i:Nat}{x:Str} (hN:X.N.Nodup) (hi:X.N[i]?=some x) (hx:Loc X.env.scope x) (hf:X.fn x=true\/X.env.scope.names.lookup x=some .local:=by first | exact .inl rfl | exact .inr rfl | assumption):PG X (.Name x pos) (cy i):=by
 intro pins s σ H v u Q I r h
 exact wpAny_assign_Name (eg I hN hi hx r (fun s' I'=>⟨_,H,I',h⟩) hf)
noncomputable def yy:TGs:=fun vs σ H Q=>vs=[]/\Q σ H
noncomputable def xE (t:TG) (u:TGs):TGs:=fun vs σ H Q=>∃v r,vs=v::r/\t v σ H fun σ' H'=>u r σ' H' Q
theorem cX:PGs X [] yy:=by
 intro pins s σ H vs us Q I r h
 obtain⟨e,h⟩:=h
 subst e
 cases r
 exact assignInOrder_nil ⟨σ,H,I,h⟩
theorem bC {e:Expr}{es:List Expr}{t:TG}{u:TGs} (h1:PG X e t) (h2:PGs X es u)
  (hs:(assignEach (e::es) X.env).map (·.2)=assign e X.env::(assignEach es X.env).map (·.2):=by rfl):PGs X (e::es) (xE t u):=by
 intro pins s σ H vs us Q I r h
 obtain⟨v,vr,e1,h⟩:=h
 subst e1
 cases r with
 | cons r rr =>
  rw [hs]
  refine assignInOrder_cons (thn (h1 pins s σ H _ _ _ I r h) fun _ s1 ⟨σ1,H1,I1,q1⟩=>?_)
  exact h2 pins s1 σ1 H1 _ _ Q I1 rr q1
noncomputable def pX (K:PySem.W.Frag) (n:Nat) (t:TGs):TG:=fun v σ H Q=>∃a xs,v=.ref a/\SqT K H a xs/\xs.length=n/\t xs σ H Q
theorem dj {es:List Expr}{k:Nat}{t:TGs}{n:Nat} (hc:X.calm=true) (h:PGs X es t)
  (hn:(assignEach es X.env).length=n:=by rfl) (hst:(assignEach es X.env).findIdx? (·.1)=none:=by rfl):PG X (.Tuple es k pos) (pX X.K n t):=by
 intro pins s σ H v u Q I r hw
 obtain⟨a,xs,e1,hq,hl,hw⟩:=hw
 subst e1
 cases r
 obtain⟨its,rv,ht,hz⟩:=I.tuple hq
 refine assign_Tuple_tuple (I.ok.hd hc) ht (by simp [hn,<- hl,rv.length]) hst fun h' hx=>?_
 have I1:Inv X pins σ H { s with heap:=h' }:=I.kept (t':=s.toks) fun b o e=>hx b o (Nat.ne_of_lt (Heap.lt_size e)) e
 exact h pins _ σ H xs _ Q I1 (by simpa using rv) hw
noncomputable def xR (to ti:TE) (t:kE):TG:=fun v σ H Q=>to σ H fun o H1=>ti σ H1 fun i H2=>t o i v H2 fun H3=>Q σ H3
theorem iu {o i:Expr}{to ti:TE}{t:kE} (ho:PE X o to) (hi:PE X i ti) (hs:pJ X t)
  (ha:∀v,assign (.Subscript o i pos) X.env v=(do
   let ov <- holding [v] (eval o X.env)
   let iv <- holding [v,ov] (eval i X.env)
   standAt pos
   holding [v,ov,iv] (setItem ov iv v)
   release [v,ov,iv] []):=by intro _;rfl):PG X (.Subscript o i pos) (xR to ti t):=by
 intro pins s σ H v u Q I r h
 rw [ha]
 refine wpAny_bind (wpAny_holding (thn (ho pins s σ H _ I h) fun ov s1 ⟨x,H1,I1,r1,q1⟩=>?_))
 refine wpAny_bind (wpAny_holding (thn (hi pins s1 σ H1 _ I1 q1) fun iv s2 ⟨y,H2,I2,r2,q2⟩=>?_))
 refine wpAny_bind (wpAny_standAt (wpAny_bind (wpAny_holding (thn (hs pins s2 σ H2 x y v ov iv u _ I2 r1 r2 r q2) fun _ s3 ⟨H3,I3,q3⟩=>?_))))
 exact wpAny_release ⟨σ,H3,I3,q3⟩
noncomputable def iK (te:TE) (g:TG):TS:=fun D σ H=>te σ H fun x H1=>g x σ H1 D.nx
theorem dR {tg e:Expr}{te:TE}{g:TG} (he:PE X e te) (hg:PG X tg g) (hs:swapsWithSole [tg] e pos.line X.env=pure false:=by rfl) (hw:swappedStores [tg] e X.env=pure none:=by rfl)
  (h1:(assignEach [tg] X.env).map (·.2)=[assign tg X.env]:=by rfl):PS X (.Assign [tg] e pos) (iK te g):=by
 intro pins s σ H D I h
 refine wpAny_Assign_stores (thn (he pins s σ H _ I h) fun v s1 ⟨x,H1,I1,r1,q1⟩=>?_) hs hw
 rw [h1]
 exact thn (hg pins s1 σ H1 x v _ I1 r1 q1) fun _ s2 q=>q
theorem aU {i:Nat}{x:Str}{e:Expr}{te:TE}{pos':Pos} (hN:X.N.Nodup) (hi:X.N[i]?=some x) (hx:Loc X.env.scope x) (he:PE X e te) (hs:swapsWith e (some (.Name x pos')) pos.line X.env=pure false:=by rfl) (hf:X.fn x=true\/X.env.scope.names.lookup x=some .local:=by first | exact .inl rfl | exact .inr rfl | assumption) :
  PS X (.Assign [.Name x pos'] e pos) (iK te (cy i)):=by
 intro pins s σ H D I h
 refine wpAny_Assign_Name (thn (he pins s σ H _ I h) fun v s1 ⟨y,H1,I1,r1,q1⟩=>?_) hs
 exact eg I1 hN hi hx r1 (fun s2 I2=>⟨_,H1,I2,q1⟩) hf
noncomputable def yu (i j:Nat) (ta:TA):TS:=fun D σ H=>ta σ H fun vs H1=>∃v w,vs=[v,w]/\D.nx ((σ.set i (some v)).set j (some w)) H1
theorem oz {i j:Nat}{x y:Str}{a b:Expr}{ta:TA}{px py pt:Pos}{kt k2 pt2} (hc:X.calm=true) (hN:X.N.Nodup) (hi:X.N[i]?=some x) (hj:X.N[j]?=some y) (hij:i≠j)
  (hx:X.env.scope.names.lookup x=some .local) (hy:X.env.scope.names.lookup y=some .local) (ha:PA X [a,b] ta)
  (hw:swappedStores [.Tuple [.Name x px,.Name y py] kt pt] (.Tuple [a,b] k2 pt2) X.env=pure (some [x,y]))
  (hs:swapsWithSole [.Tuple [.Name x px,.Name y py] kt pt] (.Tuple [a,b] k2 pt2) pos.line X.env=pure false:=by rfl) :
  PS X (.Assign [.Tuple [.Name x px,.Name y py] kt pt] (.Tuple [a,b] k2 pt2) pos) (yu i j ta):=by
 intro pins s σ H D I h
 rw [exec_Assign_arm]
 refine wpAny_bind (wpAny_standAt ?_)
 rw [hs]
 refine wpAny_bind (wpAny_pure ?_)
 rw [if_neg (by decide)]
 refine wpAny_bind (Tuple_ (thn (ha _ pins s σ H _ I h) fun us s1 ⟨vs,H1,I1,r1,q1⟩=>?_))
 obtain⟨v,w,e1,q1⟩:=q1
 subst e1
 obtain⟨u1,u2,rfl,rv,rw'⟩:∃u1 u2,us=[u1,u2]/\RelV v u1/\RelV w u2:=by
  cases r1 with
  | cons p q =>
   cases q with
   | cons p' q' =>
    cases q'
    exact⟨_,_,rfl,p,p'⟩
 refine wpAny_newObj_type ?_ (by show 2<=sizeLine;decide)
 have I2:Inv X pins σ H1 { s1 with heap:=s1.heap.push { cls:=.type "tuple",data:=.seq [u1,u2].toArray } }:=I1.kept (t':=s1.toks) fun b o e=>Heap.get?_push_of_some _ e
 rw [hw]
 refine wpAny_bind (wpAny_pure ?_)
 show wpAny (model X.prog X.w) X.A (do rule "assign.swapped-stores";let items <- unpackItems (.ref s1.heap.objs.size) 2 none;assignInOrder [fun v=>bindName X.env y v,fun v=>bindName X.env x v] items.reverse;pure Flow.next) _ _ _
 refine wpAny_bind (wpAny_rule (wpAny_bind (unpackItems_tuple (items:=#[u1,u2]) (I.ok.hd hc) (IsTup.new s1.heap _) fun h' hx'=>?_)))
 have I3:=I2.kept (h':=h') (t':=s1.toks) fun b o e=>hx' b o (Nat.ne_of_lt (Heap.lt_size e)) e
 show wpAny _ _ (assignInOrder [fun v=>bindName X.env y v,fun v=>bindName X.env x v] [u2,u1] >>= fun _=>pure Flow.next) _ _ _
 refine wpAny_bind (assignInOrder_cons (wpAny_bindName (eg I3 hN hj (.inl hy) rw' (fun s2 I4=>?_) (.inr hy))))
 refine assignInOrder_cons (wpAny_bindName (eg I4 hN hi (.inl hx) rv (fun s3 I5=>assignInOrder_nil (wpAny_pure ?_)) (.inr hx)))
 rw [List.set_comm _ _ (Ne.symm hij)] at I5
 exact⟨_,H1,I5,q1⟩
end
section
variable {X:Cx}{pos:Pos}
end
structure It where
 go:Nat->Hp->Prop
 yld:Nat->Hp->V->Hp->Prop
 stop:Nat->Hp->Prop
noncomputable def bJ (X:Cx) (pins:List (Addr×Obj)) (H:Hp) (b:Addr):Prop :=
 H b=none/\b≠X.env.locals/\b∉X.fs/\(b∈X.ex\/X.s₀.heap.objs.size<=b)/\(∀x c,X.env.cells.lookup x=some c->c≠b)/\∀p∈X.pn++pins,p.1≠b
theorem Inv.fpOk {X:Cx}{pins:List (Addr×Obj)}{σ:St}{H H':Hp}{s:Shared}{b:Addr} (I:Inv X pins σ H s) (hb:s.heap.objs.size<=b) (hn:H' b=none):bJ X pins H' b:=by
 refine⟨hn,Nat.ne_of_gt (Nat.lt_of_lt_of_le I.lt hb),I.nofs hb,.inr (Nat.le_trans I.sz hb),fun x c e z=>?_,fun p hp z=>?_⟩
 ·obtain⟨v,q⟩:=I.cell x c e
  exact absurd (Nat.lt_of_lt_of_le q.lt (by rw [z];exact hb)) (Nat.lt_irrefl _)
 ·exact absurd (Nat.lt_of_lt_of_le (Heap.lt_size (I.pin p hp).1) (by rw [z];exact hb)) (Nat.lt_irrefl _)
structure Turn (P:Program) (w:World) (K:PySem.W.Frag) (tg:Expr) (J:It) (fp:List Addr) (it:Addr) (tn:Nat->Heap->Prop):Prop where
 mem:it∈fp
 obj:∀i h,tn i h->∀b∈fp,∃o,h.get? b=some o/\∀v,o.data≠.cell v
 keep:∀i h h',tn i h->(∀b∈fp,∀o,h.get? b=some o->h'.get? b=some o)->tn i h'
 item:∀(X:Cx),X.prog=P->X.w=w->X.K=K->X.calm=true->∀(i:Nat) (pins:List (Addr×Obj)) (s:Shared) (σ:St) (H:Hp) (E:Value->Shared->Prop),Inv X pins σ H s->(∀b∈fp,bJ X pins H b)->tn i s.heap->J.go i H ->
  wpAny (model P w) X.A (pyNext (.ref it)) (fun r s1=>∃u,r=some u /\
   wpAny (model P w) X.A (letOwnedTupleGo tg (.ref it) u) (fun _ s2=>∃x H',Inv X pins σ H' s2/\RelV x u/\J.yld i H x H'/\tn (i + 1) s2.heap/\∀b∈fp,H' b=none) E s1) E s
 done:∀(X:Cx),X.prog=P->X.w=w->X.K=K->X.calm=true->∀(i:Nat) (pins:List (Addr×Obj)) (s:Shared) (σ:St) (H:Hp) (E:Value->Shared->Prop),Inv X pins σ H s->(∀b∈fp,bJ X pins H b)->tn i s.heap->J.stop i H ->
  wpAny (model P w) X.A (pyNext (.ref it)) (fun r s1=>r=none/\Inv X pins σ H s1) E s
 self:∀(A:Around) (i:Nat) (s:Shared) (Q:Value->Shared->Prop) (E:Value->Shared->Prop),tn i s.heap->Q (.ref it) s->wpAny (model P w) A (pyIter (.ref it)) Q E s
noncomputable abbrev TI:=St->Hp->(It->Hp->Prop)->Prop
noncomputable def PIE (X:Cx) (pins:List (Addr×Obj)) (σ:St) (tg:Expr) (R:It->Hp->Prop) (itv:Value) (s2:Shared):Prop :=
 ∃(it:Addr) (fp:List Addr) (tn:Nat->Heap->Prop) (J:It) (H':Hp),itv=.ref it/\Inv X pins σ H' s2/\Turn X.prog X.w X.K tg J fp it tn/\tn 0 s2.heap/\(∀b∈fp,bJ X pins H' b)/\R J H'
noncomputable def PI (X:Cx) (tg iter:Expr) (wi:TI):Prop :=
 ∀(pins:List (Addr×Obj)) (s:Shared) (σ:St) (H:Hp) (R:It->Hp->Prop),Inv X pins σ H s->wi σ H R ->
  wpAny (model X.prog X.w) X.A (eval iter X.env) (fun v s1=>wpAny (model X.prog X.w) X.A (pyIter v) (PIE X pins σ tg R) X.xe s1) X.xe s
theorem fS {M:Model}{A:Around}{E:Value->Shared->Prop}{s:Shared}{tg:Expr}{it:Addr}{u:Value}{o:Obj}{n:String}{vs:Array Value}{Q:Unit->Shared->Prop} (ho:s.heap.get? it=some o) (hc:o.cls=.type n) (hd:o.data=.fields vs)
  (hn:["enumerate","zip","dict_itemiterator","dict_reverseitemiterator","odict_iterator","itertools.zip_longest","itertools.pairwise"].contains n=false) (hQ:Q () s):wpAny M A (letOwnedTupleGo tg (.ref it) u) Q E s:=by
 unfold letOwnedTupleGo
 cases tg <;> first
  | exact wpAny_pure hQ
  | (cases u <;> first
    | exact wpAny_pure hQ
    | (refine wpAny_bind (wpAny_load ho ?_)
       rw [hc,hd]
       show wpAny M A (if (["enumerate","zip","dict_itemiterator","dict_reverseitemiterator","odict_iterator","itertools.zip_longest","itertools.pairwise"].contains n && vs[0]? == some (rawInt _))=true then _ else _) Q E s
       rw [if_neg (by intro h;rw [hn,Bool.false_and] at h;cases h)]
       exact wpAny_pure hQ))
noncomputable def Itl (K:PySem.W.Frag) (a:Addr):It :=
 ⟨fun i H=>∃xs x,SqL K H a xs/\xs[i]?=some x,fun i H x H'=>H'=H/\∀xs,SqL K H a xs->xs[i]?=some x,fun i H=>∃xs,SqL K H a xs/\xs.length<=i⟩
noncomputable def Itt (K:PySem.W.Frag) (a:Addr):It :=
 ⟨fun i H=>∃xs x,SqT K H a xs/\xs[i]?=some x,fun i H x H'=>H'=H/\∀xs,SqT K H a xs->xs[i]?=some x,fun i H=>∃xs,SqT K H a xs/\xs.length<=i⟩
noncomputable def Itr (lo:Int) (n:Nat):It:=⟨fun i _=>i < n,fun i H x H'=>H'=H/\x=.int (lo + i),fun i _=>n<=i⟩
theorem sq {P:Program}{w:World}{K:PySem.W.Frag}{tg:Expr} (a it:Addr):Turn P w K tg (Itl K a) [it] it (fun i h=>h.IsListIter it a i) where
 mem:=by simp
 obj:=fun i h st b hb=>by
  have e:b=it:=by simpa using hb
  subst e
  obtain⟨o,e,c,d⟩:=st
  exact⟨o,e,fun v z=>by rw [d] at z;cases z⟩
 keep:=fun i h h' st k=>st.at fun o e=>k it (by simp) o e
 item:=by
  intro X hP hw hK hc i pins s σ H E I hf st hg
  subst hP hw hK
  obtain⟨xs,x,hq,hx⟩:=hg
  obtain⟨its,rv,p,hz⟩:=I.list hq
  obtain⟨u,hu,ru⟩:=rv.get hx
  obtain⟨f0,f1,f2,f3,f4,f5⟩:=hf it (by simp)
  refine wpAny_pyNext_list_item st p.isList (x:=u) (by simpa using hu) fun h' st' sb=>?_
  have I1:Inv X pins σ H { s with heap:=h' }:=I.turned (t':=s.toks) (fun b o hb e=>(sb.2 b hb).trans e) f0 f1 f3 f4 f5
  obtain⟨o,e,c,d⟩:=id st'
  exact⟨u,rfl,fS (s:={ s with heap:=h' }) e c d (by decide) ⟨x,H,I1,ru,⟨rfl,fun ys hy=>by rw [I.list_inj hy hq];exact hx⟩,st',fun b hb=>(hf b hb).1⟩⟩
 done:=by
  intro X hP hw hK hc i pins s σ H E I hf st hg
  subst hP hw hK
  obtain⟨xs,hq,hx⟩:=hg
  obtain⟨its,rv,p,hz⟩:=I.list hq
  obtain⟨f0,f1,f2,f3,f4,f5⟩:=hf it (by simp)
  have hl:=rv.length
  exact wpAny_pyNext_list_end (I.ok.hd hc) st p.isList (by simp;omega) fun h' eb=>⟨rfl,I.turned (t':=s.toks) (fun b o hb e=>eb b o hb e) f0 f1 f3 f4 f5⟩
 self:=fun _ _ _ _ _ st h=>wpAny_pyIter_listiter st h
theorem rg {P:Program}{w:World}{K:PySem.W.Frag}{tg:Expr} (a it:Addr):Turn P w K tg (Itt K a) [it] it (fun i h=>h.IsTupleIter it a i) where
 mem:=by simp
 obj:=fun i h st b hb=>by
  have e:b=it:=by simpa using hb
  subst e
  obtain⟨o,e,c,d⟩:=st
  exact⟨o,e,fun v z=>by rw [d] at z;cases z⟩
 keep:=fun i h h' st k=>st.at fun o e=>k it (by simp) o e
 item:=by
  intro X hP hw hK hc i pins s σ H E I hf st hg
  subst hP hw hK
  obtain⟨xs,x,hq,hx⟩:=hg
  obtain⟨its,rv,p,hz⟩:=I.tuple hq
  obtain⟨u,hu,ru⟩:=rv.get hx
  obtain⟨f0,f1,f2,f3,f4,f5⟩:=hf it (by simp)
  refine wpAny_pyNext_tuple_item st (show s.heap.IsTuple a its.toArray from p) (x:=u) (by simpa using hu) fun h' st' sb=>?_
  have I1:Inv X pins σ H { s with heap:=h' }:=I.turned (t':=s.toks) (fun b o hb e=>(sb.2 b hb).trans e) f0 f1 f3 f4 f5
  obtain⟨o,e,c,d⟩:=id st'
  exact⟨u,rfl,fS (s:={ s with heap:=h' }) e c d (by decide) ⟨x,H,I1,ru,⟨rfl,fun ys hy=>by rw [I.tuple_inj hy hq];exact hx⟩,st',fun b hb=>(hf b hb).1⟩⟩
 done:=by
  intro X hP hw hK hc i pins s σ H E I hf st hg
  subst hP hw hK
  obtain⟨xs,hq,hx⟩:=hg
  obtain⟨its,rv,p,hz⟩:=I.tuple hq
  obtain⟨f0,f1,f2,f3,f4,f5⟩:=hf it (by simp)
  have hl:=rv.length
  exact wpAny_pyNext_tuple_end (I.ok.hd hc) st (show s.heap.IsTuple a its.toArray from p) (by simp;omega) fun h' eb=>⟨rfl,I.turned (t':=s.toks) (fun b o hb e=>eb b o hb e) f0 f1 f3 f4 f5⟩
 self:=fun _ _ _ _ _ st h=>wpAny_pyIter_tupleiter st h
theorem rG {P:Program}{w:World}{K:PySem.W.Frag}{tg:Expr} (it:Addr) (lo:Int) (n:Nat):Turn P w K tg (Itr lo n) [it] it (fun i h=>IsRangeIter h it (lo + (i:Nat) * 1) ((n:Int) - (i:Nat)) 1) where
 mem:=by simp
 obj:=fun i h st b hb=>by
  have e:b=it:=by simpa using hb
  subst e
  exact⟨_,st,fun v z=>by
   have z':Data.fields _=Data.cell v:=z
   cases z'⟩
 keep:=fun i h h' st k=>k it (by simp) _ st
 item:=by
  intro X hP hw hK hc i pins s σ H E I hf st hg
  subst hP hw hK
  obtain⟨f0,f1,f2,f3,f4,f5⟩:=hf it (by simp)
  have W:=Walks.range (prog:=X.prog) (w:=X.w) (I.ok.hd hc) it lo 1 n
  refine W.item i s _ _ hg st fun v h' tk hv st' kk=>?_
  obtain⟨t,rfl⟩:=hv
  have I1:Inv X pins σ H { s with heap:=h',toks:=tk }:=I.turned (fun b o hb e=>kk b o (by simpa using hb) e) f0 f1 f3 f4 f5
  refine⟨_,rfl,fS (s:={ s with heap:=h',toks:=tk }) (n:="range_iterator") st' rfl rfl (by decide) ⟨.int (lo + i),H,I1,⟨t,?_⟩,⟨rfl,rfl⟩,st',fun b hb=>(hf b hb).1⟩⟩
  rw [Int.mul_one]
 done:=by
  intro X hP hw hK hc i pins s σ H E I hf st hg
  subst hP hw hK
  obtain⟨f0,f1,f2,f3,f4,f5⟩:=hf it (by simp)
  exact wpAny_pyNext_range_end (I.ok.hd hc) st (by have:n<=i:=hg;omega) fun h' eb=>⟨rfl,I.turned (t':=s.toks) (fun b o hb e=>eb b o hb e) f0 f1 f3 f4 f5⟩
 self:=fun _ _ _ _ _ st h=>wpAny_pyIter_rangeiter st h
section
variable {X:Cx}{tg:Expr}
noncomputable def oZ (K:PySem.W.Frag) (tl:TE):TI:=fun σ H R=>tl σ H fun x H1=>∃a,x=.ref a/\(∃xs,SqL K H1 a xs)/\R (Itl K a) H1
noncomputable def pe (K:PySem.W.Frag) (tl:TE):TI:=fun σ H R=>tl σ H fun x H1=>∃a,x=.ref a/\(∃xs,SqT K H1 a xs)/\R (Itt K a) H1
theorem dh {l:Expr}{tl:TE} (hl:PE X l tl):PI X tg l (oZ X.K tl):=by
 intro pins s σ H R I h
 refine thn (hl pins s σ H _ I h) fun v s1 ⟨x,H1,I1,r1,q1⟩=>?_
 obtain⟨a,e,⟨xs,hq⟩,q⟩:=q1
 subst e
 cases r1
 obtain⟨its,rv,p,hz⟩:=I1.list hq
 refine wpAny_pyIter_list p.isList ?_
 refine⟨s1.heap.objs.size,[s1.heap.objs.size],_,_,H1,rfl,I1.kept (t':=s1.toks) fun b o e=>Heap.get?_push_of_some _ e,sq a _,⟨_,Heap.get?_push_size _ rfl,rfl,rfl⟩,fun b hb=>?_,q⟩
 have e:b=s1.heap.objs.size:=by simpa using hb
 subst e
 exact I1.fpOk (Nat.le_refl _) (I1.hok.fresh (Nat.le_refl _))
theorem cJ {l:Expr}{tl:TE} (hl:PE X l tl):PI X tg l (pe X.K tl):=by
 intro pins s σ H R I h
 refine thn (hl pins s σ H _ I h) fun v s1 ⟨x,H1,I1,r1,q1⟩=>?_
 obtain⟨a,e,⟨xs,hq⟩,q⟩:=q1
 subst e
 cases r1
 obtain⟨its,rv,p,hz⟩:=I1.tuple hq
 refine wpAny_pyIter_tuple (show s1.heap.IsTuple a its.toArray from p) ?_
 refine⟨s1.heap.objs.size,[s1.heap.objs.size],_,_,H1,rfl,I1.kept (t':=s1.toks) fun b o e=>Heap.get?_push_of_some _ e,rg a _,⟨_,Heap.get?_push_size _ rfl,rfl,rfl⟩,fun b hb=>?_,q⟩
 have e:b=s1.heap.objs.size:=by simpa using hb
 subst e
 exact I1.fpOk (Nat.le_refl _) (I1.hok.fresh (Nat.le_refl _))
theorem mT {pins:List (Addr×Obj)}{σ:St}{H:Hp}{s:Shared}{R:It->Hp->Prop}{E:Value->Shared->Prop}{lo hi:Int}{t u v:Tok}{tk:Nat} (I:Inv X pins σ H s) (h1:-(2 ^ 62)<=lo) (h2:lo < 2 ^ 62) (h3:-(2 ^ 62)<=hi) (h4:hi < 2 ^ 62)
  (q:R (Itr lo (hi - lo).toNat) H):wpAny (model X.prog X.w) X.A (pyIter (.ref s.heap.objs.size)) (PIE X pins σ tg R) E { s with heap:=s.heap.push { cls:=.type "range",data:=.fields #[.int lo t,.int hi u,.int 1 v] },toks:=tk }:=by
 refine wpAny_pyIter_range (IsRange.new ..) (small_one h1 h2 h3 h4) ?_
 have I1:Inv X pins σ H { s with heap:=s.heap.push { cls:=.type "range",data:=.fields #[.int lo t,.int hi u,.int 1 v] },toks:=tk }:=I.kept fun b o e=>Heap.get?_push_of_some _ e
 refine⟨(s.heap.push { cls:=.type "range",data:=.fields #[.int lo t,.int hi u,.int 1 v] }).objs.size,[(s.heap.push { cls:=.type "range",data:=.fields #[.int lo t,.int hi u,.int 1 v] }).objs.size],_,_,H,rfl,
  I1.kept (t':=tk) fun b o e=>Heap.get?_push_of_some _ e,rG _ lo (hi - lo).toNat,?_,fun b hb=>?_,q⟩
 ·have e1:lo + ((0:Nat):Int) * 1=lo:=by simp
  have e2:(((hi - lo).toNat:Nat):Int) - ((0:Nat):Int)=Builtin.Range.rangeSize lo hi 1:=by rw [rangeSize_one];split <;> omega
  show IsRangeIter _ _ (lo + ((0:Nat):Int) * 1) ((((hi - lo).toNat:Nat):Int) - ((0:Nat):Int)) 1
  rw [e1,e2]
  exact Heap.get?_push_size _ rfl
 ·have e:b=(s.heap.push { cls:=.type "range",data:=.fields #[.int lo t,.int hi u,.int 1 v] }).objs.size:=by simpa using hb
  subst e
  exact I1.fpOk (Nat.le_refl _) (I1.hok.fresh (Nat.le_refl _))
noncomputable def xt (ta:TA):TI:=fun σ H R=>ta σ H fun vs H1=>∃j:Int,vs=[.int j]/\-(2 ^ 62)<=j/\j < 2 ^ 62/\R (Itr 0 j.toNat) H1
noncomputable def xo (ta:TA):TI:=fun σ H R=>ta σ H fun vs H1=>∃i j:Int,vs=[.int i,.int j]/\(-(2 ^ 62)<=i/\i < 2 ^ 62/\-(2 ^ 62)<=j/\j < 2 ^ 62)/\R (Itr i (j - i).toNat) H1
theorem eY {a:Expr}{ta:TA}{p pos:Pos} (hg:Gl X "range") (hm:X.mg "range"=none) (ha:PA X [a] ta) (hs:starEach [a] X.env=[(false,eval a X.env)]:=by rfl):PI X tg (.Call (.Name "range" p) [a] [] pos) (xt ta):=by
 intro pins s σ H R I h
 refine Call_ (fi I hg hm boot_range (PyProof.Rows.callWith_type1 (thn (ha pos pins s σ H _ I h) fun us s1 ⟨vs,H1,I1,r1,q1⟩=>?_) hs rfl))
 obtain⟨j,e,q1,q2,q⟩:=q1
 subst e
 cases r1 with
 | cons r rr =>
  cases rr
  obtain⟨t,rfl⟩:=r
  exact call_range_1 (mT I1 (by omega) (by omega) q1 q2 (by simpa using q))
theorem je {a b:Expr}{ta:TA}{p pos:Pos} (hg:Gl X "range") (hm:X.mg "range"=none) (ha:PA X [a,b] ta) (hs:starEach [a,b] X.env=[(false,eval a X.env),(false,eval b X.env)]:=by rfl) (hs2:starEach [b] X.env=[(false,eval b X.env)]:=by rfl) :
  PI X tg (.Call (.Name "range" p) [a,b] [] pos) (xo ta):=by
 intro pins s σ H R I h
 refine Call_ (fi I hg hm boot_range (PyProof.Rows.callWith_type1 (thn (ha pos pins s σ H _ I h) fun us s1 ⟨vs,H1,I1,r1,q1⟩=>?_) (by rw [hs,hs2]) (by rw [hs2];rfl)))
 obtain⟨i,j,e,⟨q1,q2,q3,q4⟩,q⟩:=q1
 subst e
 cases r1 with
 | cons r rr =>
  cases rr with
  | cons r' rr =>
   cases rr
   obtain⟨t,rfl⟩:=r
   obtain⟨t',rfl⟩:=r'
   exact call_range_2 (mT I1 q1 q2 q3 q4 q)
noncomputable def pT (wi:TI) (g:TG) (tb:TS):TS:=fun D σ H=>wi σ H fun J H1=>∃W:Nat->Nat->St->Hp->Prop,(∃m,W 0 m σ H1)/\∀i m σ H,W i m σ H ->
 (J.stop i H/\D.nx σ H)\/(J.go i H/\∃N:St->Hp->Prop,(∀σ' H',N σ' H'->∃m',m' < m/\W (i + 1) m' σ' H')/\∀x H',J.yld i H x H'->g x σ H' fun σ2 H2=>tb { D with nx:=N,ct:=N,bk:=D.nx } σ2 H2)
noncomputable def cY (fp:List Addr) (h:Heap):List (Addr×Obj):=fp.filterMap fun b=>(h.get? b).map fun o=>(b,o)
theorem cT {fp:List Addr}{h:Heap}{b:Addr}{o:Obj} (hb:b∈fp) (e:h.get? b=some o):(b,o)∈cY fp h:=List.mem_filterMap.mpr ⟨b,hb,by rw [e];rfl⟩
theorem lu {fp:List Addr}{h:Heap}{p:Addr×Obj} (hp:p∈cY fp h):p.1∈fp/\h.get? p.1=some p.2:=by
 obtain⟨b,hb,e⟩:=List.mem_filterMap.mp hp
 cases q:h.get? b with
 | none=>rw [q] at e;cases e
 | some o =>
  rw [q] at e
  have e':(b,o)=p:=Option.some.inj e
  subst e'
  exact⟨hb,q⟩
theorem Inv.pinned {pins:List (Addr×Obj)}{σ:St}{H:Hp}{s:Shared}{fp:List Addr} (I:Inv X pins σ H s) (hf:∀b∈fp,bJ X pins H b) (ho:∀b∈fp,∃o,s.heap.get? b=some o/\∀v,o.data≠.cell v):Inv X (pins++cY fp s.heap) σ H s :=
 I.pins_of fun p hp=>(List.mem_append.mp hp).elim (fun z=>I.pin p (List.mem_append_right _ z)) fun z=>by
  obtain⟨hb,e⟩:=lu z
  obtain⟨f0,f1,f2,_⟩:=hf p.1 hb
  obtain⟨o,e',d⟩:=ho p.1 hb
  rw [e] at e';cases e'
  exact⟨e,f0,f1,f2,d⟩
theorem Inv.unpinned {pins pl:List (Addr×Obj)}{σ:St}{H:Hp}{s:Shared} (I:Inv X (pins++pl) σ H s):Inv X pins σ H s:=I.pins_of fun p hp=>I.pin p (List.mem_append_right _ (List.mem_append_left _ hp))
theorem dm {iter:Expr}{body:List Stmt}{wi:TI}{g:TG}{tb:TS}{pos:Pos} (hp:PassesOwn (model X.prog X.w) X.A X.env X.xe) (hc:X.calm=true) (hi:PI X tg iter wi) (hg:PG X tg g) (hb:PSs X body tb)
  (hs:∀x,foldedSetIterable iter X.env x=pure x:=by intro _;rfl):PS X (.For tg iter body [] pos) (pT wi g tb):=by
 intro pins s σ H D I h
 refine wpAny_For (thn (hi pins s σ H _ I h) fun v s1 h1=>thn h1 fun itv s2 h2=>?_) hs
 obtain⟨it,fp,tn,J,H2,e,I2,T,st2,f2,W,⟨m0,w0⟩,turn⟩:=h2
 subst e
 have stat:∀{H':Hp},(∀b∈fp,H' b=none)->∀b∈fp,bJ X pins H' b:=fun hn b hb=>⟨hn b hb,(f2 b hb).2⟩
 refine codeAny_forLoop_any (fun n s'=>∃i σ' H',Inv X pins σ' H' s'/\tn i s'.heap/\(∀b∈fp,H' b=none)/\W i n σ' H') ?_ m0 ⟨0,σ,H2,I2,st2,fun b hb=>(f2 b hb).1,w0⟩
 rintro n s3 ⟨i,σ3,H3,I3,st3,fr3,w3⟩
 rcases turn i n σ3 H3 w3 with ⟨stop,qn⟩ | ⟨go,N,hN,step⟩
 ·refine wpAny_passesOwn hp (thn (T.done X rfl rfl rfl hc i pins s3 σ3 H3 X.xe I3 (stat fr3) st3 stop) fun r s4 ⟨hr,I4⟩=>?_)
  subst hr
  exact wpAny_execs_nil ⟨σ3,H3,I4,qn⟩
 ·refine wpAny_passesOwn hp (thn (T.item X rfl rfl rfl hc i pins s3 σ3 H3 X.xe I3 (stat fr3) st3 go) fun r s4 ⟨u,hr,h4⟩=>?_)
  subst hr
  refine wpAny_passesOwn hp (thn h4 fun _ s5 ⟨x,H5,I5,r5,y5,st5,fr5⟩=>?_)
  have I5':=I5.pinned (stat fr5) (T.obj _ _ st5)
  refine wpAny_passesOwn hp (thn (hg _ s5 σ3 H5 x u _ I5' r5 (step x H5 y5)) fun _ s6 ⟨σ6,H6,I6,q6⟩=>?_)
  refine wpAny_passesOwn hp (thn (hb _ s6 σ6 H6 _ I6 q6) fun f s7 q7=>?_)
  have again:∀{σ7:St}{H7:Hp},Inv X (pins++cY fp s5.heap) σ7 H7 s7->N σ7 H7->∃m,m < n/\∃i σ' H',Inv X pins σ' H' s7/\tn i s7.heap/\(∀b∈fp,H' b=none)/\W i m σ' H':=fun {σ7 H7} I7 n7=>by
   obtain⟨m',hm,w7⟩:=hN σ7 H7 n7
   refine⟨m',hm,i + 1,σ7,H7,I7.unpinned,T.keep _ _ _ st5 fun b hb o e=>(I7.pin (b,o) (List.mem_append_right _ (List.mem_append_right _ (cT hb e)))).1,fun b hb=>?_,w7⟩
   obtain⟨o,e,d⟩:=T.obj _ _ st5 b hb
   exact (I7.pin (b,o) (List.mem_append_right _ (List.mem_append_right _ (cT hb e)))).2.1
  cases f with
  | next=>obtain⟨σ7,H7,I7,n7⟩:=q7;exact again I7 n7
  | cont=>obtain⟨σ7,H7,I7,n7⟩:=q7;exact again I7 n7
  | brk=>obtain⟨σ7,H7,I7,q7⟩:=q7;exact⟨σ7,H7,I7.unpinned,q7⟩
  | ret v=>obtain⟨x7,σ7,H7,I7,r7,q7⟩:=q7;exact⟨x7,σ7,H7,I7.unpinned,r7,q7⟩
end
theorem gs {K:PySem.W.Frag}{a:Addr}{xs:List V}{g:TG}{tb:TS}{D:Ends}{σ:St}{H:Hp} (Pv:Nat->St->Hp->Prop) (h0:Pv 0 σ H) (hl:∀i σ H,i<=xs.length->Pv i σ H->SqL K H a xs)
  (hs:∀i x σ H,xs[i]?=some x->Pv i σ H->g x σ H fun σ2 H2=>tb { D with nx:=Pv (i + 1),ct:=Pv (i + 1),bk:=D.nx } σ2 H2) (hd:∀σ H,Pv xs.length σ H->D.nx σ H) :
  ∃W:Nat->Nat->St->Hp->Prop,(∃m,W 0 m σ H)/\∀i m σ H,W i m σ H ->
   ((Itl K a).stop i H/\D.nx σ H)\/((Itl K a).go i H/\∃N:St->Hp->Prop,(∀σ' H',N σ' H'->∃m',m' < m/\W (i + 1) m' σ' H')/\∀x H',(Itl K a).yld i H x H'->g x σ H' fun σ2 H2=>tb { D with nx:=N,ct:=N,bk:=D.nx } σ2 H2):=by
 refine⟨fun i m σ H=>m=xs.length - i/\i<=xs.length/\Pv i σ H,⟨xs.length,by simp,Nat.zero_le _,h0⟩,?_⟩
 rintro i m σ H ⟨rfl,hi,p⟩
 have q:=hl i σ H hi p
 by_cases hlt:i < xs.length
 ·refine .inr ⟨⟨xs,xs[i],q,by simp [hlt]⟩,Pv (i + 1),fun σ' H' p'=>⟨xs.length - (i + 1),by omega,rfl,hlt,p'⟩,fun x H' y=>?_⟩
  obtain⟨e,y⟩:=y
  subst e
  exact hs i x σ _ (y xs q) p
 ·have e:i=xs.length:=by omega
  subst e
  exact .inl ⟨⟨xs,q,Nat.le_refl _⟩,hd σ H p⟩
theorem vV {K:PySem.W.Frag}{a:Addr}{xs:List V}{g:TG}{tb:TS}{D:Ends}{σ:St}{H:Hp} (Pv:Nat->St->Hp->Prop) (h0:Pv 0 σ H) (hl:∀i σ H,i<=xs.length->Pv i σ H->SqT K H a xs)
  (hs:∀i x σ H,xs[i]?=some x->Pv i σ H->g x σ H fun σ2 H2=>tb { D with nx:=Pv (i + 1),ct:=Pv (i + 1),bk:=D.nx } σ2 H2) (hd:∀σ H,Pv xs.length σ H->D.nx σ H) :
  ∃W:Nat->Nat->St->Hp->Prop,(∃m,W 0 m σ H)/\∀i m σ H,W i m σ H ->
   ((Itt K a).stop i H/\D.nx σ H)\/((Itt K a).go i H/\∃N:St->Hp->Prop,(∀σ' H',N σ' H'->∃m',m' < m/\W (i + 1) m' σ' H')/\∀x H',(Itt K a).yld i H x H'->g x σ H' fun σ2 H2=>tb { D with nx:=N,ct:=N,bk:=D.nx } σ2 H2):=by
 refine⟨fun i m σ H=>m=xs.length - i/\i<=xs.length/\Pv i σ H,⟨xs.length,by simp,Nat.zero_le _,h0⟩,?_⟩
 rintro i m σ H ⟨rfl,hi,p⟩
 have q:=hl i σ H hi p
 by_cases hlt:i < xs.length
 ·refine .inr ⟨⟨xs,xs[i],q,by simp [hlt]⟩,Pv (i + 1),fun σ' H' p'=>⟨xs.length - (i + 1),by omega,rfl,hlt,p'⟩,fun x H' y=>?_⟩
  obtain⟨e,y⟩:=y
  subst e
  exact hs i x σ _ (y xs q) p
 ·have e:i=xs.length:=by omega
  subst e
  exact .inl ⟨⟨xs,q,Nat.le_refl _⟩,hd σ H p⟩
theorem gW {lo:Int}{n:Nat}{g:TG}{tb:TS}{D:Ends}{σ:St}{H:Hp} (Pv:Nat->St->Hp->Prop) (h0:Pv 0 σ H)
  (hs:∀i σ H,i < n->Pv i σ H->g (.int (lo + i)) σ H fun σ2 H2=>tb { D with nx:=Pv (i + 1),ct:=Pv (i + 1),bk:=D.nx } σ2 H2) (hd:∀σ H,Pv n σ H->D.nx σ H) :
  ∃W:Nat->Nat->St->Hp->Prop,(∃m,W 0 m σ H)/\∀i m σ H,W i m σ H ->
   ((Itr lo n).stop i H/\D.nx σ H)\/((Itr lo n).go i H/\∃N:St->Hp->Prop,(∀σ' H',N σ' H'->∃m',m' < m/\W (i + 1) m' σ' H')/\∀x H',(Itr lo n).yld i H x H'->g x σ H' fun σ2 H2=>tb { D with nx:=N,ct:=N,bk:=D.nx } σ2 H2):=by
 refine⟨fun i m σ H=>m=n - i/\i<=n/\Pv i σ H,⟨n,by simp,Nat.zero_le _,h0⟩,?_⟩
 rintro i m σ H ⟨rfl,hi,p⟩
 by_cases hlt:i < n
 ·refine .inr ⟨hlt,Pv (i + 1),fun σ' H' p'=>⟨n - (i + 1),by omega,rfl,hlt,p'⟩,fun x H' y=>?_⟩
  obtain⟨e,y⟩:=y
  subst e y
  exact hs i σ _ hlt p
 ·have e:i=n:=by omega
  subst e
  exact .inl ⟨Nat.le_refl _,hd σ H p⟩
noncomputable abbrev R2:=V->V->Hp->VK->Prop
noncomputable def OpR (X:Cx) (f:Value->Value->Sem Value) (r:R2):Prop :=
 ∀(pins:List (Addr×Obj)) (s:Shared) (σ:St) (H:Hp) (x y:V) (v u:Value) (Q:VK),Inv X pins σ H s->RelV x v->RelV y u->r x y H Q ->
  wpAny (model X.prog X.w) X.A (f v u) (EP X pins σ Q) X.xe s
noncomputable def UnR (X:Cx) (f:Value->Sem Value) (r:V->Hp->VK->Prop):Prop :=
 ∀(pins:List (Addr×Obj)) (s:Shared) (σ:St) (H:Hp) (x:V) (v:Value) (Q:VK),Inv X pins σ H s->RelV x v->r x H Q ->
  wpAny (model X.prog X.w) X.A (f v) (EP X pins σ Q) X.xe s
noncomputable def bX (X:Cx) (f:Value) (r:List V->Hp->VK->Prop):Prop :=
 ∀(pins:List (Addr×Obj)) (s:Shared) (σ:St) (H:Hp) (xs:List V) (us:List Value) (Q:VK),Inv X pins σ H s->av xs us->r xs H Q ->
  wpAny (model X.prog X.w) X.A (call f us) (EP X pins σ Q) X.xe s
noncomputable def tOp (r:R2) (ta tb:TE):TE:=fun σ H Q=>ta σ H fun x H1=>tb σ H1 fun y H2=>r x y H2 Q
noncomputable def tUn (r:V->Hp->VK->Prop) (ta:TE):TE:=fun σ H Q=>ta σ H fun x H1=>r x H1 Q
noncomputable def rI (C:Int->Int->Prop) (g:Int->Int->V):R2:=fun x y H Q=>∃i j,x=.int i/\y=.int j/\C i j/\Q (g i j) H
noncomputable def rI0 (g:Int->Int->V):R2:=fun x y H Q=>∃i j,x=.int i/\y=.int j/\Q (g i j) H
noncomputable def rU (g:Int->V):V->Hp->VK->Prop:=fun x H Q=>∃i,x=.int i/\Q (g i) H
section
variable {X:Cx}{a b c:Expr}{ta tb tc:TE}{pos:Pos}
theorem km (ha:PE X a ta) (hb:PE X b tb) {pins:List (Addr×Obj)}{s:Shared}{σ:St}{H:Hp}{R:V->V->Hp->Prop} (I:Inv X pins σ H s)
  (h:ta σ H fun x H1=>tb σ H1 fun y H2=>R x y H2) {Q:Value->Shared->Prop}{f:Value->Value->Sem Value}
  (hf:∀v u s2 x y H2,Inv X pins σ H2 s2->RelV x v->RelV y u->R x y H2->wpAny (model X.prog X.w) X.A (f v u) Q X.xe s2) :
  wpAny (model X.prog X.w) X.A (eval a X.env) (fun v s₁=>wpAny (model X.prog X.w) X.A (eval b X.env) (fun u s₂=>wpAny (model X.prog X.w) X.A (f v u) Q X.xe s₂) X.xe s₁) X.xe s:=by
 refine thn (ha pins s σ H _ I h) fun v s1 ⟨x,H1,I1,r1,q1⟩=>?_
 refine thn (hb pins s1 σ H1 _ I1 q1) fun u s2 ⟨y,H2,I2,r2,q2⟩=>?_
 exact hf v u s2 x y H2 I2 r1 r2 q2
theorem aF {op:Operator}{r:R2} (ho:OpR X (binaryOp op) r) (ha:PE X a ta) (hb:PE X b tb):PE X (.BinOp a op b pos) (tOp r ta tb):=by
 intro pins s σ H Q I h
 exact wpAny_BinOp (km ha hb I h fun v u s2 x y H2 I2 rx ry q=>ho pins s2 σ H2 x y v u Q I2 rx ry q)
theorem gI {op:UnaryOp}{r:V->Hp->VK->Prop} (ho:UnR X (unaryOp op) r) (ha:PE X a ta):PE X (.UnaryOp op a pos) (tUn r ta):=by
 intro pins s σ H Q I h
 exact UnaryOp_ (thn (ha pins s σ H _ I h) fun v s1 ⟨x,H1,I1,r1,q1⟩=>ho pins s1 σ H1 x v Q I1 r1 q1)
theorem opI {f:Value->Value->Sem Value}{C:Int->Int->Prop}{g:Int->Int->Int}
  (rule:∀(i j:Int) (t u:Tok) (s:Shared) (Q:Value->Shared->Prop) (E:Value->Shared->Prop),C i j->Q (.int (g i j) s.toks) { s with toks:=s.toks + 1 }->wpAny (model X.prog X.w) X.A (f (.int i t) (.int j u)) Q E s) :
  OpR X f (rI C fun i j=>.int (g i j)):=by
 intro pins s σ H x y v u Q I rx ry h
 obtain⟨i,j,rfl,rfl,hc,q⟩:=h
 obtain⟨t,rfl⟩:=rx
 obtain⟨t',rfl⟩:=ry
 exact rule i j t t' s _ _ hc ⟨.int (g i j),H,I.tok _,⟨_,rfl⟩,q⟩
theorem pZ {f:Value->Value->Sem Value}{g:Int->Int->Int}
  (rule:∀(i j:Int) (t u:Tok) (s:Shared) (Q:Value->Shared->Prop) (E:Value->Shared->Prop),Q (.int (g i j) s.toks) { s with toks:=s.toks + 1 }->wpAny (model X.prog X.w) X.A (f (.int i t) (.int j u)) Q E s) :
  OpR X f (rI0 fun i j=>.int (g i j)):=by
 intro pins s σ H x y v u Q I rx ry h
 obtain⟨i,j,rfl,rfl,q⟩:=h
 obtain⟨t,rfl⟩:=rx
 obtain⟨t',rfl⟩:=ry
 exact rule i j t t' s _ _ ⟨.int (g i j),H,I.tok _,⟨_,rfl⟩,q⟩
theorem kK {f:Value->Value->Sem Value}{g:Int->Int->Bool}
  (rule:∀(i j:Int) (t u:Tok) (s:Shared) (Q:Value->Shared->Prop) (E:Value->Shared->Prop),Q (.bool (g i j)) s->wpAny (model X.prog X.w) X.A (f (.int i t) (.int j u)) Q E s) :
  OpR X f (rI0 fun i j=>.bl (g i j)):=by
 intro pins s σ H x y v u Q I rx ry h
 obtain⟨i,j,rfl,rfl,q⟩:=h
 obtain⟨t,rfl⟩:=rx
 obtain⟨t',rfl⟩:=ry
 exact rule i j t t' s _ _ ⟨.bl (g i j),H,I,rfl,q⟩
noncomputable def pY (i j:Int):Prop:=0 < j/\j < 1073741824
noncomputable def kh (i j:Int):Prop:=0<=j/\j<=1000000/\i.natAbs < 2 ^ 64
noncomputable def kq (i j:Int):Prop:=(-(2 ^ 64) < i/\i < 2 ^ 64)\/(-(2 ^ 64) < j/\j < 2 ^ 64)
theorem kq.ok {i j:Int} (h:kq i j):IntMulOk i j:=by
 rcases h with ⟨h1,h2⟩ | ⟨h1,h2⟩
 ·exact .of_left (intBits_le_64 h1 h2)
 ·exact .of_right (intBits_le_64 h1 h2)
theorem cO:OpR X (binaryOp .Add) (rI0 fun i j=>.int (i + j)):=pZ fun _ _ _ _ _ _ _ q=>add_int q
theorem dS:OpR X (binaryOp .Sub) (rI0 fun i j=>.int (i - j)):=pZ fun _ _ _ _ _ _ _ q=>sub_int q
theorem gE:OpR X (binaryOp .Mult) (rI kq fun i j=>.int (i * j)):=opI fun _ _ _ _ _ _ _ hc q=>mul_int q hc.ok
theorem jA:OpR X (binaryOp .FloorDiv) (rI pY fun i j=>.int (i / j)):=opI fun i j _ _ _ _ _ hc q=>by
 have h1:(0:Int) < j:=hc.1
 have h2:j < 1073741824:=hc.2
 exact floordiv_int (by omega) (by rw [Int.fdiv_eq_ediv_of_nonneg i (by omega)];exact q) (.inl (PyProof.noPylong_small (by omega)))
theorem fg:OpR X (binaryOp .Mod) (rI (fun _ j=>0 < j) fun i j=>.int (i % j)):=opI fun i j _ _ _ _ _ hc q=>by
 have h1:(0:Int) < j:=hc
 exact mod_int' (by omega) (by rw [Int.fmod_eq_emod_of_nonneg i (by omega)];exact q)
theorem jS:OpR X (binaryOp .Pow) (rI kh fun i j=>.int (i ^ j.toNat)):=opI fun _ _ _ _ _ _ _ hc q=>pow_int_small hc.1 hc.2.1 hc.2.2 q
theorem unI {f:Value->Sem Value}{g:Int->Int}
  (rule:∀(i:Int) (t:Tok) (s:Shared) (Q:Value->Shared->Prop) (E:Value->Shared->Prop),Q (.int (g i) s.toks) { s with toks:=s.toks + 1 }->wpAny (model X.prog X.w) X.A (f (.int i t)) Q E s) :
  UnR X f (rU fun i=>.int (g i)):=by
 intro pins s σ H x v Q I rx h
 obtain⟨i,rfl,q⟩:=h
 obtain⟨t,rfl⟩:=rx
 exact rule i t s _ _ ⟨.int (g i),H,I.tok _,⟨_,rfl⟩,q⟩
theorem gC:UnR X (unaryOp .USub) (rU fun i=>.int (-i)):=unI fun _ _ _ _ _ q=>neg_int q
end
noncomputable def ph:V->V->Bool
 | .non,.non=>true | .non,.int _=>true | .int _,.non=>true | .non,.bl _=>true | .bl _,.non=>true | .non,.str _=>true | .str _,.non=>true
 | .int _,.int _=>true | .bl _,.bl _=>true | .str _,.str _=>true | .byt _,.byt _=>true
 | .int _,.str _=>true | .str _,.int _=>true | .bl _,.str _=>true | .str _,.bl _=>true
 | _,_=>false
noncomputable def rEq:R2:=fun x y H Q=>ph x y=true/\Q (.bl (decide (x=y))) H
noncomputable def rNe:R2:=fun x y H Q=>ph x y=true/\Q (.bl (!decide (x=y))) H
theorem nO {i j:Int}:decide (V.int i=V.int j)=(i == j):=by
 rw [Bool.eq_iff_iff]
 simp
theorem nY {i j:Bool}:decide (V.bl i=V.bl j)=(i == j):=by
 rw [Bool.eq_iff_iff]
 simp
theorem nN {i j:Str}:decide (V.str i=V.str j)=(i == j):=by
 rw [Bool.eq_iff_iff]
 simp
theorem nP {i j:Array UInt8}:decide (V.byt i=V.byt j)=(i.toList == j.toList):=by
 rw [Bool.eq_iff_iff]
 cases i
 cases j
 simp
section
variable {X:Cx}{a b c:Expr}{ta tb tc:TE}{pos:Pos}
theorem bv {pins:List (Addr×Obj)}{σ:St}{H:Hp}{s:Shared}{Q:VK}{k k':Bool} (I:Inv X pins σ H s) (q:Q (.bl k) H) (e:k=k'):EP X pins σ Q (.bool k') s:=by
 subst e
 exact⟨.bl k,H,I,rfl,q⟩
theorem dG:OpR X (compareOp .Eq) rEq:=by
 intro pins s σ H x y v u Q I rx ry h
 obtain⟨hs,q⟩:=h
 cases x with
 | non =>
  cases rx
  cases y with
  | non=>cases ry;exact PySem.EqNone.eq_none_none (bv I q (by simp))
  | bl j=>cases ry;exact PySem.EqNone.eq_none_bool (bv I q (by simp))
  | int j=>obtain⟨t',rfl⟩:=ry;exact PySem.EqNone.eq_none_int (bv I q (by simp))
  | str j=>obtain⟨t',rfl⟩:=ry;exact PySem.EqNone.eq_none_str (bv I q (by simp))
  | _=>exact absurd (show false=true from hs) Bool.false_ne_true
 | bl i =>
  cases rx
  cases y with
  | non=>cases ry;exact PySem.EqNone.eq_bool_none (bv I q (by simp))
  | bl j=>cases ry;exact eq_bool (bv I q nY)
  | str j=>obtain⟨t',rfl⟩:=ry;exact PySem.EqMixed.eq_bool_str (bv I q (by simp))
  | _=>exact absurd (show false=true from hs) Bool.false_ne_true
 | int i =>
  obtain⟨t,rfl⟩:=rx
  cases y with
  | non=>cases ry;exact PySem.EqNone.eq_int_none (bv I q (by simp))
  | int j=>obtain⟨t',rfl⟩:=ry;exact eq_int (bv I q nO)
  | str j=>obtain⟨t',rfl⟩:=ry;exact PySem.EqMixed.eq_int_str (bv I q (by simp))
  | _=>exact absurd (show false=true from hs) Bool.false_ne_true
 | str i =>
  obtain⟨t,rfl⟩:=rx
  cases y with
  | non=>cases ry;exact PySem.EqNone.eq_str_none (bv I q (by simp))
  | bl j=>cases ry;exact PySem.EqMixed.eq_str_bool (bv I q (by simp))
  | int j=>obtain⟨t',rfl⟩:=ry;exact PySem.EqMixed.eq_str_int (bv I q (by simp))
  | str j=>obtain⟨t',rfl⟩:=ry;exact eq_str (bv I q nN)
  | _=>exact absurd (show false=true from hs) Bool.false_ne_true
 | byt i =>
  obtain⟨t,rfl⟩:=rx
  cases y with
  | byt j=>obtain⟨t',rfl⟩:=ry;exact PySem.W.eq_bytes (bv I q nP)
  | _=>exact absurd (show false=true from hs) Bool.false_ne_true
 | _=>cases y <;> exact absurd (show false=true from hs) Bool.false_ne_true
theorem cf:OpR X (compareOp .NotEq) rNe:=by
 intro pins s σ H x y v u Q I rx ry h
 obtain⟨hs,q⟩:=h
 cases x with
 | non =>
  cases rx
  cases y with
  | non=>cases ry;exact PySem.EqNone.ne_none_none (bv I q (by simp))
  | bl j=>cases ry;exact PySem.EqNone.ne_none_bool (bv I q (by simp))
  | int j=>obtain⟨t',rfl⟩:=ry;exact PySem.EqNone.ne_none_int (bv I q (by simp))
  | str j=>obtain⟨t',rfl⟩:=ry;exact PySem.EqNone.ne_none_str (bv I q (by simp))
  | _=>exact absurd (show false=true from hs) Bool.false_ne_true
 | bl i =>
  cases rx
  cases y with
  | non=>cases ry;exact PySem.EqNone.ne_bool_none (bv I q (by simp))
  | bl j=>cases ry;exact ne_bool (bv I q (congrArg not nY))
  | str j=>obtain⟨t',rfl⟩:=ry;exact PySem.EqMixed.ne_bool_str (bv I q (by simp))
  | _=>exact absurd (show false=true from hs) Bool.false_ne_true
 | int i =>
  obtain⟨t,rfl⟩:=rx
  cases y with
  | non=>cases ry;exact PySem.EqNone.ne_int_none (bv I q (by simp))
  | int j=>obtain⟨t',rfl⟩:=ry;exact ne_int (bv I q (congrArg not nO))
  | str j=>obtain⟨t',rfl⟩:=ry;exact PySem.EqMixed.ne_int_str (bv I q (by simp))
  | _=>exact absurd (show false=true from hs) Bool.false_ne_true
 | str i =>
  obtain⟨t,rfl⟩:=rx
  cases y with
  | non=>cases ry;exact PySem.EqNone.ne_str_none (bv I q (by simp))
  | bl j=>cases ry;exact PySem.EqMixed.ne_str_bool (bv I q (by simp))
  | int j=>obtain⟨t',rfl⟩:=ry;exact PySem.EqMixed.ne_str_int (bv I q (by simp))
  | str j=>obtain⟨t',rfl⟩:=ry;exact ne_str (bv I q (congrArg not nN))
  | _=>exact absurd (show false=true from hs) Bool.false_ne_true
 | byt i =>
  obtain⟨t,rfl⟩:=rx
  cases y with
  | byt j=>obtain⟨t',rfl⟩:=ry;exact PySem.W.ne_bytes (bv I q (congrArg not nP))
  | _=>exact absurd (show false=true from hs) Bool.false_ne_true
 | _=>cases y <;> exact absurd (show false=true from hs) Bool.false_ne_true
theorem oY:OpR X (compareOp .Lt) (rI0 fun i j=>.bl (decide (i < j))):=kK fun _ _ _ _ _ _ _ q=>lt_int q
theorem dX:OpR X (compareOp .LtE) (rI0 fun i j=>.bl (decide (i<=j))):=kK fun _ _ _ _ _ _ _ q=>le_int q
theorem eP:OpR X (compareOp .Gt) (rI0 fun i j=>.bl (decide (j < i))):=kK fun _ _ _ _ _ _ _ q=>gt_int q
theorem lC:OpR X (compareOp .Lt) (fun x y H Q=>∃i j,x=.str i/\y=.str j/\Q (.bl (decide (i.cps.toList < j.cps.toList))) H):=by
 intro pins s σ H x y v u Q I rx ry h
 obtain⟨i,j,rfl,rfl,q⟩:=h
 obtain⟨t,rfl⟩:=rx
 obtain⟨t',rfl⟩:=ry
 exact lt_str (bv I q rfl)
theorem aT (b:Expr) {op:CmpOp} (h:op≠.In:=by decide) (h2:op≠.NotIn:=by decide):behindInMarks op b=false:=by
 have e1:(op == CmpOp.In)=false:=by cases op <;> first | rfl | exact absurd rfl h
 have e2:(op == CmpOp.NotIn)=false:=by cases op <;> first | rfl | exact absurd rfl h2
 cases b <;> simp [behindInMarks,e1,e2]
theorem dC {op:CmpOp}{r:R2} (ho:OpR X (compareOp op) r) (ha:PE X a ta) (hb:PE X b tb) (hm:behindInMarks op b=false):PE X (.Compare a [op] [b] pos) (tOp r ta tb):=by
 intro pins s σ H Q I h
 exact wpAny_Compare1 (km ha hb I h fun v u s2 x y H2 I2 rx ry q=>ho pins s2 σ H2 x y v u Q I2 rx ry q) hm
noncomputable def oQ (t:TE):TT:=fun σ H Q=>t σ H fun x H'=>∃k,x=.bl k/\Q k H'
theorem aV {op:CmpOp}{r:R2} (ho:OpR X (compareOp op) r) (ha:PE X a ta) (hb:PE X b tb) (hm:behindInMarks op b=false):PT X (.Compare a [op] [b] pos) (oQ (tOp r ta tb)):=by
 intro pins s σ H Q I h
 refine wpAny_isTrue_Compare1 (thn (ha pins s σ H _ I h) fun v s1 ⟨x,H1,I1,r1,q1⟩=>thn (hb pins s1 σ H1 _ I1 q1) fun u s2 ⟨y,H2,I2,r2,q2⟩ =>
  thn (ho pins s2 σ H2 x y v u _ I2 r1 r2 q2) fun c s3 ⟨z,H3,I3,r3,k,e,q3⟩=>?_) hm
 subst e
 cases r3
 exact wpAny_truthy_bool ⟨H3,I3,q3⟩
noncomputable def oA (r r':R2) (ta tb tc:TE):TE:=fun σ H Q=>ta σ H fun x H1=>tb σ H1 fun y H2=>r x y H2 fun z H3=>∃k,z=.bl k /\
 (if k=true then tc σ H3 fun w' H4=>r' y w' H4 Q else Q (.bl false) H3)
theorem mF {op op':CmpOp}{r r':R2} (ho:OpR X (compareOp op) r) (ho':OpR X (compareOp op') r') (ha:PE X a ta) (hb:PE X b tb) (hc:PE X c tc)
  (hm:lastMarks [op,op'] [b,c]=false:=by with_unfolding_all rfl):PE X (.Compare a [op,op'] [b,c] pos) (oA r r' ta tb tc):=by
 intro pins s σ H Q I h
 refine Compare_chain (thn (ha pins s σ H _ I h) fun v s1 ⟨x,H1,I1,r1,q1⟩=>chain_link (thn (hb pins s1 σ H1 _ I1 q1) fun u s2 ⟨y,H2,I2,r2,q2⟩ =>
  thn (ho pins s2 σ H2 x y v u _ I2 r1 r2 q2) fun d s3 ⟨z,H3,I3,r3,k,e,q3⟩=>?_)) hm
 subst e
 cases r3
 refine wpAny_truthy_bool ?_
 cases k with
 | false=>exact ite_ff ⟨.bl false,H3,I3,rfl,q3⟩
 | true=>exact ite_tt (chain_last (thn (hc pins s3 σ H3 _ I3 q3) fun w' s4 ⟨z',H4,I4,r4,q4⟩=>ho' pins s4 σ H4 y z' u w' Q I4 r2 r4 q4))
theorem fF {op op':CmpOp}{r r':R2} (ho:OpR X (compareOp op) r) (ho':OpR X (compareOp op') r') (ha:PE X a ta) (hb:PE X b tb) (hc:PE X c tc)
  (hm:lastMarks [op,op'] [b,c]=false:=by with_unfolding_all rfl):PT X (.Compare a [op,op'] [b,c] pos) (oQ (oA r r' ta tb tc)):=by
 intro pins s σ H Q I h
 refine isTrue_chain (thn (ha pins s σ H _ I h) fun v s1 ⟨x,H1,I1,r1,q1⟩=>test_link (thn (hb pins s1 σ H1 _ I1 q1) fun u s2 ⟨y,H2,I2,r2,q2⟩ =>
  thn (ho pins s2 σ H2 x y v u _ I2 r1 r2 q2) fun d s3 ⟨z,H3,I3,r3,k,e,q3⟩=>?_)) hm
 subst e
 cases r3
 refine wpAny_truthy_bool ?_
 cases k with
 | false =>
  obtain⟨k',e',q'⟩:=q3
  cases e'
  exact ite_ff ⟨H3,I3,q'⟩
 | true =>
  refine ite_tt (test_last (thn (hc pins s3 σ H3 _ I3 q3) fun w' s4 ⟨z',H4,I4,r4,q4⟩=>thn (ho' pins s4 σ H4 y z' u w' _ I4 r2 r4 q4) fun d' s5 ⟨z2,H5,I5,r5,k2,e2,q5⟩=>?_))
  subst e2
  cases r5
  exact wpAny_truthy_bool ⟨H5,I5,q5⟩
theorem fN:(sizeLine:Nat) < 2 ^ 63:=by rw [sizeLine_eq];decide
theorem eD:OpR X (binaryOp .Add) (fun x y H Q=>∃i j,x=.str i/\y=.str j/\i.length + j.length<=sizeLine/\Q (.str (i++j)) H):=by
 intro pins s σ H x y v u Q I rx ry h
 obtain⟨i,j,rfl,rfl,hz,q⟩:=h
 obtain⟨t,rfl⟩:=rx
 obtain⟨t',rfl⟩:=ry
 exact add_str (fun t' tk=>⟨.str (i++j),H,I.tok _,⟨_,rfl⟩,q⟩) hz
theorem vals1 {x:V}{us:List Value} (r:av [x] us):∃u,us=[u]/\RelV x u:=by
 cases r with
 | cons r1 r2=>cases r2;exact⟨_,rfl,r1⟩
theorem vals2 {x y:V}{us:List Value} (r:av [x,y] us):∃u w',us=[u,w']/\RelV x u/\RelV y w':=by
 cases r with
 | cons r1 r2 =>
  cases r2 with
  | cons r3 r4=>cases r4;exact⟨_,_,rfl,r1,r3⟩
theorem lS (hc:X.calm=true):bX X (.builtin "max") (fun xs H Q=>∃i j,xs=[.int i,.int j]/\Q (.int (if j > i then j else i)) H):=by
 intro pins s σ H xs us Q I r h
 obtain⟨i,j,rfl,q⟩:=h
 obtain⟨u,w',rfl,⟨t,rfl⟩,⟨t',rfl⟩⟩:=vals2 r
 refine max_two_ints (I.ok.hd hc) fun h' tk k=>⟨_,H,I.kept k,?_,q⟩
 by_cases hj:j > i
 ·rw [if_pos hj,if_pos hj];exact⟨_,rfl⟩
 ·rw [if_neg hj,if_neg hj];exact⟨_,rfl⟩
theorem lx (hc:X.calm=true):bX X (.builtin "min") (fun xs H Q=>∃i j,xs=[.int i,.int j]/\Q (.int (if j < i then j else i)) H):=by
 intro pins s σ H xs us Q I r h
 obtain⟨i,j,rfl,q⟩:=h
 obtain⟨u,w',rfl,⟨t,rfl⟩,⟨t',rfl⟩⟩:=vals2 r
 refine min_two_ints (I.ok.hd hc) fun h' tk k=>⟨_,H,I.kept k,?_,q⟩
 by_cases hj:j < i
 ·rw [if_pos hj,if_pos hj];exact⟨_,rfl⟩
 ·rw [if_neg hj,if_neg hj];exact⟨_,rfl⟩
theorem rW:bX X (.type "int") (fun xs H Q=>(∃i,xs=[.int i]/\Q (.int i) H)\/∃k,xs=[.bl k]/\Q (.int (if k then 1 else 0)) H):=by
 intro pins s σ H xs us Q I r h
 rcases h with ⟨i,rfl,q⟩ | ⟨k,rfl,q⟩
 ·obtain⟨u,rfl,t,rfl⟩:=vals1 r
  exact call_int_int ⟨.int i,H,I,⟨_,rfl⟩,q⟩
 ·obtain⟨u,rfl,r1⟩:=vals1 r
  cases r1
  exact call_int_bool ⟨.int (if k then 1 else 0),H,I.tok _,⟨_,rfl⟩,q⟩
theorem kQ:bX X (.type "str") (fun xs H Q=>∃i,xs=[.int i]/\i.natAbs.log2 < 1920/\Q (.str (toString i)) H):=by
 intro pins s σ H xs us Q I r h
 obtain⟨i,rfl,hz,q⟩:=h
 obtain⟨u,rfl,t,rfl⟩:=vals1 r
 exact PySem.P.str_of_int hz ⟨.str _,H,I.tok _,⟨_,rfl⟩,q⟩
theorem qJ:bX X (.builtin "divmod") (fun xs H Q=>∃i j,xs=[.int i,.int j]/\pY i j/\∀p,H p=none->Q (.ref p) (upd H p (.tup [.int (i / j),.int (i % j)]))):=by
 intro pins s σ H xs us Q I r h
 obtain⟨i,j,rfl,⟨h1,h2⟩,q⟩:=h
 obtain⟨u,w',rfl,⟨t,rfl⟩,⟨t',rfl⟩⟩:=vals2 r
 refine divmod_int (by omega) ?_ (.inl (PyProof.noPylong_small (by omega)))
 rw [Int.fdiv_eq_ediv_of_nonneg i (by omega),Int.fmod_eq_emod_of_nonneg i (by omega)]
 have hn:H s.heap.objs.size=none:=I.hok.fresh (Nat.le_refl _)
 refine⟨.ref s.heap.objs.size,_,?_,rfl,q _ hn⟩
 refine I.laid (fun b o e=>Heap.get?_push_of_some _ e) (Nat.le_refl _) ⟨by simp only [List.length_cons,List.length_nil];rw [sizeLine_eq];decide,[.int (i / j) s.toks,.int (i % j) (s.toks + 1)],.cons ⟨_,rfl⟩ (.cons ⟨_,rfl⟩ .nil),?_⟩
 exact⟨_,Heap.get?_push_size s.heap rfl,rfl,0,rfl⟩
end
structure kg (h:Heap) (x dx C:Addr) (mA:Str->Option Value):Prop where
 obj:h.get? x=some (PySem.W.instObj C dx)
 ns:h.Ns1 dx mA
 ne:dx≠x
theorem sR {h:Heap}{dx:Addr}{mA:Str->Option Value} (n:h.Ns1 dx mA):∃od,h.get? dx=some od/\∀name,PySem.W.lookIn name od=some (mA name):=by
 obtain⟨o,es,ep,ho,hd,hk,_,hm⟩:=n
 refine⟨o,ho,fun name=>?_⟩
 have e:=hm name
 unfold nsFind findBy at e
 rw [<- Array.find?_toList] at e
 unfold PySem.W.lookIn
 rw [hd]
 dsimp only
 split
 ·rename_i y q
  rw [q] at e
  exact congrArg some e
 ·rename_i q
  rw [q] at e
  have a:es.toList.any (·.refKey)=false:=by
   rw [List.any_eq_false]
   intro y hy
   obtain⟨z,t,hkey⟩:=hk y (Array.mem_toList_iff.mp hy)
   simp [DictEntry.refKey,hkey]
  have a':¬ es.toList.any (·.refKey)=true:=by rw [a];exact Bool.false_ne_true
  rw [if_neg a']
  exact congrArg some e
theorem kg.look {h:Heap}{x dx C:Addr}{mA:Str->Option Value} (I:kg h x dx C mA):∃od,PySem.W.InstAt h x (PySem.W.instObj C dx) C (some od)/\∀name,PySem.W.lookIn name od=some (mA name) :=
 let ⟨od,ho,hl⟩:=sR I.ns
 ⟨od,⟨I.obj,rfl,rfl,ho⟩,hl⟩
section
variable {prog:Program}{w:World}{A:Around}{E:Value->Shared->Prop}{s:Shared}{K:PySem.W.Frag}{x dx C f:Addr}{mA:Str->Option Value}{name:Str}{v:Value}
end
theorem dI.some_of {v:V}{o:Option Value} (r:dI (some v) o):∃u,o=some u/\RelV v u:=by
 cases o with
 | none=>exact (show False from r).elim
 | some u=>exact⟨u,rfl,r⟩
section
variable {P:Program}{w:World}{H H':Hp}{h h':Heap}{a C dx:Addr}{fs fs':List (Str×V)}
theorem vv (hok:HOk P w H h) (e:H a=some (.ins C dx fs)):∃mA,kg h a dx C mA/\(∀f,dI (fs.lookup f) (mA f))/\PySem.Within mA (fs.map (·.1))/\fs.length<=1000/\H dx=some (.own a):=by
 obtain⟨d,z,ne,ob,mA,n,r,q⟩:=(show aJ P w H h a (.ins C dx fs) from hok a _ e)
 exact⟨mA,⟨ob,n,ne⟩,r,q,z,d⟩
end
structure Cls (K:PySem.W.Frag) (C:Addr):Prop where
 pg:PySem.W.plainGet K C Str.empty=true
 hd:PySem.W.hasDictIn K C=true
 po:PySem.W.plainOver K C=true
 sa:PySem.W.findIn K (.ref C) "__setattr__"=some (some (.builtin "object.__setattr__"))
theorem Cls.get {K:PySem.W.Frag}{C:Addr} (c:Cls K C) (f:Str):PySem.W.plainGet K C f=true:=c.pg
structure Con (K:PySem.W.Frag) (C:Addr) (f:Str) (v:V) (u:Value):Prop where
 at_:PySem.W.findIn K (.ref C) f=some (some u)
 rel:RelV v u
 get:PySem.W.specialIn K u "__get__"=some none
 cp:PySem.W.copiedNames.contains f=false
structure yN (K:PySem.W.Frag) (C:Addr) (m:Str) (f:Addr):Prop where
 at_:PySem.W.findIn K (.ref C) m=some (some (.ref f))
 fn:PySem.W.isFn K (.ref f)=true
 kp:PySem.W.keepIn K (.ref f)=true
section
variable {X:Cx}{pins:List (Addr×Obj)}{σ:St}{H:Hp}{s:Shared}{a C dx:Addr}{fs:List (Str×V)}{f:Str}{v:V}{A:Around}{E:Value->Shared->Prop}
end
noncomputable def pC (X:Cx) (op:Operator) (rd:V->V->Hp->VK->Prop):Prop :=
 ∀(pins:List (Addr×Obj)) (s:Shared) (σ:St) (H:Hp) (x y:V) (u v:Value) (Q:VK),Inv X pins σ H s->RelV x u->RelV y v->rd x y H Q->wpAny (model X.prog X.w) X.A (inplaceOp op u v) (EP X pins σ Q) X.xe s
section
variable {X:Cx}{o e value:Expr}{f:Str}{pos pos' tpos:Pos}{ta tv:TE}
noncomputable def xV:V->V->Hp->VK->Prop:=fun x y H Q=>∃i j,x=.int i/\y=.int j/\Q (.int (i + j)) H
theorem wQ:pC X .Add xV:=by
 rintro pins s σ H x y u v Q I rx ry ⟨i,j,rfl,rfl,q⟩
 obtain⟨t,rfl⟩:=(show ∃t,u=Value.int i t from rx)
 obtain⟨t',rfl⟩:=(show ∃t',v=Value.int j t' from ry)
 exact PyProof.Rows.iadd_int ⟨.int (i + j),H,I.tok _,⟨_,rfl⟩,q⟩
end
section
variable {X:Cx}{pins:List (Addr×Obj)}{σ:St}{H:Hp}{s:Shared}{A:Around}{E:Value->Shared->Prop}{Q:Value->Shared->Prop}{c:Value}{b:Bool}
inductive de (K:PySem.W.Frag) (H:Hp):V->Value->Prop where
 | non:de K H .non (.type "NoneType")
 | bl (x:Bool):de K H (.bl x) (.type "bool")
 | int (i:Int):de K H (.int i) (.type "int")
 | str (x:Str):de K H (.str x) (.type "str")
 | flt (x:UInt64):de K H (.flt x) (.type "float")
 | lst {a:Addr}{xs:List V} (e:H a=some (.lst xs)):de K H (.ref a) (.type "list")
 | frz {a:Addr}{o:Obj}{xs:List V} (e:H a=some (.frz o (.lst xs))):de K H (.ref a) (.type "list")
 | tup {a:Addr}{xs:List V} (e:H a=some (.tup xs)):de K H (.ref a) (.type "tuple")
 | dK {a:Addr}{kvs:List (Key×V)} (e:H a=some (.dK kvs)):de K H (.ref a) (.type "dict")
 | dT {a:Addr}{kvs:List (List Key×V)} (e:H a=some (.dT kvs)):de K H (.ref a) (.type "dict")
 | ins {a C dx:Addr}{fs:List (Str×V)} (e:H a=some (.ins C dx fs)) (cl:Cls K C) (ha:PySem.W.findIn K (.ref C) "__class__"=some (some (.builtin "object.__class__")))
   (hn:PySem.W.specialIn K (.builtin "object.__class__") "__get__"=some (some (.builtin "getset_descriptor.__get__"))) (htk:PySem.W.takesIn K (.builtin "object.__class__")=some true)
   (hm:PySem.W.mroIn K C (.type "object")=some true):de K H (.ref a) (.ref C)
theorem sA {x:V}{u t:Value} (I:Inv X pins σ H s) (rx:RelV x u) (ty:de X.K H x t) (e:PySem.W.kitOne X.K t c=some b) (h:∀tk,Q (.bool b) { s with toks:=tk }) :
  wpAny (model X.prog X.w) A (call (.builtin "isinstance") [u,c]) Q E s:=by
 cases ty with
 | non=>cases (show u=Value.none from rx);exact PySem.W.kia_one PySem.W.kitx_none I.kIn True.intro e (fun z=>nomatch z) h
 | bl y=>cases (show u=Value.bool y from rx);exact PySem.W.kia_one PySem.W.kitx_bool I.kIn True.intro e (fun z=>nomatch z) h
 | int i=>obtain⟨t,q⟩:=(show ∃t,u=Value.int i t from rx);cases q;exact PySem.W.kia_one PySem.W.kitx_int I.kIn True.intro e (fun z=>nomatch z) h
 | str y=>obtain⟨t,q⟩:=(show ∃t,u=Value.str y t from rx);cases q;exact PySem.W.kia_one PySem.W.kitx_str I.kIn True.intro e (fun z=>nomatch z) h
 | flt y=>obtain⟨t,q⟩:=(show ∃t,u=Value.float y t from rx);cases q;exact PySem.W.kia_one PySem.W.kitx_float I.kIn True.intro e (fun z=>nomatch z) h
 | @lst a xs ea =>
  cases (show u=Value.ref a from rx)
  obtain⟨_,_,n,_,h1⟩:=(show aJ X.prog X.w H s.heap a (.lst xs) from I.hok a _ ea)
  exact PySem.W.kia_one PySem.W.kitx_list I.kIn ⟨_,h1,rfl⟩ e (fun z=>nomatch z) h
 | @frz a ob xs ea =>
  cases (show u=Value.ref a from rx)
  obtain⟨_,_,_,n,_,h1⟩:=(show aJ X.prog X.w H s.heap a (.frz ob (.lst xs)) from I.hok a _ ea)
  exact PySem.W.kia_one PySem.W.kitx_list I.kIn ⟨_,h1,rfl⟩ e (fun z=>nomatch z) h
 | @tup a xs ea =>
  cases (show u=Value.ref a from rx)
  obtain⟨_,_,_,p⟩:=(show aJ X.prog X.w H s.heap a (.tup xs) from I.hok a _ ea)
  obtain⟨o,h1,h2,_⟩:=p
  exact PySem.W.kia_one PySem.W.kitx_tuple I.kIn ⟨o,h1,h2⟩ e (fun z=>nomatch z) h
 | @dK a kvs ea =>
  cases (show u=Value.ref a from rx)
  obtain⟨_,_,vs,_,p⟩:=(show aJ X.prog X.w H s.heap a (.dK kvs) from I.hok a _ ea)
  obtain⟨o,es,ep,h1,h2,_⟩:=p
  exact PySem.W.kia_one PySem.W.kitx_dict I.kIn ⟨o,h1,h2.1⟩ e (fun z=>nomatch z) h
 | @dT a kvs ea =>
  cases (show u=Value.ref a from rx)
  obtain⟨_,_,xs,_,o,es,ep,h1,h2,_⟩:=(show aJ X.prog X.w H s.heap a (.dT kvs) from I.hok a _ ea)
  exact PySem.W.kia_one PySem.W.kitx_dict I.kIn ⟨o,h1,h2.1⟩ e (fun z=>nomatch z) h
 | @ins a C dx fs ea cl ha hn htk hm =>
  cases (show u=Value.ref a from rx)
  obtain⟨mA,O,_⟩:=vv I.hok ea
  obtain⟨od,J,_⟩:=O.look
  exact PySem.W.kia_one (PySem.W.kitx_own (cl.get _) cl.hd ha hn htk hm) I.kIn J e (fun z=>nomatch z) h
end
structure aK (k:Nat) (A:Around):Prop where
 hd:A.handled=none
 dp:A.depth + 3 * k + 5 < recursionLimit
 un:A.units + 16 * k + 200 < cLine
 gd:A.guards=some []
theorem aK.mono {j k:Nat}{A:Around} (r:aK k A) (h:j<=k):aK j A:=⟨r.hd,by have:=r.dp;omega,by have:=r.un;omega,r.gd⟩
theorem aK.deeper {k:Nat}{A:Around} (r:aK (k + 1) A) (env:Env):aK k (A.deeper env) :=
 ⟨r.hd,by have:=r.dp;show A.depth + 1 + 3 * k + 5 < _;omega,by have:=r.un;show A.units + 3 + 16 * k + 200 < _;omega,r.gd⟩
theorem aK.depth {k:Nat}{A:Around} (r:aK k A):A.depth < recursionLimit:=by have:=r.dp;omega
theorem aK.units {k:Nat}{A:Around} (r:aK k A):A.units + 64 < cLine:=by have:=r.un;omega
noncomputable def bx:TA:=fun _ H Q=>Q [] H
noncomputable def bQ (ta:TE) (tr:TA):TA:=fun σ H Q=>ta σ H fun x H1=>tr σ H1 fun xs H2=>Q (x::xs) H2
section
variable {X:Cx}{e:Expr}{es:List Expr}{te:TE}{t:TA}{pos:Pos}
theorem ag:PA X [] bx:=fun _ _ _ _ H Q I h=>Calls.spliced_nil ⟨[],H,I,.nil,h⟩
theorem ae (ha:PE X e te) (hr:PA X es t) (hs:starEach (e::es) X.env=(false,eval e X.env)::starEach es X.env:=by rfl):PA X (e::es) (bQ te t):=by
 intro pos pins s σ H Q I h
 rw [hs]
 show wpAny _ _ (spliced ((false,eval e X.env)::backTo pos (starEach es X.env))) _ _ s
 refine Calls.spliced_cons (thn (ha pins s σ H _ I h) fun u s1 ⟨x,H1,I1,r1,q1⟩=>?_)
 exact thn (hr pos pins s1 σ H1 _ I1 q1) fun us s2 ⟨xs,H2,I2,r2,q2⟩=>⟨x::xs,H2,I2,.cons r1 r2,q2⟩
noncomputable def iH (t:TA):TE:=fun σ H Q=>t σ H fun xs H1=>xs.length<=sizeLine/\∀p,H1 p=none->Q (.ref p) (upd H1 p (.tup xs))
noncomputable def fY (t:TA):TE:=fun σ H Q=>t σ H fun xs H1=>xs.length<=sizeLine/\∀p,H1 p=none->Q (.ref p) (upd H1 p (.lst xs))
theorem aE {x1} (h:PA X es t):PE X (.Tuple es x1 pos) (iH t):=by
 intro pins s σ H Q I hq
 refine wpAny_Tuple_spliced (thn (h pos pins s σ H _ I hq) fun us s1 ⟨xs,H1,I1,r,z,q⟩=>⟨by rw [<- r.length];exact z,?_⟩)
 have hf:H1 s1.heap.objs.size=none:=I1.hok.fresh (Nat.le_refl _)
 refine⟨.ref s1.heap.objs.size,upd H1 s1.heap.objs.size (.tup xs),I1.laid (t':=s1.toks) (fun b u e=>Heap.get?_push_of_some _ e) (Nat.le_refl _) ?_,rfl,q _ hf⟩
 exact⟨z,us,r,⟨_,Heap.get?_push_size _ rfl,rfl,_,rfl⟩⟩
theorem ba (h:PA X es t):PE X (.List es pos) (fY t):=by
 intro pins s σ H Q I hq
 refine wpAny_List_spliced (thn (h pos pins s σ H _ I hq) fun us s1 ⟨xs,H1,I1,r,z,q⟩=>⟨by rw [<- r.length];exact z,?_⟩)
 have hf:H1 s1.heap.objs.size=none:=I1.hok.fresh (Nat.le_refl _)
 refine⟨.ref s1.heap.objs.size,upd H1 s1.heap.objs.size (.lst xs),I1.laid (t':=s1.toks) (fun b u e=>Heap.get?_push_of_some _ e) (Nat.le_refl _) ?_,rfl,q _ hf⟩
 exact⟨z,us,0,r,Heap.get?_push_size _ rfl⟩
end
noncomputable abbrev Sp:=List V->Hp->VK->XK->Prop
noncomputable abbrev CXT:=List Env->Hp->Shared->XK->Value->Shared->Prop
structure fw (P:Program) (w:World) (K:PySem.W.Frag) (mg:Str->Option Value) (base:Heap) (A:Around) (outer:List Env) (s:Shared) (H:Hp):Prop where
 frames:A.frames=some outer
 mod:Mod K mg base
 bs:∀b o,base.get? b=some o->s.heap.get? b=some o/\H b=none
 bsz:base.objs.size<=s.heap.objs.size
 funs:s.heap.FunFrames base outer
 frf:∀b∈frs outer,H b=none
 hok:HOk P w H s.heap
 bare:AllBare s.gens
noncomputable def CE (outer:List Env) (P:Program) (w:World) (H:Hp) (s:Shared) (Q:VK) (u:Value) (s':Shared):Prop :=
 ∃v H',s'.os=s.os/\AllBare s'.gens/\Un (frs outer) [] H H' s.heap s'.heap/\HOk P w H' s'.heap/\RelV v u/\Q v H'
noncomputable def CR (CX:CXT) (outer:List Env) (P:Program) (w:World) (H:Hp) (s:Shared) (Q:VK) (E:XK) (r:Result) (s':Shared):Prop :=
 match r with
 | .ok (.ret u)=>CE outer P w H s Q u s'
 | .ok _=>False
 | .error e=>CX outer H s E e s'
structure aA (P:Program) (w:World) (K:PySem.W.Frag) (mg:Str->Option Value) (base:Heap) (CX:CXT) (k:Nat) (f:Addr) (fd:FuncData) (ps:List Str) (sp:Sp):Prop where
 len:∀vs H Q E,sp vs H Q E->vs.length=ps.length
 run:∀(A:Around) (outer:List Env) (s:Shared) (H:Hp) (args:Args) (us:List Value) (vs:List V) (Q:VK) (E:XK),aK k A->fw P w K mg base A outer s H->BindsTo s fd args (ps.zip us)->av vs us->sp vs H Q E ->
  codeAny (model P w) A (.call (.ref f) args) (CR CX outer P w H s Q E) s
theorem aA.imp {P:Program}{w:World}{K:PySem.W.Frag}{mg:Str->Option Value}{base:Heap}{CX:CXT}{k:Nat}{f:Addr}{fd:FuncData}{ps:List Str}{sp sp':Sp} (F:aA P w K mg base CX k f fd ps sp)
  (h:∀vs H Q E,sp' vs H Q E->sp vs H Q E):aA P w K mg base CX k f fd ps sp' :=
 ⟨fun vs H Q E q=>F.len vs H Q E (h _ _ _ _ q),fun A outer s H args us vs Q E hr he hb hv hs=>F.run A outer s H args us vs Q E hr he hb hv (h _ _ _ _ hs)⟩
section
variable {X:Cx}{pins:List (Addr×Obj)}{σ:St}{H:Hp}{s s':Shared}
theorem Inv.env0 (I:Inv X pins σ H s):fw X.prog X.w X.K X.mg X.base X.A X.stack s H :=
 ⟨I.ok.frames,I.ok.mod,I.bs,Nat.le_trans I.ok.bsz I.sz,I.stack,I.stkFree,I.hok,I.bare⟩
theorem Inv.after {Q:VK}{u:Value} (I:Inv X pins σ H s) (h:CE X.stack X.prog X.w H s Q u s'):EP X pins σ Q u s':=by
 obtain⟨v,H',os,bare,un,hok,r,q⟩:=h
 obtain⟨hh,g,d,t,os'⟩:=s'
 obtain rfl:os'=s.os:=os
 exact⟨v,H',I.call (h':=hh) (g':=g) (d':=d) (t':=t) (ch:=[]) un hok bare (fun b z=>absurd z (by simp)),r,q⟩
end
noncomputable def eA (sp:Sp) (dvs:List V) (E:XK) (t:TA):TE:=fun σ H Q=>t σ H fun vs H1=>sp (vs++dvs) H1 Q E
noncomputable def Binds (K:PySem.W.Frag) (fd:FuncData) (ps:List Str) (ds:List Value):Prop :=
 ∀(s:Shared) (us:List Value),K.In s.heap->(us++ds).length=ps.length->BindsTo s fd ⟨us,[]⟩ (ps.zip (us++ds))
theorem Binds.all {K:PySem.W.Frag}{fd:FuncData}{ps:List Str} (h:∀us:List Value,us.length=ps.length->bindArgs fd ⟨us,[]⟩=pure (ps.zip us)):Binds K fd ps []:=fun s us _ hl=>by
 rw [List.append_nil] at hl ⊢
 exact .of_eq (h us hl)
noncomputable def eM (CX:CXT) (X:Cx) (E:XK):Prop:=∀(pins:List (Addr×Obj)) (σ:St) (H:Hp) (s:Shared) (e:Value) (s':Shared),Inv X pins σ H s->CX X.stack H s E e s'->X.xe e s'
section
variable {X:Cx}{CX:CXT}{k:Nat}{f C:Addr}{fd:FuncData}{ps:List Str}{sp:Sp}{dvs:List V}{ds:List Value}{E:XK}{x m:Str}{p pos apos:Pos}{e o:Expr}{es:List Expr}{ta:TE}{t:TA}
theorem wY {pins:List (Addr×Obj)}{σ:St}{H:Hp}{s:Shared}{Q:VK}{us:List Value}{vs:List V} (F:aA X.prog X.w X.K X.mg X.base CX k f fd ps sp) (hr:aK k X.A) (hb:Binds X.K fd ps ds) (hd:av dvs ds) (hx:eM CX X E)
  (I:Inv X pins σ H s) (r:av vs us) (h:sp (vs++dvs) H Q E):wpAny (model X.prog X.w) X.A (call (.ref f) us) (EP X pins σ Q) X.xe s:=by
 have r2:av (vs++dvs) (us++ds):=r.append hd
 have hl:(us++ds).length=ps.length:=by rw [<- r2.length];exact F.len _ _ _ _ h
 refine wpAny_call (codeAny_mono (F.run X.A X.stack s H ⟨us,[]⟩ (us++ds) (vs++dvs) Q E hr I.env0 (hb s us I.kIn hl) r2 h) fun r s' hq=>?_)
 cases r with
 | error e=>exact hx pins σ H s e s' I hq
 | ok fl =>
  cases fl with
  | ret u=>exact I.after hq
  | next=>exact False.elim hq
  | brk=>exact False.elim hq
  | cont=>exact False.elim hq
theorem nc (F:aA X.prog X.w X.K X.mg X.base CX k f fd ps sp) (hr:aK k X.A) (hg:Gl X x) (hm:X.mg x=some (.ref f)) (hk:PySem.W.keepIn X.K (.ref f)=true) (hb:Binds X.K fd ps ds) (hd:av dvs ds) (hx:eM CX X E)
  (ha:PA X (e::es) t) (hdb:(x == ("__debug__":Str))=false:=by decide) (he:starEach (e::es) X.env=(false,eval e X.env)::starEach es X.env:=by rfl) (hpl:(backTo pos (starEach es X.env)).any (·.1)=false:=by rfl) :
  PE X (.Call (.Name x p) (e::es) [] pos) (eA sp dvs E t):=by
 intro pins s σ H Q I h
 refine wpAny_Call_Name_kw (fL I hg hm ?_ hdb)
 refine PySem.W.callWith_K (h₀:=X.base) I.ok.mod.kin hk (thn (ha pos pins s σ H _ I h) fun us s1 ⟨vs,H1,I1,r,q⟩=>⟨I1.kIn,?_⟩) he hpl
 exact wY F hr hb hd hx I1 r q
structure Mk (K:PySem.W.Frag) (C f:Addr):Prop where
 makes:PySem.W.makesIn K C=true
 init:PySem.W.findIn K (.ref C) "__init__"=some (some (.ref f))
 fn:PySem.W.isFn K (.ref f)=true
 kp:PySem.W.keepIn K (.ref C)=true
end
section
variable {X:Cx}{CX:CXT}{k:Nat}{f C:Addr}{fd:FuncData}{ps ks:List Str}{sp:Sp}{E:XK}{x m:Str}{p pos apos kpos:Pos}{e o:Expr}{es:List Expr}{kws:List Keyword}{te ta:TE}{t tk:TA}{nm:Option Str}
structure yG (K:PySem.W.Frag) (fd:FuncData) (ps ks:List Str) (g:List Value->List Value->List Value) (gV:List V->List V->List V):Prop where
 to:∀(s:Shared) (us ws:List Value),K.In s.heap->(g us ws).length=ps.length->BindsTo s fd ⟨us,ks.zip ws⟩ (ps.zip (g us ws))
 rel:∀{vs:List V}{us:List Value}{zs:List V}{ws:List Value},av vs us->av zs ws->av (gV vs zs) (g us ws)
variable {g:List Value->List Value->List Value}{gV:List V->List V->List V}
end
structure aL (N P:List Str) (sc:Scope):Prop where
 kind:sc.kind=.function
 co:sc.isCoroutine=false
 gen:sc.isGenerator=false
 nd:N.Nodup
 pre:N.take P.length=P
 par:∀x∈P,sc.names.lookup x=some .local\/sc.names.lookup x=some .cell
 nofree:∀y∈sc.names,y.2≠.free
theorem lM {kindOf:Str->Option NameKind}{x:Str}:∀{binds:List (Str×Value)}{m:Str->Option Value},(∀v,(x,v)∉binds)->bindL kindOf binds m x=m x
 | [],_,_=>rfl
 | (n,v)::r,m,h=>by
  unfold bindL
  rw [lM fun w hw=>h w (List.mem_cons_of_mem _ hw)]
  split
  ·have:x≠n:=by rintro rfl;exact h v List.mem_cons_self
   simp [this]
  ·rfl
theorem lQ {kindOf:Str->Option NameKind}{x:Str}:∀{binds:List (Str×Value)}{m:Str->Option Value},(∀v,(x,v)∉binds)->bindC kindOf binds m x=m x
 | [],_,_=>rfl
 | (n,v)::r,m,h=>by
  unfold bindC
  rw [lQ fun w hw=>h w (List.mem_cons_of_mem _ hw)]
  split
  ·rfl
  ·have:x≠n:=by rintro rfl;exact h v List.mem_cons_self
   simp [this]
theorem jd {kindOf:Str->Option NameKind}{x:Str}{v:Value}:∀{P:List Str}{vs:List Value}{i:Nat}{m:Str->Option Value},P.Nodup->P[i]?=some x->vs[i]?=some v->kindOf x=some .local ->
  bindL kindOf (P.zip vs) m x=some v
 | [],_,_,_,_,h,_,_=>by simp at h
 | _::_,[],_,_,_,_,h,_=>by simp at h
 | p::P,w::vs,0,m,nd,h1,h2,hk=>by
  simp at h1 h2;subst h1;subst h2
  show bindL kindOf ((p,w)::P.zip vs) m p=_
  unfold bindL
  rw [lM fun v hv=>(List.nodup_cons.mp nd).1 (List.of_mem_zip hv).1,if_pos hk]
  simp
 | p::P,w::vs,i + 1,m,nd,h1,h2,hk=>by
  show bindL kindOf ((p,w)::P.zip vs) m x=_
  unfold bindL
  exact jd (i:=i) (List.nodup_cons.mp nd).2 (by simpa using h1) (by simpa using h2) hk
theorem iX {kindOf:Str->Option NameKind}{x:Str}{v:Value}:∀{P:List Str}{vs:List Value}{i:Nat}{m:Str->Option Value},P.Nodup->P[i]?=some x->vs[i]?=some v->kindOf x≠some .local ->
  bindC kindOf (P.zip vs) m x=some v
 | [],_,_,_,_,h,_,_=>by simp at h
 | _::_,[],_,_,_,_,h,_=>by simp at h
 | p::P,w::vs,0,m,nd,h1,h2,hk=>by
  simp at h1 h2;subst h1;subst h2
  show bindC kindOf ((p,w)::P.zip vs) m p=_
  unfold bindC
  rw [lQ fun v hv=>(List.nodup_cons.mp nd).1 (List.of_mem_zip hv).1,if_neg hk]
  simp
 | p::P,w::vs,i + 1,m,nd,h1,h2,hk=>by
  show bindC kindOf ((p,w)::P.zip vs) m x=_
  unfold bindC
  exact iX (i:=i) (List.nodup_cons.mp nd).2 (by simpa using h1) (by simpa using h2) hk
noncomputable def start (N:List Str) (vs:List V):St:=vs.map some++List.replicate (N.length - vs.length) none
noncomputable def be (CX:CXT) (P:Program) (w:World) (K:PySem.W.Frag) (mg:Str->Option Value) (base:Heap) (N:List Str) (qual:Str) (scope:Scope) (f:Addr) (cd:Value) (A:Around) (outer:List Env) (s:Shared) (H:Hp) (E:XK):Cx where
 prog:=P
 w:=w
 K:=K
 mg:=mg
 base:=base
 A:=A.deeper (envOfC qual scope s.heap.objs.size f cd)
 N:=N
 s₀:=s
 H₀:=H
 env:=envOfC qual scope s.heap.objs.size f cd
 outer:=outer
 stack:=envOfC qual scope s.heap.objs.size f cd::outer
 ex:=[]
 calm:=true
 fn:=fun _=>true
 pn:=[]
 xe:=fun e s'=>wpAny (model P w) (A.deeper (envOfC qual scope s.heap.objs.size f cd)) (leaving (envOfC qual scope s.heap.objs.size f cd) e) (fun _ s''=>CX outer H s E e s'') (fun e' s''=>CX outer H s E e' s'') s'
theorem gZ {sc:Scope}{n:Nat}{x:Str} (h:sc.names.lookup x=some .cell):∃c,(cellsFrom n sc.names []).lookup x=some c:=by
 have q:=PySem.W.cellsFrom_some sc.names n [] (.inl h)
 exact Option.isSome_iff_exists.mp q
theorem tj {CX:CXT}{P:Program}{w:World}{K:PySem.W.Frag}{mg:Str->Option Value}{base:Heap}{N ps:List Str}{qual:Str}{scope:Scope}{f:Addr}{cd:Value}{A:Around}{outer:List Env}{s s1:Shared}{H:Hp}{E:XK}{us:List Value}{vs:List V}
  (S:aL N ps scope) (hd:A.handled=none) (e0:fw P w K mg base A outer s H) (hl:vs.length=ps.length) (r:av vs us)
  (x:InCallC s s.heap.objs.size (bindL (envOfC qual scope s.heap.objs.size f cd).kindOf (ps.zip us) fun _=>none) (cellsFrom (s.heap.objs.size + 1) scope.names []) (bindC (envOfC qual scope s.heap.objs.size f cd).kindOf (ps.zip us) fun _=>none) s1) :
  Inv (be CX P w K mg base N qual scope f cd A outer s H E) [] (start N vs) H s1:=by
 have hpl:ps.length<=N.length:=by have:=congrArg List.length S.pre;rw [List.length_take] at this;omega
 obtain⟨h1,tk,rfl,hk⟩:=x.done
 have noA:∀b:Addr,b∉(be CX P w K mg base N qual scope f cd A outer s H E).ex:=fun b z=>absurd (show b∈([]:List Addr) from z) (by simp)
 refine⟨⟨e0.mod,S.kind,rfl,rfl,Nat.le_refl _,fun y z c h1 h2=>?_,fun y hy=>?_,fun y c _ h=>?_,fun _=>hd,Around.frames_deeper e0.frames,.inr ⟨rfl,rfl⟩,fun b z=>absurd z (noA b),e0.bs,e0.bsz,fun b _ _=>noA b,fun b z=>absurd z (noA b),e0.funs,e0.frf⟩,
  rfl,e0.bare,Un.kept hk,⟨_,x.toInCall.ns,fun i y v h1 h2 h3=>?_⟩,fun y c h=>⟨_,x.cell y c h⟩,e0.hok.fresh (Nat.le_refl _),fun y c h=>?_,fun p hp=>absurd (show p∈([]:List (Addr×Obj)) from hp) (by simp),e0.hok.kept hk,?_⟩
 ·exact name_of_addr x.apart (PySem.mem_of_lookup h1) (PySem.mem_of_lookup h2)
 ·have hy:scope.names.lookup y=some .cell\/scope.names.lookup y=some .free:=hy
  rcases hy with hy | hy
  ·exact gZ hy
  ·exact absurd rfl (S.nofree _ (PySem.mem_of_lookup hy))
 ·exact Nat.le_of_lt (x.above y c (PySem.mem_of_lookup h))
 ·have hi:i < vs.length:=by
   unfold start at h2
   by_cases hi:i < vs.length
   ·exact hi
   ·rw [List.getElem?_append_right (by simpa using hi)] at h2
    rw [List.getElem?_replicate] at h2
    split at h2 <;> cases h2
  have ha:vs[i]?=some v:=by
   unfold start at h2
   rw [List.getElem?_append_left (by simpa using hi),List.getElem?_map] at h2
   cases e:vs[i]? with
   | none=>rw [e] at h2;cases h2
   | some a=>rw [e] at h2;cases h2;rfl
  obtain⟨u,hu,rv⟩:=r.get ha
  have hp:ps[i]?=some y:=by
   rw [<- S.pre,List.getElem?_take_of_lt (by omega)];exact h1
  have ndP:ps.Nodup:=by rw [<- S.pre];exact S.nd.sublist (List.take_sublist _ _)
  refine⟨u,rv,?_⟩
  rcases S.par y (List.mem_of_getElem? hp) with k | k
  ·exact .inl ⟨k,jd ndP hp hu k⟩
  ·obtain⟨c,e⟩:=gZ (n:=s.heap.objs.size + 1) k
   refine .inr ⟨.inl k,c,e,?_⟩
   have q:=x.cell y c e
   rw [iX ndP hp hu (by show scope.names.lookup y≠_;rw [k];decide)] at q
   exact q
 ·exact e0.hok.fresh (Nat.le_of_lt (x.above y c (PySem.mem_of_lookup h)))
 ·unfold start
  show _=N.length
  rw [List.length_append,List.length_map,List.length_replicate]
  omega
theorem pb {CX:CXT}{P:Program}{w:World}{K:PySem.W.Frag}{mg:Str->Option Value}{base:Heap}{k:Nat}{f:Addr}{name qual:Str}{params:Arguments}{body:List Stmt}{scope:Scope}{dV kV doc pm cdv ct oc:Value}{an od:Option Addr}
  {osl:Array (Option Value)}{N ps:List Str}{sp:Sp} (lk:K.lookup f=some ⟨oc,od,.func (PySem.W.fnOf name qual params body scope dV kV doc pm an cdv ct),osl⟩) (hcd:PySem.W.codeIn K cdv qual=true) (S:aL N ps scope)
  (len:∀vs H Q E,sp vs H Q E->vs.length=ps.length)
  (hbody:∀(A:Around) (outer:List Env) (s:Shared) (H:Hp) (vs:List V) (Q:VK) (E:XK),aK k (A.deeper (envOfC qual scope s.heap.objs.size f cdv))->sp vs H Q E ->
   ∃t,PSs (be CX P w K mg base N qual scope f cdv A outer s H E) body t/\t { nx:=fun _ H'=>Q .non H',rt:=Q } (start N vs) H) :
  aA P w K mg base CX (k + 1) f (PySem.W.fnOf name qual params body scope dV kV doc pm an cdv ct) ps sp:=by
 refine⟨len,fun A outer s H args us vs Q E hr e0 hb r hsp=>?_⟩
 have hl:=len _ _ _ _ hsp
 have KX:K.In s.heap:=e0.mod.kin.keeps fun b o e=>(e0.bs b o e).1
 have lim:s.heap.NoLimit:=e0.mod.nolimit.keeps fun b o e=>(e0.bs b o e).1
 have hkind:∀y∈ps.zip us,scope.names.lookup y.1=some .local\/(scope.names.lookup y.1=some .cell/\((cellsFrom (s.heap.objs.size + 1) scope.names []).lookup y.1).isSome=true):=fun ⟨n,v⟩ hy=>by
  rcases S.par n (List.of_mem_zip hy).1 with q | q
  ·exact .inl q
  ·exact .inr ⟨q,PySem.W.cellsFrom_some _ _ _ (.inl q)⟩
 refine codeAny_call_function hr.depth (KX _ _ lk) rfl S.co S.gen rfl (PySem.W.codeRec_of KX hcd) (hb _ _ _ _ ?_)
 refine wpAny_newFunctionEnv_cells S.kind hkind fun env he s1 x=>?_
 subst he
 refine⟨lim.keeps x.toInCall.keep,codeAny_func ?_⟩
 obtain⟨t,ht,hq⟩:=hbody A outer s H vs Q E (hr.deeper _) hsp
 have I:Inv (be CX P w K mg base N qual scope f cdv A outer s H E) [] (start N vs) H s1:=tj S hr.hd e0 hl r x
 refine wpAny_mono (ht [] s1 (start N vs) H _ I hq) (fun fl s' hs=>?_) fun e s' hs=>hs
 have fin:∀{σ':St}{H':Hp}{v:V}{u:Value},Inv (be CX P w K mg base N qual scope f cdv A outer s H E) [] σ' H' s'->RelV v u->Q v H'->CE outer P w H s Q u s' :=
  fun {σ' H' v u} J rv q=>⟨v,H',J.os,J.bare,J.base,J.hok,rv,q⟩
 cases fl with
 | ret u =>
  obtain⟨v,σ',H',J,rv,q⟩:=hs
  exact fin J rv q
 | next =>
  obtain⟨σ',H',J,q⟩:=hs
  exact fin (v:=V.non) (u:=Value.none) J rfl q
 | brk =>
  obtain⟨_,_,_,q⟩:=hs
  exact False.elim q
 | cont =>
  obtain⟨_,_,_,q⟩:=hs
  exact False.elim q
section
variable {X:Cx}{x:Str}{p pos:Pos}{e:Expr}{es:List Expr}{t:TA}{id T:String}{r:List V->Hp->VK->Prop}
noncomputable def tCB (r:List V->Hp->VK->Prop) (t:TA):TE:=fun σ H Q=>t σ H fun vs H1=>r vs H1 Q
theorem aC (hc:bX X (.builtin id) r) (hg:Gl X x) (hm:X.mg x=none) (hv:bootBuiltins x=some (.builtin id)) (ha:PA X (e::es) t) (hn:x≠"__name__":=by decide) (hdb:(x == ("__debug__":Str))=false:=by decide)
  (he:starEach (e::es) X.env=(false,eval e X.env)::starEach es X.env:=by rfl) (hpl:(backTo pos (starEach es X.env)).any (·.1)=false:=by rfl):PE X (.Call (.Name x p) (e::es) [] pos) (tCB r t):=by
 intro pins s σ H Q I h
 refine wpAny_Call_Name_kw (fi I hg hm hv ?_ hn hdb)
 exact PyProof.Rows.callWith_builtin1 (thn (ha pos pins s σ H _ I h) fun us s1 ⟨vs,H1,I1,r1,q1⟩=>hc pins s1 σ H1 vs us Q I1 r1 q1) he hpl
theorem dA (hc:bX X (.type T) r) (hg:Gl X x) (hm:X.mg x=none) (hv:bootBuiltins x=some (.type T)) (ha:PA X (e::es) t) (hn:x≠"__name__":=by decide) (hdb:(x == ("__debug__":Str))=false:=by decide)
  (he:starEach (e::es) X.env=(false,eval e X.env)::starEach es X.env:=by rfl) (hpl:(backTo pos (starEach es X.env)).any (·.1)=false:=by rfl):PE X (.Call (.Name x p) (e::es) [] pos) (tCB r t):=by
 intro pins s σ H Q I h
 refine wpAny_Call_Name_kw (fi I hg hm hv ?_ hn hdb)
 exact PyProof.Rows.callWith_type1 (thn (ha pos pins s σ H _ I h) fun us s1 ⟨vs,H1,I1,r1,q1⟩=>hc pins s1 σ H1 vs us Q I1 r1 q1) he hpl
end
end L2
namespace HT
open PySem PyProof.Rows
section
open PySem.SeqAt
open PySem.AutoSeq1 (wpAny_loadPart')
open PySem.MeetsSeq PySem.MeetsSeq2 PySem.MeetsSeq3
end
section
variable {prog:Program}{w:World}{A:Around}{E:Value->Shared->Prop}{s:Shared}
theorem yC {t b:Addr}{vs ws:List Value}{Q:Value->Shared->Prop} (ht:IsTup s.heap t vs.toArray) (hb:IsTup s.heap b ws.toArray) (hv:vs≠[])
  (h1:ws=[]->Q (.ref t) s) (h2:ws≠[]->Q (.ref s.heap.objs.size) { s with heap:=s.heap.push { cls:=.type "tuple",data:=.seq (vs++ws).toArray } })
  (hsz:vs.length + ws.length<=sizeLine):wpAny (model prog w) A (binaryOp .Add (.ref t) (.ref b)) Q E s:=by
 obtain⟨⟨cls,dd,data,sl⟩,ho,hc,n,hd⟩:=id ht
 obtain⟨⟨cls2,dd2,data2,sl2⟩,ho2,hc2,n2,hd2⟩:=id hb
 simp only at hc hd hc2 hd2
 subst hc hd hc2 hd2
 have e:vs.toArray++ws.toArray=(vs++ws).toArray:=by simp
 by_cases hw:ws=[]
 ·exact concat_meets ⟨_,ho,rfl⟩ ⟨_,ho2,rfl⟩ noFill_tuple_add seq_tuple_add PySem.F.slot_tuple_add PySem.F.entry_tuple_add (PySem.F.args_tuple_add_2 _ _)
   (tuple_addW1 t b vs.toArray ws.toArray n n2 dd dd2 sl sl2 (by simpa using hv) (by simp [hw])) ⟨ho,ho2,h1 hw⟩
 ·refine concat_meets ⟨_,ho,rfl⟩ ⟨_,ho2,rfl⟩ noFill_tuple_add seq_tuple_add PySem.F.slot_tuple_add PySem.F.entry_tuple_add (PySem.F.args_tuple_add_2 _ _)
   (tuple_addW2 t b vs.toArray ws.toArray n n2 dd dd2 sl sl2 (by simpa using hv) (by simpa using hw) (by rw [List.size_toArray,List.size_toArray];exact hsz)) ⟨ho,ho2,?_⟩
  rw [e]
  exact h2 hw
noncomputable def sIx (n d:Nat):Option Int->Nat
 | none=>d
 | some v=>if v < 0 then (v + (n:Int)).toNat else min v.toNat n
theorem xa (n d:Nat) (hd:d<=n) (o:Option Int):sIx n d o<=n:=by
 cases o with
 | none=>exact hd
 | some v =>
  show (if v < 0 then (v + (n:Int)).toNat else min v.toNat n)<=n
  by_cases hv:v < 0
  ·rw [if_pos hv];omega
  ·rw [if_neg hv];exact Nat.min_le_right _ _
theorem nM (v:Int) (n d:Nat):(if v < 0 then max (v + (n:Int)) 0 else min v (n:Int))=((sIx n d (some v):Nat):Int):=by
 show (if v < 0 then max (v + (n:Int)) 0 else min v (n:Int))=(((if v < 0 then (v + (n:Int)).toNat else min v.toNat n):Nat):Int)
 by_cases hv:v < 0
 ·simp only [if_pos hv];omega
 ·simp only [if_neg hv];omega
theorem rp (lo hi:Option Int) (n:Nat):Builtin.Slice.sliceAdjust lo hi 1 (n:Int)=(((sIx n 0 lo:Nat):Int),((sIx n n hi:Nat):Int)):=by
 have h1:¬ ((1:Int) < 0):=by omega
 unfold Builtin.Slice.sliceAdjust
 simp only [h1,if_false]
 refine Prod.ext ?_ ?_
 ·cases lo with
  | none=>rfl
  | some v=>exact nM v n 0
 ·cases hi with
  | none=>rfl
  | some v=>exact nM v n n
theorem rO (i j:Nat):Builtin.Slice.slicePlaces (i:Int) (j:Int) 1=j - i:=by
 unfold Builtin.Slice.slicePlaces
 have h1:(1:Int) > 0:=by omega
 simp only [h1,if_true,Int.ediv_one]
 split <;> omega
theorem k8 {v:Value}{o:Option Int}{Q:Option Int->Shared->Prop} (p:IsPart v o) (h:Q o s):wpAny (model prog w) A (Builtin.Slice.slicePartIndex v) Q E s:=by
 cases p with
 | none=>exact slicePart_none h
 | int i t=>exact slicePart_int h
theorem p4 {sl:Addr}{vl vu:Value}{lo hi:Option Int}{n:Nat}{Q:Int×Int×Nat->Shared->Prop} (hs:s.heap.IsSliceOf sl vl vu .none) (pl:IsPart vl lo) (pu:IsPart vu hi)
  (h:Q (((sIx n 0 lo:Nat):Int),1,sIx n n hi - sIx n 0 lo) s):wpAny (model prog w) A (Builtin.Slice.sliceApplied (.ref sl) (pure (n:Int))) Q E s:=by
 obtain⟨os,hos,hcs,hds⟩:=id hs
 unfold Builtin.Slice.sliceApplied Builtin.Slice.sliceFields
 refine wpAny_bind (wpAny_bind (wpAny_field hos hds (x:=vl) rfl (wpAny_bind (wpAny_field hos hds (x:=vu) rfl (wpAny_bind (wpAny_field hos hds (x:=.none) rfl (wpAny_pure ?_)))))))
 refine wpAny_bind (slicePart_none ?_)
 show wpAny _ _ (if ((1:Int) == 0)=true then _ else _) _ _ s
 rw [if_neg (by decide)]
 refine wpAny_bind (k8 pl (wpAny_bind (k8 pu (wpAny_bind (wpAny_pure ?_)))))
 show wpAny _ _ (match Builtin.Slice.sliceAdjust lo hi 1 (n:Int) with | (lo,hi)=>pure (lo,(1:Int),Builtin.Slice.slicePlaces lo hi 1)) _ _ s
 rw [rp lo hi n]
 show wpAny _ _ (pure (((sIx n 0 lo:Nat):Int),(1:Int),Builtin.Slice.slicePlaces ((sIx n 0 lo:Nat):Int) ((sIx n n hi:Nat):Int) 1)) _ _ s
 rw [rO]
 exact wpAny_pure h
theorem uR (xs:Array Value) (i k:Nat):((List.range k).filterMap fun (m:Nat)=>xs[((i:Int) + (m:Int) * 1).toNat]?).toArray=((xs.toList.drop i).take k).toArray:=by
 have e:(fun (m:Nat)=>xs[((i:Int) + (m:Int) * 1).toNat]?)=fun m=>xs[i + m]?:=by
  funext m
  have:((i:Int) + (m:Int) * 1).toNat=i + m:=by omega
  rw [this]
 rw [e]
 have:=pick_run xs i k
 rw [List.filterMap_map] at this
 have e2:((fun x=>xs[x]?) ∘ fun x=>i + x)=fun m=>xs[i + m]?:=rfl
 rw [e2] at this
 rw [this]
theorem yz {t sl:Addr}{items:Array Value}{vl vu:Value}{lo hi:Option Int}{Q:Value->Shared->Prop} (ht:IsTup s.heap t items) (hs:s.heap.IsSliceOf sl vl vu .none) (pl:IsPart vl lo) (pu:IsPart vu hi)
  (hw:¬ (sIx items.size 0 lo=0/\sIx items.size items.size hi=items.size))
  (h:Q (.ref s.heap.objs.size) { s with heap:=s.heap.push { cls:=.type "tuple",data:=.seq ((items.toList.drop (sIx items.size 0 lo)).take (sIx items.size items.size hi - sIx items.size 0 lo)).toArray } })
  (hsz:items.size<=sizeLine):wpAny (model prog w) A (getItem (.ref t) (.ref sl)) Q E s:=by
 have htake:sizeOk (.seq ((items.toList.drop (sIx items.size 0 lo)).take (sIx items.size items.size hi - sIx items.size 0 lo)).toArray):=by
  show ((items.toList.drop (sIx items.size 0 lo)).take (sIx items.size items.size hi - sIx items.size 0 lo)).toArray.size<=sizeLine
  rw [List.size_toArray,List.length_take,List.length_drop,Array.length_toList]
  omega
 have hj:sIx items.size items.size hi<=items.size:=xa _ _ (Nat.le_refl _) hi
 obtain⟨os,hos,hcs,hds⟩:=id hs
 have hTs:s.TypeIs (.ref sl) "slice":=⟨os,hos,hcs⟩
 unfold getItem
 try with_reducible refine wpAny_holding ?_
 first | refine wpAny_bind (wpAny_pure ?_) | skip
 refine wpAny_bind (wpAny_sequenceKey ht.typeIs (by decide) ?_)
 refine wpAny_bind (wpAny_callSpecial?_slot (name:=Str.ofString "__getitem__") ht.typeIs PyProof.Rows.slot_tuple_getitem
  (wpAny_call_entry PyProof.Rows.slot_tuple_getitem ht.typeIs entry_tuple_getitem ?_ (args_tuple_getitem _ _)))
 show wpAny _ _ (Builtin.Tuple.tupleItemsOf (.ref t) >>= _) _ _ s
 refine wpAny_bind (tupleItemsOf_ ht ?_)
 refine wpAny_bind (wpAny_typeOf hTs ?_)
 rw [if_pos (by decide)]
 refine wpAny_bind (p4 hs pl pu ?_)
 have hno:¬ ((((sIx items.size 0 lo:Nat):Int) == 0 && (1:Int) == 1 && (sIx items.size items.size hi - sIx items.size 0 lo) == items.size)=true):=by
  intro q
  rw [Bool.and_eq_true,Bool.and_eq_true] at q
  have q1:((sIx items.size 0 lo:Nat):Int)=0:=eq_of_beq q.1.1
  have q2:sIx items.size items.size hi - sIx items.size 0 lo=items.size:=eq_of_beq q.2
  exact hw ⟨by omega,by omega⟩
 show wpAny _ _ (if (((sIx items.size 0 lo:Nat):Int) == 0 && (1:Int) == 1 && (sIx items.size items.size hi - sIx items.size 0 lo) == items.size)=true then _ else _) _ _ s
 rw [if_neg hno,uR]
 first
  | exact wpAny_bind (m:=Builtin.Tuple.tupleExact _) (wpAny_newObj_type (wpAny_pure ⟨_,rfl,wpAny_pure h⟩) htake)
  | exact wpAny_bind (m:=Builtin.Tuple.tupleExact _) (wpAny_newObj_type (wpAny_bind (wpAny_pure (wpAny_pure ⟨_,rfl,wpAny_pure h⟩))) htake)
  | exact wpAny_bind (wpAny_bind (m:=Builtin.Tuple.tupleExact _) (wpAny_newObj_type (wpAny_pure (wpAny_pure ⟨_,rfl,wpAny_pure h⟩)) htake))
  | exact wpAny_bind (wpAny_bind (m:=Builtin.Tuple.tupleExact _) (wpAny_newObj_type (wpAny_pure ⟨_,rfl,wpAny_pure h⟩) htake))
end
end HT
namespace L2
open PySem PySem.Spec PyProof.Rows
noncomputable abbrev TO:=St->Hp->(Option Int->Hp->Prop)->Prop
noncomputable def PO (X:Cx) (e:Option Expr) (t:TO):Prop :=
 ∀(pins:List (Addr×Obj)) (s:Shared) (σ:St) (H:Hp) (Q:Option Int->Hp->Prop),Inv X pins σ H s->t σ H Q ->
  wpAny (model X.prog X.w) X.A (evalPart e X.env) (fun u s'=>∃o H',Inv X pins σ H' s'/\IsPart u o/\Q o H') X.xe s
noncomputable def nj:TO:=fun _ H Q=>Q none H
noncomputable def kc (t:TE):TO:=fun σ H Q=>t σ H fun x H1=>∃i,x=.int i/\Q (some i) H1
section
variable {X:Cx}{e:Expr}{te:TE}{lo hi:Option Expr}{tl th:TO}{pos p2:Pos}
theorem gA:PO X none nj:=by
 intro pins s σ H Q I h
 rw [evalPart_none]
 exact wpAny_pure ⟨none,H,I,.none,h⟩
theorem fK (h:PE X e te):PO X (some e) (kc te):=by
 intro pins s σ H Q I hw
 rw [evalPart_some]
 refine thn (h pins s σ H _ I hw) fun u s1 ⟨x,H1,I1,r1,q1⟩=>?_
 obtain⟨i,rfl,q⟩:=q1
 obtain⟨t,rfl⟩:=r1
 exact⟨some i,H1,I1,.int i t,q⟩
noncomputable def SlR (X:Cx) (r:V->Option Int->Option Int->Hp->VK->Prop):Prop :=
 ∀(pins:List (Addr×Obj)) (s:Shared) (σ:St) (H:Hp) (x:V) (v vl vu:Value) (lo hi:Option Int) (sl:Addr) (Q:VK),Inv X pins σ H s->RelV x v->s.heap.IsSliceOf sl vl vu .none->IsPart vl lo->IsPart vu hi->r x lo hi H Q ->
  ∃T id,typeLookup (.type T) "__getitem__"=pure (some (.builtin id))/\s.TypeIs v T/\wpAny (model X.prog X.w) X.A (getItem v (.ref sl)) (EP X pins σ Q) X.xe s
noncomputable def tSl (r:V->Option Int->Option Int->Hp->VK->Prop) (te:TE) (tl th:TO):TE:=fun σ H Q=>te σ H fun x H1=>tl σ H1 fun l H2=>th σ H2 fun u H3=>r x l u H3 Q
theorem gk {r:V->Option Int->Option Int->Hp->VK->Prop} (hr:SlR X r) (he:PE X e te) (hl:PO X lo tl) (hu:PO X hi th):PE X (.Subscript e (.Slice lo hi none p2) pos) (tSl r te tl th):=by
 intro pins s σ H Q I h
 refine Subscript_ (thn (he pins s σ H _ I h) fun v s1 ⟨x,H1,I1,r1,q1⟩=>?_)
 refine wpAny_Slice (thn (hl pins s1 σ H1 _ I1 q1) fun vl s2 ⟨l,H2,I2,pl,q2⟩=>thn (hu pins s2 σ H2 _ I2 q2) fun vu s3 ⟨u,H3,I3,pu,q3⟩=>?_)
 rw [evalPart_none]
 refine wpAny_pure ?_
 have I4:Inv X pins σ H3 { s3 with heap:=s3.heap.push { cls:=.type "slice",data:=.fields #[vl,vu,.none] } }:=I3.kept (t':=s3.toks) fun b ob q=>Heap.get?_push_of_some _ q
 obtain⟨T,id,hT,ht,hg⟩:=hr pins { s3 with heap:=s3.heap.push { cls:=.type "slice",data:=.fields #[vl,vu,.none] } } σ H3 x v vl vu l u s3.heap.objs.size Q I4 r1 (Heap.IsSliceOf.new ..) pl pu q3
 show wpAny (model X.prog X.w) X.A (subscriptTail e (.Slice lo hi none p2) v (.ref s3.heap.objs.size)) (EP X pins σ Q) X.xe { s3 with heap:=s3.heap.push { cls:=.type "slice",data:=.fields #[vl,vu,.none] } }
 exact tail_any (ops:=[.ref s3.heap.objs.size,v]) ht hT hg (by with_unfolding_all rfl)
noncomputable def cz (xs:List V) (lo hi:Option Int):List V:=(xs.drop (HT.sIx xs.length 0 lo)).take (HT.sIx xs.length xs.length hi - HT.sIx xs.length 0 lo)
theorem kX (xs:List V) (lo hi:Option Int):(cz xs lo hi).length<=xs.length:=by
 unfold cz
 rw [List.length_take,List.length_drop]
 omega
noncomputable def ym (K:PySem.W.Frag):V->Option Int->Option Int->Hp->VK->Prop:=fun x lo hi H Q=>∃a xs,x=.ref a/\SqT K H a xs /\
 ¬ (HT.sIx xs.length 0 lo=0/\HT.sIx xs.length xs.length hi=xs.length)/\∀p,H p=none->Q (.ref p) (upd H p (.tup (cz xs lo hi)))
theorem wU:SlR X (ym X.K):=by
 intro pins s σ H x v vl vu lo hi sl Q I rx hs pl pu h
 obtain⟨a,xs,rfl,hx,hw,q⟩:=h
 cases rx
 obtain⟨its,r,ht,hz⟩:=I.tuple hx
 have hlen:its.toArray.size=xs.length:=by rw [List.size_toArray];exact r.length.symm
 refine⟨"tuple",_,PyProof.Rows.slot_tuple_getitem.lookup,ht.typeIs,?_⟩
 refine HT.yz ht hs pl pu (by rw [hlen];exact hw) ?_ (by rw [hlen];exact hz)
 rw [hlen]
 refine⟨.ref s.heap.objs.size,_,I.laid (t':=s.toks) (o:=.tup (cz xs lo hi)) (fun b ob q=>Heap.get?_push_of_some _ q) (Nat.le_refl _) ?_,rfl,q _ (I.hok.fresh (Nat.le_refl _))⟩
 exact⟨Nat.le_trans (kX xs lo hi) hz,_,(r.drop (HT.sIx xs.length 0 lo)).take (HT.sIx xs.length xs.length hi - HT.sIx xs.length 0 lo),IsTup.new _ _⟩
noncomputable def xp (K:PySem.W.Frag):R2:=fun x y H Q=>∃a b xs ys,x=.ref a/\y=.ref b/\SqT K H a xs/\SqT K H b ys/\xs≠[]/\xs.length + ys.length<=sizeLine /\
 (ys=[]->Q (.ref a) H)/\(ys≠[]->∀p,H p=none->Q (.ref p) (upd H p (.tup (xs++ys))))
theorem av.nil_iff {xs:List V}{us:List Value} (r:av xs us):us=[] ↔ xs=[]:=by
 cases r with
 | nil=>simp
 | cons _ _=>simp
theorem wt:OpR X (binaryOp .Add) (xp X.K):=by
 intro pins s σ H x y v u Q I rx ry h
 obtain⟨a,b,xs,ys,rfl,rfl,ha,hb,hx,hz,q1,q2⟩:=h
 cases rx
 cases ry
 obtain⟨its,r1,p1,_⟩:=I.tuple ha
 obtain⟨its2,r2,p2,_⟩:=I.tuple hb
 refine HT.yC p1 p2 (fun z=>hx (r1.nil_iff.mp z)) (fun z=>⟨.ref a,H,I,rfl,q1 (r2.nil_iff.mp z)⟩) (fun z=>?_) (by rw [<- r1.length,<- r2.length];exact hz)
 refine⟨.ref s.heap.objs.size,_,I.laid (t':=s.toks) (o:=.tup (xs++ys)) (fun b ob q=>Heap.get?_push_of_some _ q) (Nat.le_refl _) ?_,rfl,q2 (fun w=>z (r2.nil_iff.mpr w)) _ (I.hok.fresh (Nat.le_refl _))⟩
 exact⟨by rw [List.length_append];exact hz,_,r1.append r2,IsTup.new _ _⟩
end
noncomputable def ixN (n:Nat) (i:Int):Option Nat:=if 0<=i then (if i < n then some i.toNat else none) else if -(n:Int)<=i then some (i + n).toNat else none
noncomputable def atI {α:Type} (xs:List α) (i:Int):Option α:=(ixN xs.length i).bind fun j=>xs[j]?
theorem mW {n:Nat}{i:Int}{j:Nat} (h:ixN n i=some j):seqIndex? i n=some j/\j < n/\-(n:Int)<=i/\i < n:=by
 unfold ixN at h
 by_cases h0:0<=i
 ·rw [if_pos h0] at h
  by_cases h1:i < n
  ·rw [if_pos h1] at h
   have e:i.toNat=j:=Option.some.inj h
   exact⟨by rw [seqIndex_of h0 h1,e],by omega,by omega,h1⟩
  ·rw [if_neg h1] at h;cases h
 ·rw [if_neg h0] at h
  by_cases h1:-(n:Int)<=i
  ·rw [if_pos h1] at h
   have e:(i + n).toNat=j:=Option.some.inj h
   exact⟨by rw [seqIndex_neg (by omega) h1,e],by omega,h1,by omega⟩
  ·rw [if_neg h1] at h;cases h
theorem jz {α:Type}{xs:List α}{i:Int}{v:α} (h:atI xs i=some v):∃j,seqIndex? i xs.length=some j/\xs[j]?=some v/\j < xs.length/\-(xs.length:Int)<=i/\i < xs.length:=by
 unfold atI at h
 cases e:ixN xs.length i with
 | none=>rw [e] at h;cases h
 | some j =>
  rw [e] at h
  obtain⟨h1,h2,h3,h4⟩:=mW e
  exact⟨j,h1,h,h2,h3,h4⟩
theorem vo {α:Type}{xs:List α}{j:Nat}{v:α} (h:xs[j]?=some v):atI xs (j:Int)=some v:=by
 have hj:j < xs.length:=(List.getElem?_eq_some_iff.mp h).1
 have e:ixN xs.length (j:Int)=some j:=by
  unfold ixN
  rw [if_pos (by omega),if_pos (by omega)];simp
 unfold atI;rw [e];exact h
noncomputable def vQ (b:Expr):Prop:=∀o i,subscripted b false o i=operate [o,i] (getItem o i)
noncomputable def IxR (X:Cx) (r:R2):Prop :=
 ∀(value slice:Expr) (pins:List (Addr×Obj)) (s:Shared) (σ:St) (H:Hp) (x y:V) (v u:Value) (Q:VK),Inv X pins σ H s->RelV x v->RelV y u->r x y H Q ->
  subscripted slice false v u=operate [v,u] (getItem v u)->wpAny (model X.prog X.w) X.A (subscriptTail value slice v u) (EP X pins σ Q) X.xe s
noncomputable def MtR (X:Cx) (id:String) (r:V->List V->Hp->VK->Prop):Prop :=
 ∀(pins:List (Addr×Obj)) (s:Shared) (σ:St) (H:Hp) (x:V) (xs:List V) (v:Value) (us:List Value) (Q:VK),Inv X pins σ H s->RelV x v->av xs us->r x xs H Q ->
  wpAny (model X.prog X.w) X.A (call (.builtin id) (v::us)) (EP X pins σ Q) X.xe s
section
variable {X:Cx}{a b:Expr}{ta tb:TE}{pos:Pos}
theorem IxR.or {r r':R2} (h:IxR X r) (h':IxR X r'):IxR X (fun x y H Q=>r x y H Q\/r' x y H Q):=by
 intro value slice pins s σ H x y v u Q I rx ry q hs
 rcases q with q | q
 ·exact h value slice pins s σ H x y v u Q I rx ry q hs
 ·exact h' value slice pins s σ H x y v u Q I rx ry q hs
theorem aG {r:R2} (hr:IxR X r) (ha:PE X a ta) (hb:PE X b tb) (hs:vQ b):PE X (.Subscript a b pos) (tOp r ta tb):=by
 intro pins s σ H Q I h
 exact Subscript_ (km ha hb I h fun v u s2 x y H2 I2 rx ry q=>hr a b pins s2 σ H2 x y v u Q I2 rx ry q (hs _ _))
noncomputable def pw (K:PySem.W.Frag):R2:=fun x y H Q=>∃p xs i v,x=.ref p/\y=.int i/\SqL K H p xs/\atI xs i=some v/\Q v H
noncomputable def pO (K:PySem.W.Frag):R2:=fun x y H Q=>∃p xs i v,x=.ref p/\y=.int i/\SqT K H p xs/\atI xs i=some v/\Q v H
noncomputable def pj:R2:=fun x y H Q=>∃z i c,x=.str z/\y=.int i/\z.length<=sizeLine/\atI z.cps.toList i=some c/\Q (.str ⟨#[c]⟩) H
theorem vR:IxR X (pw X.K):=by
 intro value slice pins s σ H x y v u Q I rx ry h hs
 obtain⟨p,xs,i,z,rfl,rfl,hq,he,q⟩:=h
 cases rx
 obtain⟨t,rfl⟩:=ry
 obtain⟨its,r,pl,hz⟩:=I.list hq
 obtain⟨j,h1,h2,h3,h4,h5⟩:=jz he
 obtain⟨w,ew,rw'⟩:=r.get h2
 have hl:=r.length
 have hn:=fN
 have fin:EP X pins σ Q w s:=⟨z,H,I,rw',q⟩
 by_cases h0:0<=i
 ·have hj:i.toNat=j:=by
   rw [seqIndex_of h0 h5] at h1
   exact Option.some.inj h1
  exact item_listR pl.isList h0 (by omega) (by rw [hj];simpa using ew) fin hs
 ·have hj:(i + (its.toArray.size:Int)).toNat=j:=by
   rw [seqIndex_neg (by omega) h4] at h1
   rw [List.size_toArray,<- hl]
   exact Option.some.inj h1
  exact subscriptTail_builtinR (x:=w) pl.isList.typeIs slot_list_getitem.lookup
   (wpAny_getItem_list_neg (Q:=fun r s'=>r=w/\EP X pins σ Q r s') pl.isList (by omega) (by rw [List.size_toArray] <;> omega) (by omega) (by rw [hj];simpa using ew) ⟨rfl,fin⟩) hs
theorem xn:IxR X (pO X.K):=by
 intro value slice pins s σ H x y v u Q I rx ry h hs
 obtain⟨p,xs,i,z,rfl,rfl,hq,he,q⟩:=h
 cases rx
 obtain⟨t,rfl⟩:=ry
 obtain⟨its,r,pl,hz⟩:=I.tuple hq
 obtain⟨j,h1,h2,h3,h4,h5⟩:=jz he
 obtain⟨w,ew,rw'⟩:=r.get h2
 have hl:=r.length
 have hn:=fN
 have fin:EP X pins σ Q w s:=⟨z,H,I,rw',q⟩
 exact subscriptTail_builtinR (x:=w) pl.typeIs slot_tuple_getitem.lookup
  (getItem_tuple (j:=j) (Q:=fun r s'=>r=w/\EP X pins σ Q r s') pl (by omega) (by omega) (by rw [List.size_toArray,<- hl];exact h1) (by simpa using ew) ⟨rfl,fin⟩) hs
theorem wV:IxR X pj:=by
 intro value slice pins s σ H x y v u Q I rx ry h hs
 obtain⟨z,i,c,rfl,rfl,hz,he,q⟩:=h
 obtain⟨t,rfl⟩:=rx
 obtain⟨t',rfl⟩:=ry
 obtain⟨j,h1,h2,h3,h4,h5⟩:=jz he
 have hl:z.cps.toList.length=z.length:=by simp [Str.length]
 rw [hl] at h1 h4 h5
 have hn:=fN
 exact tail_any (typeIs_str s z t) slot_str_getitem.lookup (getItem_str (c:=c) (by
  have e1:decide (i < -(2 ^ 63:Int))=false:=decide_eq_false (by omega)
  have e2:decide (i ≥ 2 ^ 63)=false:=decide_eq_false (by omega)
  rw [e1,e2,Bool.or_false]) (by rw [h1];simpa using h2) ⟨.str ⟨#[c]⟩,H,I.tok _,⟨_,rfl⟩,q⟩) hs
noncomputable def rIx (K:PySem.W.Frag):R2:=fun x y H Q=>pw K x y H Q\/pO K x y H Q\/pj x y H Q
theorem aO:IxR X (rIx X.K):=vR.or (xn.or wV)
theorem qW (its:List Value) (n j:Nat) (u:Value):Obj.mapSeq (·.setIfInBounds j u) { cls:=.type "list",data:=.seq its.toArray n }={ cls:=.type "list",data:=.seq (its.set j u).toArray n }:=by
 simp [Obj.mapSeq]
theorem Inv.lst {pins:List (Addr×Obj)}{σ:St}{H:Hp}{s:Shared}{p:Addr}{xs:List V} (I:Inv X pins σ H s) (h:H p=some (.lst xs)) :
  ∃(its:List Value) (n:Nat),av xs its/\s.heap.get? p=some { cls:=.type "list",data:=.seq its.toArray n }/\xs.length<=sizeLine:=by
 obtain⟨z,its,n,r,e⟩:=I.hok p _ h
 exact⟨its,n,r,e,z⟩
theorem Inv.lstUpd {pins:List (Addr×Obj)}{σ:St}{H:Hp}{s:Shared}{p:Addr}{xs ys:List V}{its its':List Value}{n n':Nat}{f:Obj->Obj} (I:Inv X pins σ H s) (h:H p=some (.lst xs))
  (ho:s.heap.get? p=some { cls:=.type "list",data:=.seq its.toArray n }) (hf:f { cls:=.type "list",data:=.seq its.toArray n }={ cls:=.type "list",data:=.seq its'.toArray n' }) (r:av ys its') (hz:ys.length<=sizeLine) (t:Nat) :
  Inv X pins σ (upd H p (.lst ys)) { s with heap:=s.heap.update p f,toks:=t }:=by
 have e:(s.heap.update p f).get? p=some { cls:=.type "list",data:=.seq its'.toArray n' }:=by
  rw [Heap.get?_update_self f ho (by rw [hf] <;> rfl),hf]
 refine I.write (x:=p) (e:=p) (by rw [h];trivial) (.inl rfl) (fun b u hb q=>(Heap.get?_update_other _ _ (Ne.symm hb)).trans q) ⟨_,e⟩ ?_
 exact⟨hz,its',n',r,e⟩
noncomputable def xu:V->V->V->Hp->(Hp->Prop)->Prop:=fun o i v H Q=>∃p xs k j,o=.ref p/\i=.int k/\H p=some (.lst xs)/\ixN xs.length k=some j/\Q (upd H p (.lst (xs.set j v)))
theorem set_list:pJ X xu:=by
 intro pins s σ H o i v ov iv u Q I ro ri rv h
 obtain⟨p,xs,k,j,rfl,rfl,hp,hj,q⟩:=h
 cases ro
 obtain⟨t,rfl⟩:=ri
 obtain⟨its,n,r,ho,hz⟩:=I.lst hp
 obtain⟨h1,h2,h3,h4⟩:=mW hj
 have hl:=r.length
 have hn:=fN
 have I':Inv X pins σ (upd H p (.lst (xs.set j v))) { s with heap:=s.heap.update p (Obj.mapSeq (·.setIfInBounds j u)) } :=
  I.lstUpd hp ho (qW its n j u) (r.set rv j) (by rw [List.length_set];exact hz) s.toks
 by_cases h0:0<=k
 ·have hk:k.toNat=j:=by
   rw [seqIndex_of h0 h4] at h1
   exact Option.some.inj h1
  exact PySem.W.ki_setAt ho h0 (by omega) (by rw [List.size_toArray,<- hl];exact h4) (by rw [hk];exact⟨_,I',q⟩)
 ·have hk:(k + (its.toArray.size:Int)).toNat=j:=by
   rw [seqIndex_neg (by omega) h3] at h1
   rw [List.size_toArray,<- hl]
   exact Option.some.inj h1
  exact PySem.W.ki_setBack ho (by omega) (by rw [List.size_toArray,<- hl];exact h3) (by omega) (by rw [hk];exact⟨_,I',q⟩)
theorem qv (lo hi:Option Int) (n:Nat):(sliceBounds lo hi none n).1=((HT.sIx n 0 lo:Nat):Int)/\(sliceBounds lo hi none n).2.1=((HT.sIx n n hi:Nat):Int)/\(sliceBounds lo hi none n).2.2=1:=by
 refine⟨?_,?_,rfl⟩
 ·cases lo with
  | none=>simp [sliceBounds,HT.sIx]
  | some i =>
   simp only [sliceBounds,HT.sIx,Option.getD_none,show (1:Int) > 0 by decide,if_true]
   by_cases h:i < 0
   ·simp only [h,if_true] <;> omega
   ·simp only [h,if_false] <;> omega
 ·cases hi with
  | none=>simp [sliceBounds,HT.sIx]
  | some i =>
   simp only [sliceBounds,HT.sIx,Option.getD_none,show (1:Int) > 0 by decide,if_true]
   by_cases h:i < 0
   ·simp only [h,if_true] <;> omega
   ·simp only [h,if_false] <;> omega
theorem ql (its:List Value) (lo hi:Option Int):slicePick its.toArray lo hi none=((its.drop (HT.sIx its.length 0 lo)).take (HT.sIx its.length its.length hi - HT.sIx its.length 0 lo)).toArray:=by
 obtain⟨h1,h2,h3⟩:=qv lo hi its.toArray.size
 unfold slicePick
 rw [h1,h2,h3]
 simp only [sliceRange_one,pick_run,List.size_toArray] <;> rfl
noncomputable def ya (K:PySem.W.Frag):V->Option Int->Option Int->Hp->VK->Prop:=fun x lo hi H Q=>∃a xs,x=.ref a/\SqL K H a xs/\∀p,H p=none->Q (.ref p) (upd H p (.lst (cz xs lo hi)))
theorem nS:SlR X (ya X.K):=by
 intro pins s σ H x v vl vu lo hi sl Q I rx hs pl pu h
 obtain⟨a,xs,rfl,hx,q⟩:=h
 cases rx
 obtain⟨its,r,ht,hz⟩:=I.list hx
 have hlen:=r.length
 refine⟨"list",_,slot_list_getitem.lookup,ht.isList.typeIs,?_⟩
 refine wpAny_getItem_list_slice ht.isList hs pl pu .none (by simp) ?_ (by rw [List.size_toArray] <;> omega)
 rw [ql,<- hlen]
 refine⟨.ref s.heap.objs.size,_,I.laid (t':=s.toks) (o:=.lst (cz xs lo hi)) (fun b ob q=>Heap.get?_push_of_some _ q) (Nat.le_refl _) ?_,rfl,q _ (I.hok.fresh (Nat.le_refl _))⟩
 exact⟨Nat.le_trans (kX xs lo hi) hz,_,0,(r.drop (HT.sIx xs.length 0 lo)).take (HT.sIx xs.length xs.length hi - HT.sIx xs.length 0 lo),Heap.get?_push_size _ rfl⟩
noncomputable def dH:V->Bool
 | .non=>true
 | .bl _=>true
 | .int _=>true
 | .str _=>true
 | _=>false
noncomputable def eqV:V->V->Bool
 | .non,.non=>true
 | .bl a,.bl b=>a == b
 | .bl a,.int b=>(if a then 1 else 0) == b
 | .int a,.bl b=>a == (if b then 1 else 0)
 | .int a,.int b=>a == b
 | .str a,.str b=>a == b
 | _,_=>false
theorem wy {A:Around}{s:Shared}{y x:V}{u v:Value} (ry:RelV y u) (rx:RelV x v) (fy:dH y=true) (fx:dH x=true):SeqAt.EqAt A s u v (eqV y x):=by
 cases y with
 | non =>
  cases ry
  cases x with
  | non=>cases rx;exact SeqAt.EqAt.same _
  | bl b=>cases rx;exact SeqAt.EqAt.none_bool b
  | int b=>obtain⟨t,rfl⟩:=rx;exact SeqAt.EqAt.none_int b t
  | str b=>obtain⟨t,rfl⟩:=rx;exact SeqAt.EqAt.none_str b t
  | _=>exact absurd (show false=true from fx) Bool.false_ne_true
 | bl a =>
  cases ry
  cases x with
  | non=>cases rx;exact SeqAt.EqAt.bool_none a
  | bl b=>cases rx;exact SeqAt.EqAt.bool_bool a b
  | int b=>obtain⟨t,rfl⟩:=rx;exact SeqAt.EqAt.bool_int a b t
  | str b=>obtain⟨t,rfl⟩:=rx;exact SeqAt.EqAt.bool_str a b t
  | _=>exact absurd (show false=true from fx) Bool.false_ne_true
 | int a =>
  obtain⟨t',rfl⟩:=ry
  cases x with
  | non=>cases rx;exact SeqAt.EqAt.int_none a t'
  | bl b=>cases rx;exact SeqAt.EqAt.int_bool a t' b
  | int b=>obtain⟨t,rfl⟩:=rx;exact SeqAt.EqAt.int_int a t' b t
  | str b=>obtain⟨t,rfl⟩:=rx;exact SeqAt.EqAt.int_str a t' b t
  | _=>exact absurd (show false=true from fx) Bool.false_ne_true
 | str a =>
  obtain⟨t',rfl⟩:=ry
  cases x with
  | non=>cases rx;exact SeqAt.EqAt.str_none a t'
  | bl b=>cases rx;exact SeqAt.EqAt.str_bool a t' b
  | int b=>obtain⟨t,rfl⟩:=rx;exact SeqAt.EqAt.str_int a t' b t
  | str b=>obtain⟨t,rfl⟩:=rx;exact SeqAt.EqAt.str_str a t' b t
  | _=>exact absurd (show false=true from fx) Bool.false_ne_true
 | _=>exact absurd (show false=true from fy) Bool.false_ne_true
noncomputable def eqU (x:V) (u:Value):Bool:=match u with
 | .none=>eqV .non x
 | .bool b=>eqV (.bl b) x
 | .int i _=>eqV (.int i) x
 | .str z _=>eqV (.str z) x
 | _=>false
theorem jN {x y:V}{u:Value} (r:RelV y u) (f:dH y=true):eqU x u=eqV y x:=by
 cases y with
 | non=>cases r;rfl
 | bl b=>cases r;rfl
 | int i=>obtain⟨t,rfl⟩:=r;rfl
 | str z=>obtain⟨t,rfl⟩:=r;rfl
 | _=>exact absurd (show false=true from f) Bool.false_ne_true
theorem gx {x:V}:∀{xs:List V}{us:List Value},av xs us->xs.all dH=true->us.any (eqU x)=xs.any fun y=>eqV y x
 | _,_,.nil,_=>rfl
 | y::xs,u::us,.cons r t,f=>by
  rw [List.all_cons,Bool.and_eq_true] at f
  rw [List.any_cons,List.any_cons,jN r f.1,gx t f.2]
theorem fE {A:Around}{s:Shared}{x:V}{v:Value} (rx:RelV x v) (fx:dH x=true):∀{xs:List V}{us:List Value},av xs us->xs.all dH=true->∀u∈us,SeqAt.EqAt A s u v (eqU x u)
 | _,_,.nil,_=>fun u hu=>by cases hu
 | y::xs,u::us,.cons r t,f=>fun u' hu=>by
  rw [List.all_cons,Bool.and_eq_true] at f
  rcases List.mem_cons.mp hu with rfl | hu
  ·rw [jN r f.1];exact wy r rx f.1 fx
  ·exact fE rx fx t f.2 u' hu
noncomputable def inV (x:V) (xs:List V):Bool:=xs.any fun y=>eqV y x
noncomputable def rIn (K:PySem.W.Frag) (neg:Bool):R2:=fun x y H Q=>∃p xs,y=.ref p/\(SqL K H p xs\/SqT K H p xs)/\dH x=true/\xs.all dH=true/\Q (.bl (if neg then !inV x xs else inV x xs)) H
theorem gi:OpR X (compareOp .In) (rIn X.K false):=by
 intro pins s σ H x y v u Q I rx ry h
 obtain⟨p,xs,rfl,hq,fx,fs,q⟩:=h
 cases ry
 rcases hq with hq | hq
 ·obtain⟨its,r,pl,hz⟩:=I.list hq
  refine SeqAt.in_listAt (eqU x) pl.isList (fun w hw=>fE rx fx r fs w (by simpa using hw)) ⟨.bl _,H,I,rfl,?_⟩
  rw [show its.toArray.any (eqU x)=its.any (eqU x) by simp,gx r fs]
  exact q
 ·obtain⟨its,r,pl,hz⟩:=I.tuple hq
  refine SeqAt.in_tupleAt (eqU x) pl (fun w hw=>fE rx fx r fs w (by simpa using hw)) ⟨.bl _,H,I,rfl,?_⟩
  rw [show its.toArray.any (eqU x)=its.any (eqU x) by simp,gx r fs]
  exact q
theorem kN:OpR X (compareOp .NotIn) (rIn X.K true):=by
 intro pins s σ H x y v u Q I rx ry h
 obtain⟨p,xs,rfl,hq,fx,fs,q⟩:=h
 cases ry
 rcases hq with hq | hq
 ·obtain⟨its,r,pl,hz⟩:=I.list hq
  refine SeqAt.notIn_listAt (eqU x) pl.isList (fun w hw=>fE rx fx r fs w (by simpa using hw)) ⟨.bl _,H,I,rfl,?_⟩
  rw [show its.toArray.any (eqU x)=its.any (eqU x) by simp,gx r fs]
  exact q
 ·obtain⟨its,r,pl,hz⟩:=I.tuple hq
  refine SeqAt.notIn_tupleAt (eqU x) pl (fun w hw=>fE rx fx r fs w (by simpa using hw)) ⟨.bl _,H,I,rfl,?_⟩
  rw [show its.toArray.any (eqU x)=its.any (eqU x) by simp,gx r fs]
  exact q
theorem bB:bX X (.builtin "len") (fun xs H Q=>∃p ys,xs=[.ref p]/\(SqL X.K H p ys\/SqT X.K H p ys)/\Q (.int ys.length) H):=by
 intro pins s σ H xs us Q I r h
 obtain⟨p,ys,rfl,hq,q⟩:=h
 obtain⟨u,rfl,rx⟩:=vals1 r
 cases rx
 have hn:=fN
 rcases hq with hq | hq
 ·obtain⟨its,r',pl,hz⟩:=I.list hq
  have hlen:=r'.length
  exact Calls.call_len_list pl.isList (by simp only [List.size_toArray] <;> omega) ⟨.int ys.length,H,I.tok _,⟨s.toks + 1,by rw [List.size_toArray,hlen]⟩,q⟩
 ·obtain⟨its,r',pl,hz⟩:=I.tuple hq
  have hlen:=r'.length
  exact len_tuple pl (by simp only [List.size_toArray] <;> omega) ⟨.int ys.length,H,I.tok _,⟨s.toks + 1,by rw [List.size_toArray,hlen]⟩,q⟩
theorem gR:bX X (.builtin "len") (fun xs H Q=>∃z,xs=[.str z]/\z.length<=sizeLine/\Q (.int z.length) H):=by
 intro pins s σ H xs us Q I r h
 obtain⟨z,rfl,hz,q⟩:=h
 obtain⟨u,rfl,t,rfl⟩:=vals1 r
 have hn:=fN
 exact len_str (by omega) ⟨.int z.length,H,I.tok _,⟨_,rfl⟩,q⟩
theorem iL:bX X (.type "list") (fun xs H Q=>∃p ys,xs=[.ref p]/\(SqL X.K H p ys\/SqT X.K H p ys)/\∀l,H l=none->Q (.ref l) (upd H l (.lst ys))):=by
 intro pins s σ H xs us Q I r h
 obtain⟨p,ys,rfl,hq,q⟩:=h
 obtain⟨u,rfl,rx⟩:=vals1 r
 cases rx
 have fin:∀(its:List Value),av ys its->ys.length<=sizeLine->∀(h':Heap) (c':Nat),(∀b o',s.heap.get? b=some o'->h'.get? b=some o') ->
   h'.get? s.heap.objs.size=some { cls:=.type "list",dict:=none,data:=.seq its.toArray c',slots:=#[] }->EP X pins σ Q (.ref s.heap.objs.size) { s with heap:=h' }:=fun its r' hz h' c' kp e =>
  ⟨.ref s.heap.objs.size,_,I.laid (t':=s.toks) kp (Nat.le_refl _) (show aJ X.prog X.w _ h' _ (.lst ys) from ⟨hz,its,c',r',e⟩),rfl,q _ (I.hok.fresh (Nat.le_refl _))⟩
 rcases hq with hq | hq
 ·obtain⟨its,r',pl,hz⟩:=I.list hq
  have hlen:=r'.length
  obtain⟨o,ho,hc,n,hd⟩:=pl.isList
  exact call_list_seq p (.inl rfl) ho hc hd (fun h' c' kp e=>fin its r' hz h' c' kp e) (by simp only [List.size_toArray] <;> omega)
 ·obtain⟨its,r',pl,hz⟩:=I.tuple hq
  have hlen:=r'.length
  obtain⟨o,ho,hc,n,hd⟩:=pl
  exact call_list_seq p (.inr rfl) ho hc hd (fun h' c' kp e=>fin its r' hz h' c' kp e) (by simp only [List.size_toArray] <;> omega)
theorem fZ:bX X (.type "tuple") (fun xs H Q=>∃p ys,xs=[.ref p]/\((SqL X.K H p ys/\∀l,H l=none->Q (.ref l) (upd H l (.tup ys)))\/(SqT X.K H p ys/\Q (.ref p) H))):=by
 intro pins s σ H xs us Q I r h
 obtain⟨p,ys,rfl,h⟩:=h
 obtain⟨u,rfl,rx⟩:=vals1 r
 cases rx
 rcases h with ⟨hq,q⟩ | ⟨hq,q⟩
 ·obtain⟨its,r',pl,hz⟩:=I.list hq
  have hlen:=r'.length
  refine call_tuple_list pl.isList (fun h' kp=>?_) (by simp only [List.size_toArray] <;> omega)
  have I1:Inv X pins σ H { s with heap:=h' }:=I.kept (t':=s.toks) kp
  have I2:Inv X pins σ (upd H h'.objs.size (.tup ys)) { s with heap:=h'.push { cls:=.type "tuple",data:=.seq its.toArray } } :=
   I1.laid (t':=s.toks) (fun b o e=>Heap.get?_push_of_some _ e) (Nat.le_refl _) (show aJ X.prog X.w _ _ _ (.tup ys) from ⟨hz,its,r',IsTup.new _ _⟩)
  exact⟨.ref h'.objs.size,_,I2,rfl,q _ (I1.hok.fresh (Nat.le_refl _))⟩
 ·obtain⟨its,r',pl,hz⟩:=I.tuple hq
  exact call_tuple_same pl ⟨.ref p,H,I,rfl,q⟩
noncomputable def tyV (K:PySem.W.Frag) (T:String) (x:V) (H:Hp):Prop:=match x with
 | .str _=>T="str"
 | .int _=>T="int"
 | .ref p=>(T="list"/\∃xs,SqL K H p xs)\/(T="tuple"/\∃o,K.lookup p=some o/\o.cls=.type "tuple"/\o.dict=none) \/
   (T="dict"/\((∃kvs,H p=some (.dK kvs))\/∃kvs,H p=some (.dT kvs)))\/(T="set"/\∃S n,H p=some (.set S n))
 | _=>False
theorem xi {pins:List (Addr×Obj)}{σ:St}{H:Hp}{s:Shared}{T:String}{x:V}{v:Value} (I:Inv X pins σ H s) (r:RelV x v) (ty:tyV X.K T x H) :
  s.TypeIs v T/\∀a,v=.ref a->∃ob,s.heap.get? a=some ob/\ob.dict=none:=by
 cases x with
 | str z =>
  obtain⟨t,rfl⟩:=r
  cases (show T="str" from ty)
  exact⟨typeIs_str s z t,fun _ e=>nomatch e⟩
 | int i =>
  obtain⟨t,rfl⟩:=r
  cases (show T="int" from ty)
  exact⟨typeIs_int s i t,fun _ e=>nomatch e⟩
 | ref p =>
  cases r
  rcases ty with ⟨rfl,xs,hq⟩ | ⟨rfl,o,hk,hc,hd⟩ | ⟨rfl,hk⟩ | ⟨rfl,S,n,hk⟩
  ·obtain⟨its,_,pl,_⟩:=I.list hq
   refine⟨pl.isList.typeIs,fun a e=>?_⟩
   cases e
   obtain⟨o,n,e,c,hd,_⟩:=pl
   exact⟨o,e,hd⟩
  ·refine⟨⟨o,I.kIn p o hk,hc⟩,fun a e=>?_⟩
   cases e
   exact⟨o,I.kIn _ o hk,hd⟩
  ·have z:∃o,s.heap.get? p=some o/\o.ExactDict:=by
    rcases hk with ⟨kvs,hk⟩ | ⟨kvs,hk⟩
    ·obtain⟨_,_,_,_,o,_,_,e,ex,_⟩:=I.hok p _ hk
     exact⟨o,e,ex⟩
    ·obtain⟨_,_,_,_,o,_,_,e,ex,_⟩:=I.hok p _ hk
     exact⟨o,e,ex⟩
   obtain⟨o,e,ex⟩:=z
   refine⟨⟨o,e,ex.1⟩,fun a e2=>?_⟩
   cases e2
   exact⟨o,e,ex.2.1⟩
  ·obtain⟨o,_,_,_,e,ex,_⟩:=I.hok p _ hk
   refine⟨⟨o,e,ex.1⟩,fun a e2=>?_⟩
   cases e2
   exact⟨o,e,ex.2.1⟩
 | _=>exact False.elim ty
noncomputable def tBM (K:PySem.W.Frag) (T:String) (r:V->List V->Hp->VK->Prop) (to:TE) (t:TA):TE:=fun σ H Q=>to σ H fun x H1=>tyV K T x H1/\t σ H1 fun xs H2=>r x xs H2 Q
variable {o e:Expr}{es:List Expr}{to:TE}{t:TA}{name:Str}{apos cpos:Pos}{T id:String}{r:V->List V->Hp->VK->Prop}
theorem eU (pa:PlainAttrs T) (slot:Slot T name id) (hty:typeOf (.builtin id)=pure (.type "method_descriptor")) (hm:MtR X id r) (ho:PE X o to) (ha:PA X (e::es) t)
  (hbase:attributeBase o name X.env (eval o X.env)=eval o X.env:=by rfl)
  (hfew:((backTo cpos (starEach (e::es) X.env)).all (fun x=>!x.1) && (backToKw cpos (keywordEach [] X.env)).all (fun x=>x.1.isSome)
   && decide ((e::es).length + ([]:List Keyword).length + (if ([]:List Keyword).isEmpty then 0 else 1) < 30))=true:=by rfl)
  (hline:(apos.endLine == cpos.line)=true:=by rfl) (hs:starEach (e::es) X.env=(false,eval e X.env)::starEach es X.env:=by rfl) (hplain:(backTo cpos (starEach es X.env)).any (·.1)=false:=by rfl) :
  PE X (.Call (.Attribute o name apos) (e::es) [] cpos) (tBM X.K T r to t):=by
 intro pins s σ H Q I h
 refine wpAny_Call_method_late hbase hfew hline rfl (thn (ho pins s σ H _ I h) fun v s1 ⟨x,H1,I1,r1,ty,q1⟩=>?_)
 obtain⟨h1,h2⟩:=xi I1 r1 ty
 refine⟨T,id,pa,slot,hty,h1,h2,?_⟩
 have hA:=ha cpos pins s1 σ H1 _ I1 q1
 rw [hs] at hA ⊢
 refine Calls.callWith_builtin (by show (false || (backTo cpos (starEach es X.env)).any (·.1))=false;rw [hplain] <;> rfl) (Calls.evalArgs_plain ?_)
 exact thn hA fun us s2 ⟨vs,H2,I2,r2,q2⟩=>hm pins s2 σ H2 x vs v us Q I2 r1 r2 q2
/- xs.append(e),list.index on a module's tuple .. are MtR facts of 06m -/
end
noncomputable def MtM (X:Cx) (id:String) (r:V->List V->Hp->VK->Prop):Prop :=
 ∀(pins:List (Addr×Obj)) (s:Shared) (σ:St) (H:Hp) (x:V) (xs:List V) (v:Value) (us:List Value) (Q:VK),Inv X pins σ H s->RelV x v->av xs us->r x xs H Q ->
  wpAny (model X.prog X.w) X.A (call (.builtin id) (v::us)) (EP X pins σ Q) X.xe s
theorem av.one:∀{x:V}{us:List Value},av [x] us->∃u,us=[u]/\RelV x u
 | _,_,.cons r .nil=>⟨_,rfl,r⟩
theorem av.reverse {xs:List V}{us:List Value} (h:av xs us):av xs.reverse us.reverse:=by
 induction h with
 | nil=>exact .nil
 | cons r t ih=>rw [List.reverse_cons,List.reverse_cons];exact av.append ih (.cons r .nil)
theorem av.rep {xs:List V}{us:List Value} (h:av xs us):∀k:Nat,av (List.replicate k xs).flatten (List.replicate k us).flatten
 | 0=>.nil
 | k + 1=>by
  rw [List.replicate_succ,List.replicate_succ,List.flatten_cons,List.flatten_cons]
  exact av.append h (av.rep h k)
theorem foldl_rep (its:List Value):∀(k:Nat) (acc:List Value),
  List.foldl (fun x1 x2=>x1++x2) acc.toArray (List.replicate k its.toArray)=(acc++(List.replicate k its).flatten).toArray
 | 0,acc=>by simp
 | k + 1,acc=>by
  have e:acc.toArray++its.toArray=(acc++its).toArray:=by simp
  have e2:(acc++its)++(List.replicate k its).flatten=acc++(List.replicate (k + 1) its).flatten:=by
   rw [List.replicate_succ,List.flatten_cons,List.append_assoc]
  rw [<- e2,<- foldl_rep its k (acc++its),<- e,List.replicate_succ,List.foldl_cons]
section
variable {X:Cx}{pins:List (Addr×Obj)}{σ:St}{H:Hp}{s:Shared}{l b:Addr}{xs ys zs:List V}
theorem Inv.lset {its its':List Value}{n:Nat}{f:Array Value->Array Value}{t':Nat} (I:Inv X pins σ H s) (hH:H l=some (.lst xs))
  (e:s.heap.get? l=some { cls:=.type "list",data:=.seq its.toArray n }) (hf:f its.toArray=its'.toArray) (hv:av ys its') (hz:ys.length<=sizeLine) :
  Inv X pins σ (upd H l (.lst ys)) { s with heap:=s.heap.update l (Obj.mapSeq f),toks:=t' }:=by
 have q:=PySem.IsL.update e f
 rw [hf] at q
 refine I.write (x:=l) (e:=l) (by rw [hH];exact trivial) (.inl rfl) (fun b' u hb hu=>(Heap.get?_update_other s.heap (Obj.mapSeq f) (Ne.symm hb)).trans hu) ⟨_,q⟩ ?_
 exact⟨hz,its',_,hv,q⟩
theorem Inv.lnew {its:List Value}{t':Nat} (I:Inv X pins σ H s) (hv:av ys its) (hz:ys.length<=sizeLine) :
  Inv X pins σ (upd H s.heap.objs.size (.lst ys)) { s with heap:=s.heap.push { cls:=.type "list",data:=.seq its.toArray },toks:=t' } :=
 I.laid (fun _ _ q=>Heap.get?_push_of_some _ q) (Nat.le_refl _) ⟨hz,its,0,hv,Heap.get?_push_size _ rfl⟩
theorem Inv.fresh (I:Inv X pins σ H s):H s.heap.objs.size=none:=I.hok.fresh (Nat.le_refl _)
theorem Inv.lstM (I:Inv X pins σ H s) (hH:H l=some (.lst xs)):xs.length<=sizeLine/\∃(its:List Value) (n:Nat),av xs its/\xs.length=its.length/\s.heap.get? l=some { cls:=.type "list",data:=.seq its.toArray n }:=by
 obtain⟨z,its,n,r,e⟩:=I.hok l _ hH
 exact⟨z,its,n,r,r.length,e⟩
theorem uy {n:Nat} (h:n<=sizeLine):Builtin.List.listTooLong n=false:=by
 unfold Builtin.List.listTooLong
 exact decide_eq_false (by omega)
end
section
variable {X:Cx}
noncomputable def wg:V->List V->Hp->VK->Prop:=fun x vs H Q=>∃l xs y,x=.ref l/\vs=[y]/\H l=some (.lst xs)/\xs.length < sizeLine/\Q .non (upd H l (.lst (xs++[y])))
theorem iY:MtM X "list.append" wg:=by
 intro pins s σ H x vs v us Q I rx rv h
 obtain⟨l,xs,y,rfl,rfl,hH,hz,q⟩:=h
 cases rx
 obtain⟨u,rfl,ru⟩:=rv.one
 obtain⟨z,its,n,r,hl,e⟩:=I.lstM hH
 refine call_meets F.slot_list_append ⟨_,e,rfl⟩ F.entry_list_append (F.args_list_append_2 _ _) (PySem.list_append l its.toArray n u (by rw [List.size_toArray];omega)) ⟨e,?_⟩
 refine⟨.non,_,I.lset (its':=its++[u]) hH e (by simp) (r.append (.cons ru .nil)) ?_,rfl,q⟩
 rw [List.length_append,List.length_singleton]
 omega
noncomputable def vn:V->List V->Hp->VK->Prop:=fun x vs H Q=>∃l b xs zs,x=.ref l/\vs=[.ref b]/\H l=some (.lst xs)/\H b=some (.lst zs)/\xs.length + zs.length<=sizeLine/\Q .non (upd H l (.lst (xs++zs)))
theorem tU:MtM X "list.extend" vn:=by
 intro pins s σ H x vs v us Q I rx rv h
 obtain⟨l,b,xs,zs,rfl,rfl,hH,hB,hz,q⟩:=h
 cases rx
 obtain⟨u,rfl,ru⟩:=rv.one
 cases ru
 obtain⟨z,its,n,r,hl,e⟩:=I.lstM hH
 obtain⟨z2,its2,n2,r2,hl2,e2⟩:=I.lstM hB
 have hsz:its.toArray.size + its2.toArray.size<=sizeLine:=by rw [List.size_toArray,List.size_toArray];omega
 have hlong:¬ (!its.toArray.isEmpty && Builtin.List.listTooLong (its.toArray.size + its2.toArray.size))=true:=by
  rw [uy hsz,Bool.and_false]
  exact Bool.false_ne_true
 refine call_meets F.slot_list_extend ⟨_,e,rfl⟩ F.entry_list_extend (F.args_list_extend_2 _ _)
  (AutoSeq1.list_extend_list_list_0 l its.toArray n b its2.toArray n2 hlong (by rw [List.size_toArray];omega) (by omega)) ⟨e,e2,?_⟩
 refine⟨.non,_,I.lset (its':=its++its2) hH e (by simp) (r.append r2) ?_,rfl,q⟩
 rw [List.length_append]
 omega
noncomputable def pR:R2:=fun x y H Q=>∃l b xs zs,x=.ref l/\y=.ref b/\H l=some (.lst xs)/\H b=some (.lst zs)/\xs.length + zs.length<=sizeLine/\∀p,H p=none->Q (.ref p) (upd H p (.lst (xs++zs)))
theorem eJ:OpR X (binaryOp .Add) pR:=by
 intro pins s σ H x y v u Q I rx ry h
 obtain⟨l,b,xs,zs,rfl,rfl,hH,hB,hz,q⟩:=h
 cases rx
 cases ry
 obtain⟨z,its,n,r,hl,e⟩:=I.lstM hH
 obtain⟨z2,its2,n2,r2,hl2,e2⟩:=I.lstM hB
 refine PySem.P.add_list e e2 ?_ (by rw [List.size_toArray,List.size_toArray];omega)
 have ea:its.toArray++its2.toArray=(its++its2).toArray:=by simp
 rw [ea]
 exact⟨.ref _,_,I.lnew (t':=s.toks) (r.append r2) (by rw [List.length_append];omega),rfl,q _ I.fresh⟩
theorem len_rep {α:Type} (xs:List α) (k:Nat):(List.replicate k xs).flatten.length=k * xs.length:=by
 induction k with
 | zero=>simp
 | succ k ih=>rw [List.replicate_succ,List.flatten_cons,List.length_append,ih,Nat.succ_mul,Nat.add_comm]
end
section
variable {prog:Program}{w:World}{A:Around}{E:Value->Shared->Prop}{s:Shared}
end
section
variable {X:Cx}
end
end L2
namespace Att
open PySem PySem.W PySem.Calls PyProof.Rows
theorem p9 {P:Params}{h:Heap}:∀(ns:List Int) (vs:List Value),WellAll P h vs (ns.map WData.int)->IntsAre vs ns:=by
 intro ns
 induction ns with
 | nil =>
  intro vs w
  rw [List.map_nil] at w
  cases w
  exact .nil
 | cons n ns ih =>
  intro vs w
  rw [List.map_cons] at w
  cases w with
  | cons a b =>
   cases a
   exact .cons _ _ (ih _ b)
theorem tH {l:OpenLaw}{n:Nat} (hn:l.most=some n) {P:Params}{h:Heap}{args:List WData}{vals:List Value}
  (hpre:l.row.toRowW.claim.pre args=true) (hwl:WellAll P h vals args) :
  ∃a vs ns,vals=[Value.ref a]/\args=[WData.list (ns.map WData.int)]/\h.get? a=some { cls:=.type "list",data:=.seq vs.toArray }/\IntsAre vs ns/\ns.length<=n:=by
 have hsh:WShape.hasAll [] args [.list .int]=true:=(pre_splitW hpre).1
 have hc:l.pre.holds [] { args:=args }=true:=(pre_splitW hpre).2
 obtain⟨d,r,rfl,h1,h2⟩:=hasAllW_cons hsh
 obtain rfl:=hasAllW_nil h2
 obtain⟨xs,rfl,h3⟩:=hasW_list h1
 obtain⟨ns,rfl⟩:=items_int h3
 have hlen:ns.length<=n:=by
  unfold OpenLaw.pre at hc
  have h4:(WTm.not (.lt (.lit (.int (n:Int))) (.len (.arg 0)))).holds [] { args:=[.list (ns.map .int)] }=true:=by
   have h4:=(holds_andW hc).1
   rw [hn] at h4
   exact h4
  have h5:=condW_of h4 (w_not (w_lt w_lit (w_len_list (w_arg rfl))))
  rw [List.length_map] at h5
  refine Nat.le_of_not_lt fun q=>?_
  have q':(n:Int) < ((ns.length:Nat):Int):=by omega
  first
   | (rw [decide_eq_true q'] at h5;exact absurd h5 (by decide))
   | (simp at h5;omega)
 cases hwl with
 | cons w1 w2 =>
  cases w2
  cases w1 with
  | list ho hall=>exact⟨_,_,ns,rfl,rfl,ho,p9 ns _ hall,hlen⟩
theorem sh (l:OpenLaw) (args:List WData):l.row.toRowW.claim.post args (.bool true) args=true :=
 postW_of (r:=l.row.toRowW) (X:=(true == true))
  (show WShape.has [] (.bool true) .bool=true by first | rfl | decide | simp [WShape.has,WShape.arms,WShape.armsAll])
  (show (WTm.eq .res (.lit (.bool true))).value [] { args:=args,res:=some (.bool true),after:=args }=some (.bool (true == true)) from w_eq_bool (w_res rfl) w_lit) rfl
theorem yA {l:OpenLaw}{n:Nat}{q:Program}{loose:List Str}{XP:(Str->Option Value)->Heap->Prop}{YP:World->Heap->Prop}{d:DefRec}
  (hn:l.most=some n) (hdf:d.params.defaults=[])
  (call:∀(w:World) (s₀ s₁:Shared) (mg mb:Str->Option Value) (fa:Addr) (o:Obj) (pm cd doc:Value) (a:Addr) (vs:List Value) (ns:List Int),
   Ground q loose [] XP w s₀ mg mb s₁.heap->YP w s₁.heap ->
   s₁.heap.get? fa=some o->o.data=.func (docDef d.name d.params d.body d.scope pm cd doc)->s₁.heap.CodeRec cd d.name->mg d.name=some (.ref fa) ->
   s₁.heap.get? a=some { cls:=.type "list",data:=.seq vs.toArray }->IntsAre vs ns->ns.length<=n->s₁.gens=#[] ->
   codeAny (model l.prog w) callerA (.call (.ref fa) ⟨[.ref a],[]⟩) (fun r s'=>r=.ok (.ret (.bool true))/\OldK s₁.heap s'.heap/\s'.os=s₁.os/\AllBare s'.gens) s₁) :
  WalkO q loose XP YP l.row.toRowW d [] (fun f vs=>PySem.call f vs):=by
 intro w s₀ s₁ mg mb G Y fa o pm cd doc dV kV ho hd hcd hD hmg hg args vals as hpre hlay hrd hwl hlo
 obtain rfl:dV=.none:=Dflts.none hD hdf
 obtain rfl:kV=.none:=Dflts.noKw hD
 obtain⟨a,vs,ns,rfl,rfl,hobj,hints,hlen⟩:=tH hn hpre hwl
 refine enter_call (codeAny_mono (call w s₀ s₁ mg mb fa o pm cd doc a vs ns G Y ho (fd_plain hd) hcd hmg hobj hints hlen hg) fun r s' hq=>?_)
 obtain⟨rfl,h2,h3,h4⟩:=hq
 exact⟨.inl ⟨.bool true,.bool true,[],rfl,fun _=>rfl,.bool true,sh l _,fun _=>⟨List.Pairwise.nil,fun _ hm=>(nomatch hm)⟩⟩,h2,h3,h4⟩
section
variable {prog:Program}{w:World}{A:Around}{E:Value->Shared->Prop}{s:Shared}{K:Frag}
end
end Att
namespace L2
open PySem PySem.Spec PyProof.Rows
theorem lT:∀{vs:List Value}{ns:List Int},IntsAre vs ns->av (ns.map V.int) vs
 | _,_,.nil=>.nil
 | _,_,.cons n t h=>.cons ⟨t,rfl⟩ (lT h)
noncomputable def kH (H:Hp):Prop:=∀b,H b=none\/∃o xs,H b=some (.frz o (.lst xs))
theorem uX {P:Program}{w:World}{K:PySem.W.Frag}{mg mb:Str->Option Value}{CX:CXT}{k:Nat}{fa a:Addr}{fd:FuncData}{x:Str}{sp:Sp}{s₁:Shared}{vs:List Value}{ns:List Int}
  (KX:K.In s₁.heap) (hns:s₁.heap.Ns mainGlobals mg) (hb:s₁.heap.Ns builtinsNs mb) (hbb:∀x:Str,x≠"__name__"->mb x=bootBuiltins x) (hlim:s₁.heap.NoLimit) (hg:s₁.gens=#[])
  (ha:s₁.heap.get? a=some { cls:=.type "list",data:=.seq vs.toArray }) (hi:IntsAre vs ns) (hl:ns.length<=sizeLine) (hr:aK k callerA)
  (F:∀base:Heap,K.In base->base.Ns mainGlobals mg->aA P w K mg base CX k fa fd [x] sp) (hbind:∀(s:Shared) (u:Value),BindsTo s fd ⟨[u],[]⟩ [(x,u)])
  (hsp:∀H:Hp,kH H->SqL K H a (ns.map V.int)->sp [.ref a] H (fun v _=>v=.bl true) fun _ _ _=>False)
  (hCX:∀H e s',CX [] H s₁ (fun _ _ _=>False) e s'->False) :
  codeAny (model P w) callerA (.call (.ref fa) ⟨[.ref a],[]⟩) (fun r s'=>r=.ok (.ret (.bool true))/\OldK s₁.heap s'.heap/\s'.os=s₁.os/\AllBare s'.gens) s₁:=by
 have rv:=lT hi
 have lenV:=hi.length
 have core:∀H:Hp,kH H->SqL K H a (ns.map V.int)->HOk P w H s₁.heap->(∀b,H b≠none->b=a)->(H a≠none->K.lookup a=none) ->
   codeAny (model P w) callerA (.call (.ref fa) ⟨[.ref a],[]⟩) (fun r s'=>r=.ok (.ret (.bool true))/\OldK s₁.heap s'.heap/\s'.os=s₁.os/\AllBare s'.gens) s₁:=by
  intro H hO hS hok hA hK
  have base_of:∀{b:Addr}{o:Obj},s₁.heap.get? b=some o->H b=none->(eC s₁.heap H).get? b=some o:=fun e n=>uS e n
  have noA:∀{b:Addr}{o:Obj}{es:Array DictEntry}{ep:Nat},s₁.heap.get? b=some o->o.data=.dict es ep->H b=none:=fun {b o es ep} e d=>by
   cases q:H b with
   | none=>rfl
   | some u =>
    have e':b=a:=hA b (by rw [q];simp)
    subst e'
    rw [ha] at e;cases e
    have d':Data.seq vs.toArray _=Data.dict es ep:=d
    cases d'
  have nsK:∀{b:Addr}{m:Str->Option Value},s₁.heap.Ns b m->(eC s₁.heap H).Ns b m:=fun {b m} ⟨o,es,ep,e,d,r⟩=>⟨o,es,ep,base_of e (noA e d),d,r⟩
  have hKb:K.In (eC s₁.heap H):=fun b o e=>base_of (KX b o e) (by
   cases q:H b with
   | none=>rfl
   | some u =>
    have e':b=a:=hA b (by rw [q];simp)
    subst e'
    rw [hK (by rw [q];simp)] at e;cases e)
  have hM:Mod K mg (eC s₁.heap H):=⟨hKb,nsK hns,⟨mb,nsK hb,hbb⟩,let ⟨mc,h1,h2⟩:=hlim;⟨mc,nsK h1,h2⟩⟩
  have e0:fw P w K mg (eC s₁.heap H) callerA [] s₁ H:=⟨rfl,hM,fun b o e=>vL e,Nat.le_of_eq (ua _ _),trivial,fun b hb=>absurd (show b∈([]:List Addr) from hb) (by simp),hok,.of_eq hg⟩
  refine codeAny_mono ((F _ hKb (nsK hns)).run callerA [] s₁ H ⟨[.ref a],[]⟩ [.ref a] [.ref a] _ _ hr e0 (hbind s₁ (.ref a)) (.cons rfl .nil) (hsp H hO hS)) fun r s' h=>?_
  cases r with
  | error e=>exact (hCX H e s' h).elim
  | ok fl =>
   cases fl with
   | next=>exact False.elim h
   | brk=>exact False.elim h
   | cont=>exact False.elim h
   | ret u =>
    obtain⟨v,H',os,bare,un,hok',r',q⟩:=h
    have q':v=.bl true:=q
    subst q'
    obtain rfl:u=Value.bool true:=r'
    refine⟨rfl,OldK.of_keep fun b o e=>?_,os,bare⟩
    cases q:H b with
    | none=>exact un.keep b o e q (by intro z;exact absurd (show b∈([]:List Addr) from z) (by simp)) (by simp)
    | some u =>
     rcases hO b with z | ⟨ob,xs,z⟩
     ·rw [q] at z;cases z
     ·have z2:=un.frzs b ob _ z
      obtain⟨e1,_⟩:=hok b _ z
      obtain⟨e2,_⟩:=hok' b _ z2
      rw [e] at e1;cases e1
      exact e2
 cases hk:K.lookup a with
 | some o =>
  have e:=KX a o hk
  rw [ha] at e
  cases e
  refine core (fun _=>none) (fun _=>.inl rfl) (.inr ⟨_,vs.toArray,_,hk,rfl,rfl,rfl,by rw [List.size_toArray,lenV];exact hl,by simpa using rv⟩) (fun b u z=>by have z':(none:Option HO)=some u:=z;cases z') (fun b z=>absurd rfl z) fun z=>absurd rfl z
 | none =>
  refine core (fun b=>if b=a then some (.frz { cls:=.type "list",data:=.seq vs.toArray } (.lst (ns.map V.int))) else none) (fun b=>?_) (.inl (.inr ⟨{ cls:=.type "list",data:=.seq vs.toArray },if_pos rfl⟩)) (fun b u z=>?_) (fun b z=>?_) fun _=>hk
  ·by_cases hb:b=a
   ·exact .inr ⟨_,_,if_pos hb⟩
   ·exact .inl (if_neg hb)
  ·by_cases hb:b=a
   ·have z':=(if_pos hb).symm.trans z
    cases z'
    subst hb
    exact⟨ha,by rw [List.length_map];exact hl,vs,_,rv,ha⟩
   ·have z':=(if_neg hb).symm.trans z
    cases z'
  ·by_cases hb:b=a
   ·exact hb
   ·exact absurd (if_neg hb) z
theorem yE {l:PySem.W.OpenLaw}{n k:Nat}{q:Program}{loose:List Str}{XP:(Str->Option Value)->Heap->Prop}{YP:World->Heap->Prop}{d:DefRec}{K:Params->PySem.W.Frag}{CX:World->CXT}{sp:World->Sp}{x:Str}
  (hn:l.most=some n) (hn2:n<=sizeLine) (hdf:d.params.defaults=[]) (hr:aK k callerA)
  (hY:∀(w:World) (h:Heap),YP w h->(K w.params).In h)
  (F:∀(w:World) (mg:Str->Option Value) (fa:Addr) (h:Heap),(K w.params).In h->h.Ns mainGlobals mg->mg d.name=some (.ref fa) ->
   ∃fd:FuncData,(∀(s:Shared) (u:Value),BindsTo s fd ⟨[u],[]⟩ [(x,u)]) /\
    ∀base:Heap,(K w.params).In base->base.Ns mainGlobals mg->aA l.prog w (K w.params) mg base (CX w) k fa fd [x] (sp w))
  (hsp:∀(w:World) (H:Hp) (a:Addr) (ns:List Int),ns.length<=n->kH H->SqL (K w.params) H a (ns.map V.int)->sp w [.ref a] H (fun v _=>v=.bl true) fun _ _ _=>False)
  (hCX:∀(w:World) (H:Hp) (s:Shared) (e:Value) (s':Shared),CX w [] H s (fun _ _ _=>False) e s'->False) :
  PySem.W.WalkO q loose XP YP l.row.toRowW d [] (fun f vs=>PySem.call f vs):=by
 refine Att.yA hn hdf fun w s₀ s₁ mg mb fa o pm cd doc a vs ns G Y ho hd hcd hmg hobj hints hlen hg=>?_
 have KX:=hY w _ Y
 obtain⟨fd,hb,hF⟩:=F w mg fa _ KX G.T.g hmg
 exact uX KX G.T.g G.T.b G.T.builtins G.T.nolimit hg hobj hints (Nat.le_trans hlen hn2) hr hF hb (fun H hO hS=>hsp w H a ns hlen hO hS) fun H e s'=>hCX w H s₁ e s'
end L2
/- THE LAST THEOREM (shape;LID,My.* are yours):
  My.Adr: a structure of the addresses that your layer names (classes,functions);My.Txt K t: a structure (Prop) of the equations over K;
  My.txt_mk:{K}{implicit addresses ..} (e1:nsIn K mainGlobals "law"=some (some (.ref f))) (e2:K.lookup f=some ⟨oc,od,.func (fnOf "law" "law" params body scope dV kV doc pm an cdv ct),sl⟩) (e3:codeIn K cdv "law"=true) ..:∃t,My.Txt K t
set_option maxRecDepth 100000 in
set_option maxHeartbeats 0 in
theorem PySem.Challenge.cw_LID_holds : PySem.Challenge.rw_LID.Holds := by
 w_on;o_law;k_head;(case hw=>w_witness2)
 k_fill
 refine L2.yE (l:=PySem.Challenge.rw_LID) (n:=63) (k:=40) (x:="script") (CX:=fun w=>..) (sp:=fun _=>My.sp_law) rfl (by decide) rfl ⟨rfl,by decide,by decide⟩ (fun w h Y=>PySem.W.kIn_of Y) ?F ?S ?C
 case F =>
  intro w mg fa h KX G hmg
  have T:∃t,My.Txt (L2.KOf KX) t:=by
   dsimp only [L2.KOf]
   refine' My.txt_mk ?e1 ?e2 ?e3 ..
   (case e1=>PySem.W.k_is)
   (case e2=>PySem.W.k_is)
   ..
  obtain⟨t,T⟩:=T
  have e0:=hmg.symm.trans (PySem.W.mg_of KX G T.law)
  cases e0
  exact⟨_,fun s u=>.of_eq rfl,fun base kb nb=>My.law_fn T kb nb⟩
 case S=>exact fun w H a ns hl hO hS=>..
 case C=>exact ..
(the tactic k_is has no namespace: write k_is) -/
namespace L2
open PySem PySem.Spec PyProof.Rows
noncomputable def dP (s:Stmt):Arguments:=match s with
 | .FunctionDef _ a _ _ _ _ _ _ _ _=>a
 | _=>{ posonlyargs:=[],args:=[],vararg:=none,kwonlyargs:=[],kw_defaults:=[],kwarg:=none,defaults:=[] }
noncomputable def cW (s:Stmt):List Stmt:=match s with
 | .FunctionDef _ _ b _ _ _ _ _ _ _=>b
 | _=>[]
noncomputable def aB (s:Stmt):Scope:=match s with
 | .FunctionDef _ _ _ _ _ _ sc _ _ _=>sc
 | _=>{ kind:=.function,names:=[],isGenerator:=false,isCoroutine:=false }
noncomputable abbrev CX0:CXT:=fun _ _ _ _ _ _=>False
noncomputable abbrev E0:XK:=fun _ _ _=>False
theorem o8 {X:Cx}:eM CX0 X E0:=fun _ _ _ _ _ _ _ h=>h.elim
structure Fun (K:PySem.W.Frag) (x qual:Str) (st:Stmt) (f:Addr) (fd:FuncData):Prop where
 ex:∃(oc:Value) (od:Option Addr) (kV doc pm:Value) (an:Option Addr) (cdv ct:Value) (osl:Array (Option Value)),
  fd=PySem.W.fnOf x qual (dP st) (cW st) (aB st) .none kV doc pm an cdv ct/\K.lookup f=some ⟨oc,od,.func fd,osl⟩/\PySem.W.codeIn K cdv qual=true
 kp:PySem.W.keepIn K (.ref f)=true
section
variable {P:Program}{w:World}{K:PySem.W.Frag}{mg:Str->Option Value}{base:Heap}
theorem Fun.ok {x qual:Str}{st:Stmt}{f:Addr}{fd:FuncData}{N ps:List Str}{k:Nat}{sp:Sp} (F:Fun K x qual st f fd) (S:aL N ps (aB st)) (len:∀vs H Q E,sp vs H Q E->vs.length=ps.length)
  (hbody:∀(cdv:Value) (A:Around) (outer:List Env) (s:Shared) (H:Hp) (vs:List V) (Q:VK) (E:XK),aK k (A.deeper (envOfC qual (aB st) s.heap.objs.size f cdv))->sp vs H Q E ->
   ∃t,PSs (be CX0 P w K mg base N qual (aB st) f cdv A outer s H E).nox (cW st) t/\t { nx:=fun _ H'=>Q .non H',rt:=Q } (start N vs) H):aA P w K mg base CX0 (k + 1) f fd ps sp:=by
 obtain⟨oc,od,kV,doc,pm,an,cdv,ct,osl,rfl,lk,hcd⟩:=F.ex
 refine pb lk hcd S len fun A outer s H vs Q E hr hsp=>?_
 obtain⟨t,h,q⟩:=hbody cdv A outer s H vs Q E hr hsp
 exact⟨t,h.nox,q⟩
theorem Fun.binds {x qual:Str}{st:Stmt}{f:Addr}{fd:FuncData}{ps:List Str} (F:Fun K x qual st f fd)
  (h:∀(kV doc pm:Value) (an:Option Addr) (cdv ct:Value) (us:List Value),us.length=ps.length->bindArgs (PySem.W.fnOf x qual (dP st) (cW st) (aB st) .none kV doc pm an cdv ct) ⟨us,[]⟩=pure (ps.zip us)):Binds K fd ps []:=by
 obtain⟨oc,od,kV,doc,pm,an,cdv,ct,osl,rfl,lk,hcd⟩:=F.ex
 exact .all (h kV doc pm an cdv ct)
theorem iy {x qual:Str}{st:Stmt}{f:Addr}{oc:Value}{od an:Option Addr}{osl:Array (Option Value)}{kV doc pm cdv ct:Value} (l:K.lookup f=some ⟨oc,od,.func (PySem.W.fnOf x qual (dP st) (cW st) (aB st) .none kV doc pm an cdv ct),osl⟩)
  (c:PySem.W.codeIn K cdv qual=true) (k:PySem.W.keepIn K (.ref f)=true):Fun K x qual st f (PySem.W.fnOf x qual (dP st) (cW st) (aB st) .none kV doc pm an cdv ct):=⟨⟨oc,od,kV,doc,pm,an,cdv,ct,osl,rfl,l,c⟩,k⟩
end
theorem rV {n:Nat} (h:n<=1000):n < sizeLine:=Nat.lt_of_le_of_lt h (by decide)
section
variable {X:Cx}
theorem pv (i:Nat) {x:Str}{pos:Pos} (hN:X.N[i]?=some x:=by rfl) (hv:Vis X.env.scope x:=by first | exact Or.inl rfl | exact Or.inr (Or.inl rfl) | exact Or.inr (Or.inr rfl)) (hd:(x == ("__debug__":Str))=false:=by decide)
  (hcd:(x == ("__classdict__":Str))=false:=by decide):PE X (.Name x pos) (bz i):=w5 hN hv hd hcd
end
theorem aH {A B:Prop} (h:B):if false=true then A else B:=by
 rw [if_neg Bool.false_ne_true]
 exact h
theorem ao {A B:Prop} (h:A):if true=true then A else B:=by
 rw [if_pos rfl]
 exact h
theorem bA {c A B:Prop} [Decidable c] (h1:c->A) (h2:¬ c->B):if c then A else B:=by
 by_cases h:c
 ·rw [if_pos h]
  exact h1 h
 ·rw [if_neg h]
  exact h2 h
theorem ez {c A B:Prop} [Decidable c] (hc:c) (h:B):if (!decide c)=true then A else B:=by
 rw [decide_eq_true hc]
 exact aH h
noncomputable def ai (H H':Hp):Prop:=∀b o,H b=some o->H' b=some o
theorem ai.refl (H:Hp):ai H H:=fun _ _ h=>h
theorem ai.trans {H H1 H2:Hp} (a:ai H H1) (b:ai H1 H2):ai H H2:=fun c o h=>b c o (a c o h)
theorem ai.free {H H':Hp} (e:ai H H') {l:Addr} (h:H' l=Option.none):H l=Option.none:=by
 cases q:H l with
 | none=>rfl
 | some o =>
  rw [e l o q] at h
  cases h
theorem ai.seq {K:PySem.W.Frag}{H H':Hp}{a:Addr}{xs:List V} (e:ai H H') (h:SqL K H a xs):SqL K H' a xs:=by
 rcases h with (h | ⟨o,h⟩) | h
 ·exact .inl (.inl (e _ _ h))
 ·exact .inl (.inr ⟨o,e _ _ h⟩)
 ·exact .inr h
noncomputable def cg (env:Env):List (Str×NameKind)->List (Str×Addr)->List (Str×Addr)
 | [],acc=>acc
 | (x,k)::r,acc=>if (k == NameKind.free)=true then (match env.cells.lookup x with | some c=>cg env r ((x,c)::acc) | none=>cg env r acc) else cg env r acc
theorem gY (env:Env):∀(ns:List (Str×NameKind)) (acc:List (Str×Addr)) (x:Str) (c:Addr),(x,c)∈cg env ns acc->(x,c)∈acc\/env.cells.lookup x=some c
 | [],acc,x,c,h=>.inl h
 | (y,k)::r,acc,x,c,h=>by
  unfold cg at h
  split at h
  ·split at h
   ·next d e =>
    rcases gY env r _ x c h with z | z
    ·rcases List.mem_cons.mp z with q | q
     ·cases q;exact .inr e
     ·exact .inl q
    ·exact .inr z
   ·exact gY env r acc x c h
  ·exact gY env r acc x c h
theorem hZ (env:Env):∀(ns:List (Str×NameKind)) (acc:List (Str×Addr)) (p:Str×Addr),p∈acc->p∈cg env ns acc
 | [],acc,p,h=>h
 | (y,k)::r,acc,p,h=>by
  unfold cg
  split
  ·split
   ·exact hZ env r _ p (List.mem_cons_of_mem _ h)
   ·exact hZ env r _ p h
  ·exact hZ env r _ p h
theorem hU (env:Env):∀(ns:List (Str×NameKind)) (acc:List (Str×Addr)) (x:Str) (c:Addr),(x,NameKind.free)∈ns->env.cells.lookup x=some c->(x,c)∈cg env ns acc
 | [],acc,x,c,h,_=>nomatch h
 | (y,k)::r,acc,x,c,h,e=>by
  unfold cg
  rcases List.mem_cons.mp h with q | q
  ·cases q
   rw [if_pos (show (NameKind.free == NameKind.free)=true from rfl),e]
   exact hZ env r _ _ List.mem_cons_self
  ·split
   ·split
    ·exact hU env r _ x c q e
    ·exact hU env r _ x c q e
   ·exact hU env r _ x c q e
theorem uF {l:List (Str×Addr)}{x:Str}{c:Addr} (h:(x,c)∈l):∃d,l.lookup x=some d:=by
 induction l with
 | nil=>cases h
 | cons p r ih =>
  obtain⟨y,d⟩:=p
  rw [List.lookup_cons]
  cases hx:x == y with
  | true=>exact⟨d,rfl⟩
  | false =>
   rcases List.mem_cons.mp h with q | q
   ·cases q
    rw [beq_self_eq_true] at hx
    cases hx
   ·exact ih q
theorem dg {env:Env}{ns:List (Str×NameKind)}{x:Str}{c:Addr} (h:(cg env ns []).lookup x=some c):env.cells.lookup x=some c:=by
 rcases gY env ns [] x c (PySem.mem_of_lookup h) with z | z
 ·cases z
 ·exact z
theorem lV {env:Env}{ns:List (Str×NameKind)}{x:Str}{c:Addr} (h:(x,NameKind.free)∈ns) (e:env.cells.lookup x=some c):(cg env ns []).lookup x=some c:=by
 obtain⟨d,q⟩:=uF (hU env ns [] x c h e)
 rw [q,<- dg q,e]
theorem rD {env:Env}{scope:Scope} (h:∀x∈scope.names,x.2=NameKind.free->∃c,env.cells.lookup x.1=some c):closureFor scope env=pure (cg env scope.names []):=by
 have go:∀(ns:List (Str×NameKind)) (acc:List (Str×Addr)),(∀x∈ns,x.2=NameKind.free->∃c,env.cells.lookup x.1=some c) ->
   (forIn ns acc (fun x cs=>match x with | (name,kind)=>if (kind == NameKind.free)=true then (do let c <- cellOf env name;pure (ForInStep.yield ((name,c)::cs))) else pure (ForInStep.yield cs)):Sem (List (Str×Addr)))=pure (cg env ns acc):=by
  intro ns
  induction ns with
  | nil=>intro acc _;rfl
  | cons p r ih =>
   intro acc hh
   obtain⟨y,k⟩:=p
   rw [List.forIn_cons]
   unfold cg
   by_cases hk:(k == NameKind.free)=true
   ·rw [if_pos hk]
    obtain⟨c,e⟩:=hh (y,k) List.mem_cons_self (by cases k <;> first | rfl | cases hk)
    dsimp only at e ⊢
    rw [if_pos hk]
    unfold cellOf
    rw [e]
    exact ih _ fun x hx=>hh x (List.mem_cons_of_mem _ hx)
   ·rw [if_neg hk]
    dsimp only
    rw [if_neg hk]
    exact ih _ fun x hx=>hh x (List.mem_cons_of_mem _ hx)
 unfold closureFor
 have q:=go scope.names [] h
 simp only [bind_pure]
 exact q
noncomputable def aw (X:Cx) (scope:Scope) (N:List Str) (C:Addr) (s0:Shared) (H0:Hp) (fp:List Addr):Cx :=
 { X with N:=N,s₀:=s0,H₀:=H0,env:=compEnvC scope (cg X.env scope.names []) C X.env,outer:=X.stack,stack:=X.stack,ex:=fp,fn:=fun _=>false,pn:=[],xe:=fun _ _=>False }
noncomputable def emb (ix:List (Option Nat)) (σ:St):St:=ix.map fun o=>match o with | none=>none | some j=>(σ[j]?).join
noncomputable def j4 (No:List Str) (out:Str->Option NameKind) (scope:Scope) (N:List Str) (ix:List (Option Nat)):Bool :=
 (N.length == ix.length) && (N.zip ix).all fun p=>match p.2 with | none=>true | some j=>(No[j]? == some p.1) && (scope.names.lookup p.1 == some NameKind.free) && ((out p.1 == some .cell) || (out p.1 == some .free))
structure bR (X:Cx) (scope:Scope) (N:List Str) (ix:List (Option Nat)):Prop where
 kind:scope.kind=.function
 names:scope.names.all (fun x=>(x.2 != .cell) && ((x.2 != .local) || (scope.names.lookup x.1 == some .local)) && ((x.2 != .free) || (X.env.kindOf x.1 == some .cell) || (X.env.kindOf x.1 == some .free)))=true
 em:j4 X.N X.env.kindOf scope N ix=true
 nd:N.Nodup
theorem j2 {scope:Scope}{env:Env}{x:Str}{k:NameKind}:∀{ns:List (Str×NameKind)},(ns.map fun (n,k)=>if (k == NameKind.free && env.scope.kind == .function && env.kindOf n == some .cell)=true then (n,NameKind.cell) else (n,k)).lookup x=some k ->
  (k=.cell\/k=.free)->(∀y∈ns,y.2≠.cell)->(x,NameKind.free)∈ns
 | [],h,_,_=>by cases h
 | (n,k')::r,h,hk,hc=>by
  have ih:=fun h'=>j2 (scope:=scope) (env:=env) (x:=x) (k:=k) (ns:=r) h' hk fun y hy=>hc y (List.mem_cons_of_mem _ hy)
  have key:∀k'':NameKind,List.lookup x ((n,k'')::(r.map fun (n,k)=>if (k == NameKind.free && env.scope.kind == .function && env.kindOf n == some .cell)=true then (n,NameKind.cell) else (n,k)))=some k ->
    (k''=k'\/(k''=.cell/\k'=.free))->(x,NameKind.free)∈(n,k')::r:=fun k'' h hq=>by
   rw [List.lookup_cons] at h
   cases hx:x == n with
   | true =>
    rw [hx] at h
    cases h
    have e:x=n:=eq_of_beq hx
    subst e
    rcases hq with q | ⟨_,q⟩
    ·rcases hk with z | z
     ·exact absurd (q.symm.trans z) (hc (x,k') List.mem_cons_self)
     ·rw [<- q,z];exact List.mem_cons_self
    ·rw [q];exact List.mem_cons_self
   | false =>
    rw [hx] at h
    exact List.mem_cons_of_mem _ (ih h)
  rw [List.map_cons] at h
  dsimp only at h
  split at h
  ·next hh =>
   refine key _ h (.inr ⟨rfl,?_⟩)
   cases k' <;> first | rfl | (simp at hh)
  ·exact key _ h (.inl rfl)
theorem ot {env:Env}{x:Str}:∀{ns:List (Str×NameKind)},ns.lookup x=some NameKind.free->∃k,(k=NameKind.cell\/k=NameKind.free) /\
  (ns.map fun (n,k)=>if (k == NameKind.free && env.scope.kind == .function && env.kindOf n == some .cell)=true then (n,NameKind.cell) else (n,k)).lookup x=some k
 | [],h=>by cases h
 | (n,k')::r,h=>by
  rw [List.lookup_cons] at h
  rw [List.map_cons]
  dsimp only
  cases hx:x == n with
  | true =>
   rw [hx] at h
   cases h
   split
   ·exact⟨_,.inl rfl,by rw [List.lookup_cons,hx]⟩
   ·exact⟨_,.inr rfl,by rw [List.lookup_cons,hx]⟩
  | false =>
   rw [hx] at h
   obtain⟨k,hk,e⟩:=ot (env:=env) (ns:=r) h
   refine⟨k,hk,?_⟩
   split <;> (rw [List.lookup_cons,hx];exact e)
section
variable {X:Cx}{scope:Scope}{N:List Str}{ix:List (Option Nat)}
theorem bR.nocell (L:bR X scope N ix):∀x∈scope.names,x.2≠.cell:=fun x hx z=>by
 have q:=List.all_eq_true.mp L.names x hx
 rw [z] at q
 simp at q
theorem bR.locals (L:bR X scope N ix):∀x∈scope.names,x.2=.local->scope.names.lookup x.1=some .local:=fun x hx z=>by
 have q:=List.all_eq_true.mp L.names x hx
 rw [z] at q
 simpa using q
theorem bR.frees (L:bR X scope N ix):∀x∈scope.names,x.2=.free->X.env.kindOf x.1=some .cell\/X.env.kindOf x.1=some .free:=fun x hx z=>by
 have q:=List.all_eq_true.mp L.names x hx
 rw [z] at q
 simpa using q
theorem bR.clos (L:bR X scope N ix) (ok:X.Ok):closureFor scope X.env=pure (cg X.env scope.names []) :=
 rD fun x hx z=>ok.has _ (L.frees x hx z)
theorem bR.len (L:bR X scope N ix):N.length=ix.length:=by
 have q:=L.em
 unfold j4 at q
 rw [Bool.and_eq_true] at q
 exact eq_of_beq q.1
theorem bR.out (L:bR X scope N ix) {i j:Nat}{x:Str} (h1:N[i]?=some x) (h2:ix[i]?=some (some j)):X.N[j]?=some x/\scope.names.lookup x=some NameKind.free/\(X.env.kindOf x=some .cell\/X.env.kindOf x=some .free):=by
 have q:=L.em
 unfold j4 at q
 rw [Bool.and_eq_true] at q
 have hz:(N.zip ix)[i]?=some (x,some j):=by
  rw [List.getElem?_zip_eq_some]
  exact⟨h1,h2⟩
 have r:=List.all_eq_true.mp q.2 _ (List.mem_of_getElem? hz)
 simp only [Bool.and_eq_true,Bool.or_eq_true,beq_iff_eq] at r
 exact⟨r.1.1,r.1.2,r.2⟩
theorem xK (L:bR X scope N ix) {pins:List (Addr×Obj)}{σ:St}{H2:Hp}{s2:Shared}{C:Addr}{fp:List Addr} (I2:Inv X pins σ H2 s2) (hC:s2.heap.objs.size<=C) (hf:∀b∈fp,bJ X pins H2 b) (hb:∀b∈fp,b < s2.heap.objs.size) :
  (aw X scope N C s2 H2 fp).Ok where
 mod:=I2.ok.mod
 kind:=L.kind
 glob:=I2.ok.glob
 blt:=I2.ok.blt
 above:=hC
 inj:=fun x y c h1 h2=>I2.ok.inj x y c (dg h1) (dg h2)
 has:=fun x hx=>by
  have hm:(x,NameKind.free)∈scope.names:=by
   rcases hx with hx | hx
   ·exact j2 (scope:=scope) (env:=X.env) hx (.inl rfl) L.nocell
   ·exact j2 (scope:=scope) (env:=X.env) hx (.inr rfl) L.nocell
  obtain⟨c,e⟩:=I2.ok.has x (L.frees _ hm rfl)
  exact⟨c,lV hm e⟩
 cab:=fun x c h _=>Bool.noConfusion h
 hd:=I2.ok.hd
 frames:=I2.ok.frames
 stk:=.inl rfl
 exf:=fun b h=>⟨Nat.ne_of_lt (Nat.lt_of_lt_of_le (hb b h) hC),fun x c e=>(hf b h).2.2.2.2.1 x c (dg e)⟩
 bs:=fun b o e=>I2.bs b o e
 bsz:=Nat.le_trans I2.ok.bsz I2.sz
 noex:=fun b o e h=>by
  rcases (hf b h).2.2.2.1 with z | z
  ·exact I2.ok.noex b o e z
  ·exact absurd (Nat.lt_of_lt_of_le (Heap.lt_size e) (Nat.le_trans I2.ok.bsz z)) (Nat.lt_irrefl _)
 exfs:=fun b h z=>(List.mem_cons.mp (I2.stkSub b z)).elim (hf b h).2.1 (hf b h).2.2.1
 funs:=I2.stack
 frf:=fun b h=>I2.stkFree b h
end
noncomputable def PTs (X:Cx) (ifs:List Expr) (t:TT):Prop :=
 ∀(pins:List (Addr×Obj)) (s:Shared) (σ:St) (H:Hp) (Q:Bool->Hp->Prop),Inv X pins σ H s->t σ H Q ->
  wpAny (model X.prog X.w) X.A (forIn ifs true fun c r=>if r=true then do let ok <- isTrue c X.env (eval c X.env);pure (ForInStep.yield ok) else pure (ForInStep.yield r)) (TP X pins σ Q) X.xe s
noncomputable def cL:TT:=fun _ H Q=>Q true H
theorem bK {X:Cx}:PTs X [] cL:=fun _ _ _ H _ I h=>wpAny_tests_nil ⟨H,I,h⟩
theorem fe {X:Cx}{c:Expr}{t:TT} (h:PT X c t):PTs X [c] t:=fun pins s σ H Q I q=>wpAny_tests_one (h pins s σ H Q I q)
section
variable {prog:Program}{w:World}{A:Around}{R:Result->Shared->Prop}{s:Shared}
theorem vY {elt tg iter:Expr}{ifs:List Expr}{scope:Scope}{pos:Pos}{it acc:Value}{env:Env} (J:Nat->Shared->Prop)
  (turn:∀n s,J n s->wpAny (model prog w) A (pyNext it) (fun r s1=>match r with
   | none=>R (.ok .next) s1
   | some v=>wpAny (model prog w) A (letOwnedTupleGo tg it v) (fun _ s2=>wpAny (model prog w) A (assign tg env v) (fun _ s3 =>
     wpAny (model prog w) A (forIn ifs true fun c r=>if r=true then do let ok <- isTrue c env (eval c env);pure (ForInStep.yield ok) else pure (ForInStep.yield r)) (fun ok s4 =>
      if ok=true then wpAny (model prog w) A (eval elt env) (fun x s5=>wpAny (model prog w) A (call (.builtin "list.append") [acc,x]) (fun _ s6=>∃m,m < n/\J m s6) (fun _ _=>False) s5) (fun _ _=>False) s4
      else ∃m,m < n/\J m s4) (fun _ _=>False) s3) (fun _ _=>False) s2) (fun _ _=>False) s1) (fun _ _=>False) s)
  (n:Nat) (h:J n s):codeAny (model prog w) A (.compLoop (.ListComp elt [⟨tg,iter,ifs,0⟩] scope pos) 0 it acc env) R s:=by
 refine codeAny_loop rfl J (fun k t hJ=>?_) n h
 show wpAny _ A ((compTurn (.ListComp elt [⟨tg,iter,ifs,0⟩] scope pos) 0 it acc env).onRaise (fun x=>do noteFrame x env;theTreesLotGoes x)) _ _ t
 refine wpAny_noted (wpAny_mono (E:=fun _ _=>False) ?_ (fun _ _ q=>q) fun _ _ f=>f.elim)
 rw [compTurn_list]
 refine wpAny_bind (wpAny_standAt (wpAny_bind (thn (turn k t hJ) fun r s1 h1=>?_)))
 cases r with
 | none=>exact wpAny_pure h1
 | some v =>
  refine wpAny_bind (thn h1 fun _ s2 h2=>wpAny_bind (thn h2 fun _ s3 h3=>wpAny_bind (thn h3 fun ok s4 h4=>?_)))
  cases ok with
  | false=>exact wpAny_pure ⟨rfl,h4⟩
  | true=>exact wpAny_bind (wpAny_bind (thn h4 fun x s5 h5=>wpAny_bind (thn h5 fun _ s6 h6=>wpAny_pure (wpAny_pure ⟨rfl,h6⟩))))
end
noncomputable def LcW (J:It) (g:TG) (tt:TT) (te:TE) (σ':St) (fin:List V->Hp->Prop) (H1:Hp):Prop :=
 ∃W:Nat->Nat->List V->St->Hp->Prop,(∃m,W 0 m [] σ' H1)/\∀i m ys σ H,W i m ys σ H ->
  (J.stop i H/\ys.length<=sizeLine/\fin ys H)\/(J.go i H/\ys.length < sizeLine/\∃Nx:List V->St->Hp->Prop,(∀ys' σ' H',Nx ys' σ' H'->∃m',m' < m/\W (i + 1) m' ys' σ' H') /\
   ∀x H',J.yld i H x H'->g x σ H' fun σ2 H2=>tt σ2 H2 fun b H3=>if b=true then te σ2 H3 (fun v H4=>Nx (ys++[v]) σ2 H4) else Nx ys σ2 H3)
noncomputable def tLc (wi:TI) (g:TG) (tt:TT) (te:TE) (ix:List (Option Nat)):TE:=fun σ H Q=>wi σ H fun J H1=>LcW J g tt te (emb ix σ) (fun ys H'=>∀p,H' p=none->Q (.ref p) (upd H' p (.lst ys))) H1
section
variable {X:Cx}{scope:Scope}{N:List Str}{ix:List (Option Nat)}
theorem nX {pins pins':List (Addr×Obj)}{σ σ':St}{H2 H':Hp}{s2 s':Shared}{C D:Addr}{fp:List Addr}{ys:List V}{its:List Value}{k:Nat}{h':Heap} (I2:Inv X pins σ H2 s2) (hf:∀b∈fp,bJ X pins H2 b)
  (I':Inv (aw X scope N C s2 H2 fp) pins' σ' H' s') (hC:s2.heap.objs.size<=C) (hD:s2.heap.objs.size<=D) (hDC:D≠C) (hn:H' D=none) (ho:s'.heap.get? D=some { cls:=.type "list",data:=.seq its.toArray k }) (rv:av ys its) (hz:ys.length<=sizeLine)
  (hs:∀b o,b≠C->s'.heap.get? b=some o->h'.get? b=some o):Inv X pins σ (upd H' D (.lst ys)) { s' with heap:=h' }:=by
 have B:Un (frs X.stack) fp H2 H' s2.heap s'.heap:=I'.base
 have neC:∀b o,s2.heap.get? b=some o->b≠C:=fun b o e=>Nat.ne_of_lt (Nat.lt_of_lt_of_le (Heap.lt_size e) hC)
 have neD:∀b o,s2.heap.get? b=some o->b≠D:=fun b o e=>Nat.ne_of_lt (Nat.lt_of_lt_of_le (Heap.lt_size e) hD)
 have hCn:H' C=none:=I'.free
 have tD:∀b u,H' b=some u->b≠D:=fun b u e=>bu e hn
 have tC:∀b u,H' b=some u->b≠C:=fun b u e=>bu e hCn
 refine I2.call' (s':={ s' with heap:=h' }) (ch:=fp) I'.os ⟨fun b o e n hb hx=>?_,fun b o e n hb hx=>?_,fun b o e n hx=>?_,fun b o e hx=>?_,fun b xs e=>?_,fun b o u e=>?_,fun b ps e=>?_⟩ (fun b u e=>?_) I'.bare fun b hb=>⟨(hf b hb).2.2.2.1,(hf b hb).2.1,(hf b hb).2.2.2.2.1,(hf b hb).2.2.2.2.2⟩
 ·exact hs b o (neC b o e) (B.keep b o e n hb hx)
 ·obtain⟨sl,q⟩:=B.slot b o e n hb hx
  exact⟨sl,hs b _ (neC b o e) q⟩
 ·rw [aq (neD b o e)];exact B.free b o e n hx
 ·obtain⟨o',q⟩:=B.there b o e hx
  exact⟨o',hs b o' (neC b o e) q⟩
 ·rw [aq (tD b _ (B.tups b xs e))];exact B.tups b xs e
 ·rw [aq (tD b _ (B.frzs b o u e))];exact B.frzs b o u e
 ·obtain⟨m,q⟩:=B.tbls b ps e
  exact⟨m,by rw [aq (tD b _ q)];exact q⟩
 ·by_cases hb:b=D
  ·subst hb
   rw [ak] at e
   cases e
   exact⟨hz,its,k,rv,hs b _ hDC ho⟩
  ·rw [aq hb] at e
   refine (I'.hok b u e).stay (fun c v hc q=>hs c v ?_ q) (fun c q=>by rw [aq (tD c _ q)];exact q) fun c xs q=>by rw [aq (tD c _ q)];exact q
   rcases hc with z | z
   ·rw [z];exact tC b u e
   ·exact tC c _ z
theorem iC (L:bR X scope N ix) {pins:List (Addr×Obj)}{σ:St}{H2:Hp}{s2:Shared}{C:Addr}{fp:List Addr}{h1:Heap}{tk:Nat}{m:Str->Option Value} (I2:Inv X pins σ H2 s2) (hC:s2.heap.objs.size<=C) (hf:∀b∈fp,bJ X pins H2 b) (hb:∀b∈fp,b < s2.heap.objs.size)
  (kp:∀b o,s2.heap.get? b=some o->h1.get? b=some o) (hn:h1.Ns C m):Inv (aw X scope N C s2 H2 fp) [] (emb ix σ) H2 { s2 with heap:=h1,toks:=tk }:=by
 refine⟨xK L I2 hC hf hb,rfl,I2.bare,Un.kept kp,⟨m,hn,fun i x v e1 e2 e3=>?_⟩,fun x c e=>?_,I2.hok.fresh hC,fun x c e=>I2.freeC x c (dg e),fun p hp=>absurd (show p∈([]:List (Addr×Obj)) from hp) (by simp),I2.hok.kept kp,?_⟩
 ·unfold emb at e2
  rw [List.getElem?_map] at e2
  cases q:ix[i]? with
  | none=>rw [q] at e2;cases e2
  | some o =>
   rw [q] at e2
   cases o with
   | none=>cases e2
   | some j =>
    have e2':(σ[j]?).join=some v:=Option.some.inj e2
    have e4:σ[j]?=some (some v):=by
     cases z:σ[j]? with
     | none=>rw [z] at e2';cases e2'
     | some y=>rw [z] at e2';exact congrArg some e2'
    obtain⟨a1,a2,a3⟩:=L.out e1 q
    obtain⟨mo,_,hl⟩:=I2.loc
    obtain⟨u,r,lk⟩:=hl j x v a1 e4 (.inr a3)
    refine⟨u,r,?_⟩
    rcases lk with ⟨k,_⟩ | ⟨k,c,e,o,ho,hd⟩
    ·rcases a3 with z | z
     ·rw [z] at k;cases k
     ·rw [z] at k;cases k
    ·obtain⟨k',hk',e'⟩:=ot (env:=X.env) a2
     refine .inr ⟨?_,c,lV (PySem.mem_of_lookup a2) e,o,kp _ _ ho,hd⟩
     rcases hk' with z | z
     ·subst z;exact .inl e'
     ·subst z;exact .inr e'
 ·obtain⟨v,o,ho,hd⟩:=I2.cell x c (dg e)
  exact⟨v,o,kp _ _ ho,hd⟩
 ·unfold emb
  rw [List.length_map]
  exact L.len.symm
variable {tg iter elt:Expr}{ifs:List Expr}{pos:Pos}{g:TG}{tt:TT}{te:TE}
theorem oI (L:bR X scope N ix) (hc:X.calm=true) (hg:∀C s0 H0 fp,PG (aw X scope N C s0 H0 fp) tg g) (ht:∀C s0 H0 fp,PTs (aw X scope N C s0 H0 fp) ifs tt) (he:∀C s0 H0 fp,PE (aw X scope N C s0 H0 fp) elt te)
  {pins:List (Addr×Obj)}{σ:St}{H2:Hp}{s2:Shared}{it:Addr}{fp:List Addr}{tn:Nat->Heap->Prop}{J:It}{fin:List V->Hp->Prop}{E:Value->Shared->Prop}{RR:Value->Addr->Result->Shared->Prop}
  (I2:Inv X pins σ H2 s2) (T:Turn X.prog X.w X.K tg J fp it tn) (st:tn 0 s2.heap) (f2:∀b∈fp,bJ X pins H2 b) (hW:LcW J g tt te (emb ix σ) fin H2)
  (hRR:∀D C s' m ys H',s'.heap.Ns C m->s'.os=s2.os->D≠C->bJ X pins (upd H' D (.lst ys)) C->(∀h',Heap.SameBut C s'.heap h'->Inv X pins σ (upd H' D (.lst ys)) { s' with heap:=h' })->H' D=none->fin ys H'->RR (.ref D) C (.ok .next) s') :
  wpAny (model X.prog X.w) X.A (newList []) (fun acc s3=>wpAny (model X.prog X.w) X.A (newFunctionEnv scope X.env.globals (cg X.env scope.names []) [] X.env.qual none .none (some X.env)) (fun cenv s4 =>
   codeAny (model X.prog X.w) X.A (.compStart (.ListComp elt [⟨tg,iter,ifs,0⟩] scope pos) 0 (.ref it) acc { cenv with scope:=relabel scope X.env }) (RR acc cenv.locals) s4) E s3) E s2:=by
 obtain⟨W,⟨m0,w0⟩,turn⟩:=hW
 have hb2:∀b∈fp,b < s2.heap.objs.size:=fun b hb=>by
  obtain⟨o,e,_⟩:=T.obj _ _ st b hb
  exact Heap.lt_size e
 refine wpAny_newObj_type (wpAny_newFunctionEnv L.nocell (by intro y hy;simp at hy) (fun h1 hns hsb=>?_) L.kind)
 dsimp only at hns hsb ⊢
 generalize hG:s2.heap.push { cls:=.type "list",dict:=none,data:=.seq ([]:List Value).toArray }=G at hns hsb ⊢
 have hGs:G.objs.size=s2.heap.objs.size + 1:=by rw [<- hG,Heap.size_push]
 generalize hDe:s2.heap.objs.size=D at hGs hb2
 generalize hCe:G.objs.size=C at hGs hns hsb ⊢
 have hDC:D≠C:=by omega
 have nq:∀b:Nat,b < s2.heap.objs.size->b≠C/\b≠D:=fun b h=>⟨by omega,by omega⟩
 have nq2:∀b∈fp,b≠C/\b≠D:=fun b hb=>nq b (by rw [hDe];exact hb2 b hb)
 have kG:∀b o,s2.heap.get? b=some o->G.get? b=some o:=fun b o e=>by rw [<- hG];exact Heap.get?_push_of_some _ e
 have kp:∀b o,s2.heap.get? b=some o->h1.get? b=some o:=fun b o e=>hsb.extBut b o (nq b (Heap.lt_size e)).1 (Heap.get?_push_of_some _ (kG b o e))
 have oD:∃n,h1.get? D=some { cls:=.type "list",data:=.seq ([]:List Value).toArray n }:=⟨_,hsb.extBut _ _ hDC (Heap.get?_push_of_some _ (by rw [<- hG,<- hDe];exact Heap.get?_push_size _ rfl))⟩
 have I4:=iC L (tk:=s2.toks + ([]:List (Str×Value)).length) I2 (C:=C) (by omega) f2 (by rw [hDe];exact hb2) kp hns
 have st4:tn 0 h1:=T.keep _ _ _ st fun b _ o e=>kp b o e
 have hDf:D∉(aw X scope N C s2 H2 fp).fs:=fun z=>by
  have z':D∈frs X.stack:=z
  rcases List.mem_cons.mp (I2.stkSub D z') with q | q
  ·exact (nq _ I2.lt).2 q.symm
  ·exact I2.nofs (a:=D) (by omega) q
 have cellD:∀x c,(aw X scope N C s2 H2 fp).env.cells.lookup x=some c->c≠D:=fun x c e z=>by
  obtain⟨v,o,ho,_⟩:=I2.cell x c (dg e)
  exact (nq c (Heap.lt_size ho)).2 z
 have stat:∀{H':Hp}{pl:List (Addr×Obj)},(∀b∈fp,H' b=none)->(∀p∈pl,p.1=D)->∀b∈fp,bJ (aw X scope N C s2 H2 fp) pl H' b:=fun {H' pl} hn hp b hb=>by
  have hlt:=hb2 b hb
  refine⟨hn b hb,(nq2 b hb).1,fun z=>?_,.inl hb,fun x c e=>(f2 b hb).2.2.2.2.1 x c (dg e),fun p hq z=>?_⟩
  ·exact (List.mem_cons.mp (I2.stkSub b z)).elim (f2 b hb).2.1 (f2 b hb).2.2.1
  ·have hq':p∈pl:=by simpa [aw] using hq
   exact (nq2 b hb).2 (z.symm.trans (hp p hq'))
 have pinD:∀{pl:List (Addr×Obj)}{σ':St}{H':Hp}{s':Shared}{o:Obj},Inv (aw X scope N C s2 H2 fp) pl σ' H' s'->s'.heap.get? D=some o->H' D=none->(∀v,o.data≠.cell v)->Inv (aw X scope N C s2 H2 fp) [(D,o)] σ' H' s' :=
  fun {pl σ' H' s' o} I' ho hn hd=>I'.pins_of fun p hp=>by
   have e:p=(D,o):=by simpa using hp
   subst e
   exact⟨ho,hn,hDC,hDf,hd⟩
 have loop:∀s4:Shared,s4={ s2 with heap:=h1,toks:=s2.toks + ([]:List (Str×Value)).length } ->
   codeAny (model X.prog X.w) X.A (.compLoop (.ListComp elt [⟨tg,iter,ifs,0⟩] scope pos) 0 (.ref it) (.ref D) (aw X scope N C s2 H2 fp).env) (RR (.ref D) C) s4:=by
  rintro s4 rfl
  refine vY (fun n s'=>∃i σ' H' ys its k,Inv (aw X scope N C s2 H2 fp) [(D,{ cls:=.type "list",data:=.seq its.toArray k })] σ' H' s'/\tn i s'.heap/\(∀b∈fp,H' b=none)/\av ys its/\W i n ys σ' H') ?_ m0 ?_
  ·rintro n s' ⟨i,σ',H',ys,its,k,I',st',fr',rv,w'⟩
   have hD':=I'.pin _ (List.mem_append_right _ List.mem_cons_self)
   rcases turn i n ys σ' H' w' with ⟨stop,hz,qf⟩ | ⟨go,hz,Nx,hN,step⟩
   ·refine thn (T.done (aw X scope N C s2 H2 fp) rfl rfl rfl hc i _ s' σ' H' _ I' (stat fr' (by simp)) st' stop) fun r s5 ⟨hr,I5⟩=>?_
    subst hr
    have hD5:=I5.pin _ (List.mem_append_right _ List.mem_cons_self)
    obtain⟨m5,hn5,_⟩:=I5.loc
    refine hRR D C s5 m5 ys H' hn5 I5.os hDC (I2.fpOk (by omega) (by rw [aq (Ne.symm hDC)];exact I5.free)) (fun h' hs'=>?_) hD5.2.1 qf
    exact nX I2 f2 I5 (by omega) (by omega) hDC hD5.2.1 hD5.1 rv hz fun b o hb e=>hs'.extBut b o hb e
   ·refine thn (T.item (aw X scope N C s2 H2 fp) rfl rfl rfl hc i _ s' σ' H' _ I' (stat fr' (by simp)) st' go) fun r s5 ⟨u,hr,h5⟩=>?_
    subst hr
    refine thn h5 fun _ s6 ⟨x,H6,I6,r6,y6,st6,fr6⟩=>?_
    have I6':=I6.pinned (stat fr6 (by simp)) (T.obj _ _ st6)
    refine thn (hg C s2 H2 fp _ s6 σ' H6 x u _ I6' r6 (step x H6 y6)) fun _ s7 ⟨σ7,H7,I7,q7⟩=>?_
    refine thn (ht C s2 H2 fp _ s7 σ7 H7 _ I7 q7) fun ok s8 ⟨H8,I8,q8⟩=>?_
    have back:∀{H9:Hp}{s9:Shared},Inv (aw X scope N C s2 H2 fp) ([(D,{ cls:=.type "list",data:=.seq its.toArray k })]++cY fp s6.heap) σ7 H9 s9->tn (i + 1) s9.heap/\∀b∈fp,H9 b=none:=fun {H9 s9} I9=>by
     refine⟨T.keep _ _ _ st6 fun b hb o e=>(I9.pin (b,o) (List.mem_append_right _ (List.mem_append_right _ (cT hb e)))).1,fun b hb=>?_⟩
     obtain⟨o,e,d⟩:=T.obj _ _ st6 b hb
     exact (I9.pin (b,o) (List.mem_append_right _ (List.mem_append_right _ (cT hb e)))).2.1
    cases ok with
    | false =>
     rw [if_neg Bool.false_ne_true] at q8 ⊢
     obtain⟨m',hm,w8⟩:=hN _ _ _ q8
     obtain⟨st8,fr8⟩:=back I8
     exact⟨m',hm,i + 1,σ7,H8,ys,its,k,I8.unpinned,st8,fr8,rv,w8⟩
    | true =>
     rw [if_pos rfl] at q8 ⊢
     refine thn (he C s2 H2 fp _ s8 σ7 H8 _ I8 q8) fun y s9 ⟨v,H9,I9,r9,q9⟩=>?_
     have hD9:=I9.pin _ (List.mem_append_right _ (List.mem_append_left _ List.mem_cons_self))
     obtain⟨st9,fr9⟩:=back I9
     refine wpAny_list_append_plain (hsz:=by have:=rv.length;rw [List.size_toArray];omega) ⟨k,hD9.1⟩ fun h' hl' hs'=>?_
     obtain⟨m',hm,w9⟩:=hN _ _ _ q9
     obtain⟨k',ho'⟩:=hl'
     have I10:Inv (aw X scope N C s2 H2 fp) [] σ7 H9 { s9 with heap:=h' }:=(I9.pins_of (pins':=[]) fun p hp=>absurd hp (by simp)).turned (t':=s9.toks) (it:=D) (fun b o hb e=>hs'.extBut b o hb e) hD9.2.1 hDC (.inr (by show s2.heap.objs.size<=D;omega)) cellD (fun p hp=>absurd hp (by simp [aw]))
     refine⟨m',hm,i + 1,σ7,H9,ys++[v],its++[y],k',pinD I10 (by rw [ho'];simp) hD9.2.1 (fun v z=>by cases z),?_,fr9,rv.append (.cons r9 .nil),w9⟩
     exact T.keep _ _ _ st9 fun b hb o e=>hs'.extBut b o (nq2 b hb).2 e
  ·obtain⟨n,e⟩:=oD
   exact⟨0,emb ix σ,H2,[],[],n,pinD I4 e (I2.hok.fresh (by omega)) (fun v z=>by cases z),st4,fun b hb=>(f2 b hb).1,.nil,w0⟩
 have q:=loop _ rfl
 exact codeAny_compStart_list q (T.self _ 0 _ _ _ st4 q)
end
theorem k7 {ss:List Str}:∀{us:List Value},av (ss.map V.str) us->StrsAre us ss:=by
 induction ss with
 | nil=>intro us r;rw [List.map_nil] at r;cases r;exact .nil
 | cons n ns ih =>
  intro us r
  rw [List.map_cons] at r
  cases r with
  | cons r1 r2 =>
   obtain⟨t,e⟩:=r1
   subst e
   exact .cons n t (ih r2)
theorem lD:∀{vs:List Value}{ss:List Str},StrsAre vs ss->av (ss.map V.str) vs
 | _,_,.nil=>.nil
 | _,_,.cons n t h=>.cons ⟨t,rfl⟩ (lD h)
section
variable {X:Cx}
variable {scope:Scope}{N:List Str}{ix:List (Option Nat)}{tg iter elt:Expr}{ifs:List Expr}{pos:Pos}{g:TG}{tt:TT}{te:TE}{wi:TI}
theorem bY (L:bR X scope N ix) (hc:X.calm=true) (hi:PI X tg iter wi) (hg:∀C s0 H0 fp,PG (aw X scope N C s0 H0 fp) tg g) (ht:∀C s0 H0 fp,PTs (aw X scope N C s0 H0 fp) ifs tt) (he:∀C s0 H0 fp,PE (aw X scope N C s0 H0 fp) elt te)
  (hs:∀x,foldedSetIterable iter X.env x=pure x:=by intro _;rfl):PE X (.ListComp elt [⟨tg,iter,ifs,0⟩] scope pos) (tLc wi g tt te ix):=by
 intro pins s σ H Q I h
 rw [eval_ListComp]
 refine wpAny_comprehension_free (use:=none) rfl hs (L.clos I.ok) L.kind L.locals (thn (hi pins s σ H _ I h) fun v s1 h1=>thn h1 fun itv s2 h2=>?_)
 obtain⟨it,fp,tn,J,H2,rfl,I2,T,st2,f2,hW⟩:=h2
 refine oI (RR:=fun acc C=>compPost (model X.prog X.w) X.A X.xe none (EP X pins σ Q) acc C) L hc hg ht he I2 T st2 f2 hW ?_
 intro D C s' m ys H' hn ho hDC hC hI hD fin
 exact⟨m,hn,fun h' hs'=>⟨.ref D,_,hI h' hs',rfl,fin D hD⟩⟩
noncomputable def xg (i:Nat) (wi:TI) (g:TG) (tt:TT) (te:TE) (ix:List (Option Nat)):TS:=fun D σ H=>wi σ H fun J H1=>LcW J g tt te (emb ix σ) (fun ys H'=>∀p,H' p=none->D.nx (σ.set i (some (.ref p))) (upd H' p (.lst ys))) H1
theorem fG {i:Nat}{y:Str}{py spos:Pos} (hN:X.N.Nodup) (hi':X.N[i]?=some y) (hx:Loc X.env.scope y) (L:bR X scope N ix) (hc:X.calm=true) (hi:PI X tg iter wi) (hg:∀C s0 H0 fp,PG (aw X scope N C s0 H0 fp) tg g)
  (ht:∀C s0 H0 fp,PTs (aw X scope N C s0 H0 fp) ifs tt) (he:∀C s0 H0 fp,PE (aw X scope N C s0 H0 fp) elt te)
  (hsw:swapsWith (.ListComp elt [⟨tg,iter,ifs,0⟩] scope pos) (some (.Name y py)) spos.line X.env=pure true:=by rfl) (hs:∀x,foldedSetIterable iter X.env x=pure x:=by intro _;rfl)
  (hf:X.fn y=true\/X.env.scope.names.lookup y=some .local:=by first | exact .inl rfl | exact .inr rfl | assumption) :
  PS X (.Assign [.Name y py] (.ListComp elt [⟨tg,iter,ifs,0⟩] scope pos) spos) (xg i wi g tt te ix):=by
 intro pins s σ H D I h
 rw [exec_Assign_Name_used _ _ _ _ hsw]
 refine wpAny_bind (wpAny_standAt (wpAny_bind ?_))
 show wpAny _ X.A (do let _ <- comprehension (.ListComp elt [⟨tg,iter,ifs,0⟩] scope pos) scope X.env _ (newList []) false (eval iter X.env) (some (assign (.Name y py) X.env))) _ _ s
 refine wpAny_bind (thn (wpAny_comprehension_free (use:=some (assign (.Name y py) X.env)) (Q:=fun _ s'=>SP X pins D .next s') rfl hs (L.clos I.ok) L.kind L.locals
  (thn (hi pins s σ H _ I h) fun v s1 h1=>thn h1 fun itv s2 h2=>?_)) fun _ s' hq=>wpAny_pure (wpAny_pure hq))
 obtain⟨it,fp,tn,J,H2,rfl,I2,T,st2,f2,hW⟩:=h2
 refine oI (RR:=fun acc C=>compPost (model X.prog X.w) X.A X.xe (some (assign (.Name y py) X.env)) (fun _ s'=>SP X pins D .next s') acc C) L hc hg ht he I2 T st2 f2 hW ?_
 intro Da C s' m ys H' hn ho hDC hC hI hD fin
 have I':=hI s'.heap (Heap.SameBut.refl _ _)
 show wpAny _ X.A (assign (.Name y py) X.env (.ref Da)) _ _ s'
 refine wpAny_assign_Name (jc (v:=.ref Da) I' hN hi' hx rfl (fun s'' I'' ch=>?_) hf)
 obtain⟨a,hsa,hwa⟩:=ch
 obtain⟨c1,c2,c3,c4,c5,c6⟩:=hC
 have hCa:C≠a:=by
  rcases hwa with z | z
  ·rw [z];exact c2
  ·exact fun w=>c5 y a z w.symm
 refine⟨m,hn.sameBut hsa hCa,fun h' hs'=>⟨_,_,I''.turned (t':=s''.toks) (it:=C) (fun b o hb e=>hs'.extBut b o hb e) c1 c2 c4 c5 c6,fin Da hD⟩⟩
end
mutual
inductive DV (H:Hp):V->PyData->Prop
 | non:DV H .non .none
 | bl (b:Bool):DV H (.bl b) (.bool b)
 | int (i:Int):DV H (.int i) (.int i)
 | str (x:Str):DV H (.str x) (.str x)
 | tup {a:Addr}{xs:List V}{ds:List PyData}:H a=some (.tup xs)->DVs H xs ds->DV H (.ref a) (.tuple ds)
 | lst {a:Addr}{xs:List V}{ds:List PyData}:H a=some (.lst xs)->DVs H xs ds->DV H (.ref a) (.list ds)
inductive DVs (H:Hp):List V->List PyData->Prop
 | nil:DVs H [] []
 | cons {x:V}{d:PyData}{xs:List V}{ds:List PyData}:DV H x d->DVs H xs ds->DVs H (x::xs) (d::ds)
end
section
variable {P:Program}{w:World}{H:Hp}{h:Heap}
mutual
theorem DV.reads (ok:HOk P w H h):∀{x:V}{d:PyData}{u:Value},DV H x d->RelV x u->∃as,Reads h u d as
 | _,_,u,.non,r=>by cases (show u=Value.none from r);exact⟨_,Reads.none⟩
 | _,_,u,.bl b,r=>by cases (show u=Value.bool b from r);exact⟨_,Reads.bool b⟩
 | _,_,u,.int i,r=>by obtain⟨t,e⟩:=(show ∃t,u=Value.int i t from r);cases e;exact⟨_,Reads.int i t⟩
 | _,_,u,.str x,r=>by obtain⟨t,e⟩:=(show ∃t,u=Value.str x t from r);cases e;exact⟨_,Reads.str x t⟩
 | _,_,u,.tup (a:=a) (xs:=xs) e q,r=>by
  cases (show u=Value.ref a from r)
  obtain⟨_,its,rv,o,ho,hc,n,hd⟩:=(show aJ P w H h a (.tup xs) from ok a _ e)
  obtain⟨as,z⟩:=DVs.reads ok q rv
  exact⟨as,Reads.tuple ho hc hd (by simpa using z)⟩
 | _,_,u,.lst (a:=a) (xs:=xs) e q,r=>by
  cases (show u=Value.ref a from r)
  obtain⟨_,its,n,rv,ho⟩:=(show aJ P w H h a (.lst xs) from ok a _ e)
  obtain⟨as,z⟩:=DVs.reads ok q rv
  exact⟨_,Reads.list ho rfl rfl (by simpa using z)⟩
theorem DVs.reads (ok:HOk P w H h):∀{xs:List V}{ds:List PyData}{us:List Value},DVs H xs ds->av xs us->∃as,ReadsAll h us ds as
 | _,_,_,.nil,.nil=>⟨_,ReadsAll.nil⟩
 | _,_,_,.cons a b,.cons r rs=>by
  obtain⟨as,p⟩:=DV.reads ok a r
  obtain⟨bs,q⟩:=DVs.reads ok b rs
  exact⟨_,ReadsAll.cons p q⟩
end
end
theorem DVs.strs {H:Hp}:∀ss:List Str,DVs H (ss.map V.str) (ss.map PyData.str)
 | []=>.nil
 | x::r=>.cons (.str x) (DVs.strs r)
section
variable {X:Cx}
open SeqAt in
theorem oF {k:Nat} (hr:aK k X.A):OpR X (compareOp .NotEq) (fun x y H Q=>∃d e,DV H x d/\DV H y e/\shaped d=true/\shaped e=true/\Q (.bl (!PyData.eqv d e)) H):=by
 intro pins s σ H x y v u Q I rx ry h
 obtain⟨d,e,dx,dy,sd,se,q⟩:=h
 obtain⟨as,r1⟩:=dx.reads I.hok rx
 obtain⟨bs,r2⟩:=dy.reads I.hok ry
 exact ne_dataH r1 r2 sd se hr.units ⟨.bl (!PyData.eqv d e),H,I,rfl,q⟩
theorem rm (bs:List Bool):((List.range bs.length).all fun i=>(bs[i]?).getD true)=bs.all id:=by
 rw [Bool.eq_iff_iff,List.all_eq_true,List.all_eq_true]
 constructor
 ·intro h b hb
  obtain⟨i,hi,e⟩:=List.mem_iff_getElem.mp hb
  have:=h i (List.mem_range.mpr hi)
  rw [List.getElem?_eq_getElem hi,e] at this
  simpa using this
 ·intro h i hi
  have hi:=List.mem_range.mp hi
  rw [List.getElem?_eq_getElem hi]
  simpa using h _ (List.getElem_mem hi)
theorem dz (hc:X.calm=true):bX X (.builtin "all") (fun xs H Q=>∃(p:Addr) (bs:List Bool),xs=[.ref p]/\SqL X.K H p (bs.map V.bl)/\Q (.bl (bs.all id)) H):=by
 intro pins s σ H xs us Q I r h
 obtain⟨p,bs,rfl,hq,q⟩:=h
 obtain⟨u,rfl,rx⟩:=vals1 r
 cases rx
 obtain⟨its,r',pl,hz⟩:=I.list hq
 have hlt:p < s.heap.objs.size:=by obtain⟨o,n,e,_⟩:=pl;exact Heap.lt_size e
 have hlen:=r'.length
 rw [List.length_map] at hlen
 refine call_all_walk (wpAny_pyIter_list pl.isList ?_)
 refine⟨s.heap.objs.size,[s.heap.objs.size,p],[s.heap.objs.size],its.toArray.size,_,_,fun i=>(bs[i]?).getD true,rfl,Walks.list (A:=X.A.in1) (I.ok.hd hc) _ p (Nat.ne_of_lt hlt) its.toArray,
  ⟨⟨_,Heap.get?_push_size _ rfl,rfl,rfl⟩,pl.isList.push _⟩,fun i v s' Q' E' hP hQ=>?_,fun h' tk hk=>?_⟩
 ·have hP':its[i]?=some v:=by simpa using hP
  have hb:∃b,bs[i]?=some b/\v=Value.bool b:=by
   have hi:i < bs.length:=by rw [hlen];exact (List.getElem?_eq_some_iff.mp hP').1
   have e1:(bs.map V.bl)[i]?=some (V.bl bs[i]):=by rw [List.getElem?_map,List.getElem?_eq_getElem hi];rfl
   obtain⟨w',e2,rw'⟩:=r'.get e1
   rw [hP'] at e2
   cases e2
   exact⟨bs[i],List.getElem?_eq_getElem hi,rw'⟩
  obtain⟨b,e,rfl⟩:=hb
  simp only [e,Option.getD_some] at hQ
  exact wpAny_truthy_bool hQ
 ·have e:((List.range its.toArray.size).all fun i=>(bs[i]?).getD true)=bs.all id:=by
   rw [List.size_toArray,<- hlen];exact rm bs
  rw [e]
  refine⟨.bl (bs.all id),H,I.kept (t':=tk) fun b x e=>hk b x (fun hm=>?_) (Heap.get?_push_of_some _ e),rfl,q⟩
  rw [List.mem_singleton.mp hm] at e
  exact Nat.lt_irrefl _ (Heap.lt_size e)
theorem cb {T:String}:bX X (.builtin "isinstance") (fun xs H Q=>∃x t b,xs=[x,.ty T]/\de X.K H x t/\PySem.W.kitOne X.K t (.type T)=some b/\Q (.bl b) H):=by
 intro pins s σ H xs us Q I r h
 obtain⟨x,t,b,rfl,ty,e,q⟩:=h
 obtain⟨u,w',rfl,rx,ry⟩:=vals2 r
 cases (show w'=Value.type T from ry)
 exact sA I rx ty e fun tk=>⟨.bl b,H,I.tok tk,rfl,q⟩
theorem gT:OpR X (compareOp .LtE) (fun x y H Q=>∃i j,x=.str i/\y=.str j/\Q (.bl (!decide (j.cps.toList < i.cps.toList))) H):=by
 intro pins s σ H x y v u Q I rx ry h
 obtain⟨i,j,rfl,rfl,q⟩:=h
 obtain⟨t,rfl⟩:=rx
 obtain⟨t',rfl⟩:=ry
 exact PySem.P.le_str ⟨.bl (!decide (j.cps.toList < i.cps.toList)),H,I,rfl,q⟩
theorem vJ:MtR X "str.join" (fun x xs H Q=>∃(z:Str) (p:Addr) (ss:List Str),x=.str z/\xs=[.ref p]/\SqL X.K H p (ss.map V.str)/\(ss.map (·.length)).sum + ss.length * z.length<=16777216/\Q (.str (Txt.join z ss)) H):=by
 intro pins s σ H x xs v us Q I rx rs h
 obtain⟨z,p,ss,rfl,rfl,hq,hz,q⟩:=h
 obtain⟨t,rfl⟩:=rx
 obtain⟨u,rfl,ru⟩:=vals1 rs
 cases ru
 obtain⟨its,r',pl,_⟩:=I.list hq
 exact join_list pl.isList (k7 r') hz fun t' k=>⟨.str (Txt.join z ss),H,I.tok k,⟨_,rfl⟩,q⟩
theorem qy:bX X (.builtin "sorted") (fun xs H Q=>∃(p:Addr) (ss:List Str),xs=[.ref p]/\SqL X.K H p (ss.map V.str)/\ss.length < 64/\∀(ss':List Str) (q:Addr),ss'.Perm ss->sortedS ss'=true->H q=none->Q (.ref q) (upd H q (.lst (ss'.map V.str)))):=by
 intro pins s σ H xs us Q I r h
 obtain⟨p,ss,rfl,hq,h64,q⟩:=h
 obtain⟨u,rfl,rx⟩:=vals1 r
 cases rx
 obtain⟨its,r',pl,hz⟩:=I.list hq
 have hlen:=r'.length
 rw [List.length_map] at hlen
 refine sorted_strs pl.isList (k7 r') (by omega) fun out ss' a1 a2 a3=>?_
 obtain⟨e,he⟩:=sortedAll_at s.heap its out
 have hv:av (ss'.map V.str) out.toList:=lD a1
 have hfr:H (s.heap.objs.size + 1)=none:=I.hok.fresh (Nat.le_succ _)
 refine⟨.ref (s.heap.objs.size + 1),_,I.laid (t':=s.toks) (o:=.lst (ss'.map V.str)) (fun b o z=>sortedAll_old z) (Nat.le_succ _) ⟨?_,out.toList,e,hv,?_⟩,rfl,q ss' _ a2 a3 hfr⟩
 ·rw [List.length_map,a2.length_eq,sizeLine_eq];omega
 ·simpa [seqObj] using he
end
end L2
set_option maxHeartbeats 4000000
namespace L2
open PySem PySem.W PyProof.Rows
noncomputable abbrev gp (p:Array Nat) (i:Nat):Nat:=p.getD i 0
structure Ord (N:Nat) (lt:Nat->Nat->Bool):Prop where
 tr:∀i j k,lt i j=true->lt j k=true->lt i k=true
 irr:∀i,lt i i=false
 tot:∀i j,i < N->j < N->i≠j->lt i j=true\/lt j i=true
noncomputable def Pm (N:Nat) (p:Array Nat):Prop:=p.Perm (List.toArray (List.range N))
theorem Pm.size {N:Nat}{p:Array Nat} (h:Pm N p):p.size=N:=by
 have:=Array.Perm.size_eq h
 simpa using this
theorem gJ {p:Array Nat}{i:Nat} (h:i < p.size):gp p i=p[i]:=by simp [gp,Array.getD,h]
theorem hX {p q:Array Nat}{i j:Nat} (h:p[i]?=q[j]?):gp p i=gp q j:=by simp [gp,Array.getD_eq_getD_getElem?,h]
theorem Pm.lt {N:Nat}{p:Array Nat} (h:Pm N p) {i:Nat} (hi:i < N):gp p i < N:=by
 have hs:i < p.size:=by rw [h.size];exact hi
 rw [gJ hs]
 have hm:p[i]∈(List.toArray (List.range N)):=h.mem_iff.mp (Array.getElem_mem hs)
 simpa using hm
theorem Pm.nd {N:Nat}{p:Array Nat} (h:Pm N p):p.toList.Nodup:=by
 have hp:p.toList.Perm (List.range N):=by simpa using Array.perm_iff_toList_perm.mp h
 exact hp.nodup_iff.mpr List.nodup_range
theorem Pm.inj {N:Nat}{p:Array Nat} (h:Pm N p) {i j:Nat} (hi:i < N) (hj:j < N) (hij:i≠j):gp p i≠gp p j:=by
 have hsi:i < p.size:=by rw [h.size];exact hi
 have hsj:j < p.size:=by rw [h.size];exact hj
 rw [gJ hsi,gJ hsj]
 intro e
 have nd:=h.nd
 rcases Nat.lt_or_gt_of_ne hij with z | z
 ·exact List.pairwise_iff_getElem.mp nd i j (by simpa using hsi) (by simpa using hsj) z (by simpa using e)
 ·exact List.pairwise_iff_getElem.mp nd j i (by simpa using hsj) (by simpa using hsi) z (by simpa using e.symm)
section
variable {N:Nat}{lt:Nat->Nat->Bool}{cmp:Nat->Nat->(Bool->Shared->Prop)->Shared->Prop}{s:Shared}
noncomputable def Asc (lt:Nat->Nat->Bool) (p:Array Nat) (b:Nat):Prop:=∀i j,i < j->j < b->lt (gp p i) (gp p j)=true
noncomputable def Dsc (lt:Nat->Nat->Bool) (p:Array Nat) (b:Nat):Prop:=∀i j,i < j->j < b->lt (gp p j) (gp p i)=true
theorem Asc.more (O:Ord N lt) {p:Array Nat}{n:Nat} (h:Asc lt p n) (h1:1<=n) (e:lt (gp p (n - 1)) (gp p n)=true):Asc lt p (n + 1):=fun i j hij hj=>by
 by_cases q:j < n
 ·exact h i j hij q
 ·have:j=n:=by omega
  subst this
  by_cases z:i=j - 1
  ·rw [z];exact e
  ·exact O.tr _ _ _ (h i (j - 1) (by omega) (by omega)) e
theorem Dsc.more (O:Ord N lt) {p:Array Nat}{n:Nat} (h:Dsc lt p n) (h1:1<=n) (e:lt (gp p n) (gp p (n - 1))=true):Dsc lt p (n + 1):=fun i j hij hj=>by
 by_cases q:j < n
 ·exact h i j hij q
 ·have:j=n:=by omega
  subst this
  by_cases z:i=j - 1
  ·rw [z];exact e
  ·exact O.tr _ _ _ e (h i (j - 1) (by omega) (by omega))
theorem Ord.other (O:Ord N lt) {p:Array Nat} (hp:Pm N p) {i j:Nat} (hi:i < N) (hj:j < N) (hij:i≠j) (e:lt (gp p i) (gp p j)≠true):lt (gp p j) (gp p i)=true :=
 (O.tot _ _ (hp.lt hi) (hp.lt hj) (hp.inj hi hj hij)).resolve_left e
variable (O:Ord N lt) (hc:∀(i j:Nat) (C:Bool->Shared->Prop),i < N->j < N->i≠j->C (lt i j) s->cmp i j C s)
include O hc
theorem jO {p:Array Nat} (hp:Pm N p) {Q:Nat->Shared->Prop}:∀(f n:Nat),1<=n->n + f<=N->Asc lt p n->(∀m,n<=m->m<=n + f->Asc lt p m->(m=n + f\/lt (gp p m) (gp p (m - 1))=true)->Q m s)->(kas_asc p f n).kasWp cmp Q s
 | 0,n,h1,hn,ha,k=>k n (Nat.le_refl _) (Nat.le_refl _) ha (.inl rfl)
 | f + 1,n,h1,hn,ha,k=>by
  unfold kas_asc
  refine hc _ _ _ (hp.lt (by omega)) (hp.lt (by omega)) (hp.inj (by omega) (by omega) (by omega)) ?_
  by_cases e:lt (gp p n) (gp p (n - 1))=true
  ·show KasT.kasWp cmp (if lt (gp p n) (gp p (n - 1))=true then _ else _) Q s
   rw [if_pos e]
   exact k n (Nat.le_refl _) (by omega) ha (.inr e)
  ·show KasT.kasWp cmp (if lt (gp p n) (gp p (n - 1))=true then _ else _) Q s
   rw [if_neg e]
   exact jO hp f (n + 1) (by omega) (by omega) (ha.more O h1 (O.other hp (by omega) (by omega) (by omega) e)) fun m a b c d=>k m (by omega) (by omega) c (d.imp (fun z=>by omega) id)
theorem mV {p:Array Nat} (hp:Pm N p) {Q:Array Nat×Nat×Nat->Shared->Prop}:∀(f n:Nat),1<=n->n + f<=N->Dsc lt p n->(∀m,n<=m->m<=n + f->Dsc lt p m->Q (p,m,0) s)->(kas_desc f p n 0).kasWp cmp Q s
 | 0,n,h1,hn,ha,k=>k n (Nat.le_refl _) (Nat.le_refl _) ha
 | f + 1,n,h1,hn,ha,k=>by
  unfold kas_desc
  refine hc _ _ _ (hp.lt (by omega)) (hp.lt (by omega)) (hp.inj (by omega) (by omega) (by omega)) ?_
  by_cases e:lt (gp p n) (gp p (n - 1))=true
  ·show KasT.kasWp cmp (if lt (gp p n) (gp p (n - 1))=true then _ else _) Q s
   rw [if_pos e,if_neg (by omega)]
   exact mV hp f (n + 1) (by omega) (by omega) (ha.more O h1 e) fun m a b c=>k m (by omega) (by omega) c
  ·show KasT.kasWp cmp (if lt (gp p n) (gp p (n - 1))=true then _ else _) Q s
   rw [if_neg e]
   refine hc _ _ _ (hp.lt (by omega)) (hp.lt (by omega)) (hp.inj (by omega) (by omega) (by omega)) ?_
   have e2:=O.other hp (show n < N by omega) (show n - 1 < N by omega) (by omega) e
   show KasT.kasWp cmp (if lt (gp p (n - 1)) (gp p n)=true then _ else _) Q s
   rw [if_pos e2]
   exact k n (Nat.le_refl _) (by omega) ha
theorem w4 {p:Array Nat} (hp:Pm N p) {m:Nat} (hm:m<=N) (h:Dsc lt p m):Pm N (kas_rev p 0 m)/\Asc lt (kas_rev p 0 m) m:=by
 have hz:m<=p.size:=by rw [hp.size];exact hm
 refine⟨(mirror_perm p 0 m _).trans hp,fun i j hij hj=>?_⟩
 have g:∀k,k < m->gp (kas_rev p 0 m) k=gp p (0 + m - 1 - k):=fun k hk=>hX (by
  unfold kas_rev
  rw [getElem?_mirror_all hz,if_pos ⟨Nat.zero_le _,hk⟩])
 rw [g i (by omega),g j hj]
 exact h _ _ (by omega) (by omega)
theorem vg {p:Array Nat} (hp:Pm N p) (h2:2<=N) {Q:Nat×Array Nat->Shared->Prop} (h0:∀m q,1<=m->m<=N->Pm N q->Asc lt q m->Q (m,q) s):(kas_count N p).kasWp cmp Q s:=by
 unfold kas_count
 rw [KasT.kasWp_bind]
 refine jO O hc hp (N - 1) 1 (Nat.le_refl _) (by omega) (fun i j a b=>by omega) fun m a b c d=>?_
 by_cases e:(m == N)=true
 ·rw [if_pos e]
  exact h0 m p a (by omega) hp c
 ·rw [if_neg e]
  have hm:m≠N:=fun z=>e (beq_iff_eq.mpr z)
  by_cases e1:m > 1
  ·rw [if_pos e1]
   refine hc _ _ _ (hp.lt (by omega)) (hp.lt (by omega)) (hp.inj (by omega) (by omega) (by omega)) ?_
   show KasT.kasWp cmp (if lt (gp p 0) (gp p (m - 1))=true then _ else _) Q s
   rw [if_pos (c 0 (m - 1) (by omega) (by omega))]
   exact h0 m p a (by omega) hp c
  ·rw [if_neg e1]
   have:m=1:=by omega
   subst this
   have e2:lt (gp p 1) (gp p (1 - 1))=true:=d.resolve_left (by omega)
   unfold kas_descPart
   rw [KasT.kasWp_bind]
   refine mV O hc hp (N - (1 + 1)) (1 + 1) (by omega) (by omega) (fun i j x y=>by
    have:i=0:=by omega
    have:j=1:=by omega
    subst i j
    exact e2) fun m' a' b' c'=>?_
   show KasT.kasWp cmp (if (0:Nat) > 0 then _ else _) Q s
   rw [if_neg (by omega)]
   show KasT.kasWp cmp (kas_tail3 m' N p) Q s
   unfold kas_tail3
   rw [KasT.kasWp_bind]
   obtain⟨r1,r2⟩:=w4 O hc hp (show m'<=N by omega) c'
   exact jO O hc r1 (N - m') m' (by omega) (by omega) r2 fun m'' x y z w=>h0 m'' _ (by omega) (by omega) r1 z
theorem jl {p:Array Nat} (hp:Pm N p) {k:Nat} (hk:k < N) (ha:Asc lt p k) {Q:Nat->Shared->Prop}:∀(f l r:Nat),l<=r->r<=k->r - l<=f->(∀i,i < l->lt (gp p i) (gp p k)=true)->(∀i,r<=i->i < k->lt (gp p k) (gp p i)=true) ->
  (∀l,l<=k->(∀i,i < l->lt (gp p i) (gp p k)=true)->(∀i,l<=i->i < k->lt (gp p k) (gp p i)=true)->Q l s)->(kas_place p k f l r).kasWp cmp Q s
 | 0,l,r,h1,h2,h3,hl,hr,q=>by
  have:l=r:=by omega
  subst this
  exact q l h2 hl hr
 | f + 1,l,r,h1,h2,h3,hl,hr,q=>by
  unfold kas_place
  by_cases e:l ≥ r
  ·rw [if_pos e]
   have:l=r:=by omega
   subst this
   exact q l h2 hl hr
  ·rw [if_neg e]
   refine hc _ _ _ (hp.lt hk) (hp.lt (by omega)) (hp.inj hk (by omega) (by omega)) ?_
   by_cases c:lt (gp p k) (gp p ((l + r) / 2))=true
   ·show KasT.kasWp cmp (if lt (gp p k) (gp p ((l + r) / 2))=true then _ else _) Q s
    rw [if_pos c]
    refine jl hp hk ha f l ((l + r) / 2) (by omega) (by omega) (by omega) hl (fun i a b=>?_) q
    by_cases z:i=(l + r) / 2
    ·rw [z];exact c
    ·exact O.tr _ _ _ c (ha _ _ (by omega) b)
   ·show KasT.kasWp cmp (if lt (gp p k) (gp p ((l + r) / 2))=true then _ else _) Q s
    rw [if_neg c]
    have c':=O.other hp hk (show (l + r) / 2 < N by omega) (by omega) c
    refine jl hp hk ha f ((l + r) / 2 + 1) r (by omega) h2 (by omega) (fun i a=>?_) hr q
    by_cases z:i=(l + r) / 2
    ·rw [z];exact c'
    ·exact O.tr _ _ _ (ha i ((l + r) / 2) (by omega) (by omega)) c'
theorem om {Q:Array Nat->Shared->Prop} (h0:∀q,Pm N q->Asc lt q N->Q q s):∀(f:Nat) (p:Array Nat) (k:Nat),k + f=N->Pm N p->Asc lt p k->(kas_bin f p k).kasWp cmp Q s
 | 0,p,k,hk,hp,ha=>h0 p hp (by rw [<- hk];exact ha)
 | f + 1,p,k,hk,hp,ha=>by
  unfold kas_bin
  rw [KasT.kasWp_bind]
  refine jl O hc hp (show k < N by omega) ha k 0 k (by omega) (Nat.le_refl _) (by omega) (fun i z=>by omega) (fun i a b=>by omega) fun l hl h1 h2=>?_
  refine om h0 f _ (k + 1) (by omega) ((bubble_perm p k _).trans hp) fun i j hij hj=>?_
  have hs:k < p.size:=by rw [hp.size];omega
  have g:∀i,gp (bubble p k (k - l)) i=if i=l then gp p k else if l < i/\i<=k then gp p (i - 1) else gp p i:=fun i=>by
   have e:=getElem?_bubble hs (k - l) (by omega) i
   have e1:k - (k - l)=l:=by omega
   rw [e1] at e
   by_cases z1:i=l
   ·rw [if_pos z1] at e ⊢;exact hX e
   ·rw [if_neg z1] at e ⊢
    by_cases z2:l < i/\i<=k
    ·rw [if_pos z2] at e ⊢;exact hX e
    ·rw [if_neg z2] at e ⊢;exact hX e
  rw [g i,g j]
  by_cases a1:i=l
  ·rw [if_pos a1,if_neg (by omega),if_pos (by omega)]
   exact h2 _ (by omega) (by omega)
  ·rw [if_neg a1]
   by_cases a2:l < i/\i<=k
   ·rw [if_pos a2,if_neg (by omega),if_pos (by omega)]
    exact ha _ _ (by omega) (by omega)
   ·rw [if_neg a2]
    by_cases b1:j=l
    ·rw [if_pos b1];exact h1 i (by omega)
    ·rw [if_neg b1]
     by_cases b2:l < j/\j<=k
     ·rw [if_pos b2]
      exact ha _ _ (by omega) (by omega)
     ·rw [if_neg b2]
      exact ha _ _ hij (by omega)
theorem vC (h2:2<=N) {Q:Array Nat->Shared->Prop} (h0:∀q,Pm N q->Asc lt q N->Q q s):(kas_sort N).kasWp cmp Q s:=by
 unfold kas_sort
 rw [KasT.kasWp_bind]
 refine vg O hc (Array.Perm.refl _) h2 fun m q a b hp ha=>?_
 show KasT.kasWp cmp (if m < N then _ else _) Q s
 by_cases e:m < N
 ·rw [if_pos e]
  have em:max m 1=m:=by omega
  show KasT.kasWp cmp (kas_bin (N - max m 1) q (max m 1)) Q s
  rw [em]
  exact om O hc h0 (N - m) q m (by omega) hp ha
 ·rw [if_neg e]
  have:m=N:=by omega
  subst this
  exact h0 q hp ha
end
end L2
namespace L2
open PySem PySem.Spec PyProof.Rows PySem.W PySem.Calls
section
variable {prog:Program}{w:World}{A:Around}{E:Value->Shared->Prop}{s:Shared}
noncomputable def j7 (prog:Program) (w:World) (A:Around) (vs:List Value) (lt:Nat->Nat->Bool) (s:Shared):Prop :=
 ∃κ:SortKind,(∀Q:SortKind->Shared->Prop,Q κ s->wpAny (model prog w) A (keyKind' vs.toArray) Q (fun _ _=>False) s) /\
  ∀(i j:Nat) (C:Bool->Shared->Prop),i < vs.length->j < vs.length->i≠j->C (lt i j) s->kas_ask prog w A κ vs i j C s
noncomputable def fm (vs:List Value) (p:Array Nat):List Value:=p.toList.map fun i=>vs.getD i Value.none
theorem rP {lt:Nat->Nat->Bool}{a:Addr}{vs:List Value}{n:Nat}{P:PySem.Fin->Shared->Prop} (ho:s.heap.get? a=some (seqObj "list" vs.toArray n)) (h64:vs.length < 64) (O:Ord vs.length lt)
  (hk:2<=vs.length->∀s':Shared,(∀b o,b≠a->s.heap.get? b=some o->s'.heap.get? b=some o)->j7 prog w A vs lt s')
  (h:∀p,Pm vs.length p->Asc lt p vs.length->P (.done (.ret .none)) { s with heap:=sortedHeap s.heap a vs (fm vs p).toArray }) :
  wpAny (model prog w) A (Builtin.«list.sort» ⟨[.ref a],[]⟩) P E s:=by
 rw [list_sort_plain]
 have hlt:a < s.heap.objs.size:=Heap.lt_size ho
 have hfit:vs.length<=sizeLine:=by rw [sizeLine_eq];omega
 refine wpAny_bind (listItems_at ho rfl (wpAny_bind (listUpdate_at ho rfl ?_ (by rw [List.size_toArray];exact hfit) (Nat.zero_le _))))
 obtain⟨e1,ho1⟩:∃e1,(s.heap.update a (Obj.mapSeq fun _=>(#[]:Array Value))).get? a=some (seqObj "list" #[] e1):=⟨_,get?_update_seq ho fun _=>#[]⟩
 refine wpAny_bind (seqEpoch_at ho1 rfl (wpAny_bind (wpAny_newTuple (wpAny_bind (wpAny_newList (wpAny_holding ?_) (Nat.zero_le _))) (by show vs.length<=_;exact hfit))))
 have ho2:(((s.heap.update a (Obj.mapSeq fun _=>(#[]:Array Value))).push (seqObj "tuple" vs.toArray 0)).push (seqObj "list" #[] 0)).get? a=some (seqObj "list" #[] e1):=Heap.get?_push_of_some _ (Heap.get?_push_of_some _ ho1)
 show wpAny (model prog w) A _ P E { s with heap:=((s.heap.update a (Obj.mapSeq fun _=>(#[]:Array Value))).push (seqObj "tuple" vs.toArray 0)).push (seqObj "list" #[] 0) }
 dsimp only
 by_cases h2:vs.toArray.size < 2
 ·rw [if_pos h2,if_pos h2]
  refine wpAny_bind (wpAny_pure ?_)
  rw [StateT.run_pure]
  refine wpAny_bind (wpAny_pure ?_)
  dsimp only
  have hz:((vs.toArray.zip vs.toArray).map (·.2))=(fm vs (List.toArray (List.range vs.length))).toArray:=by
   unfold fm
   apply Array.ext
   ·simp
   ·intro i h1 h2
    simp only [Array.size_map,Array.size_zip,List.size_toArray,Nat.min_self] at h1
    simp [h1]
  have es:vs.toArray.size=vs.length:=by simp
  refine wpAny_bind (seqEpoch_at ho2 rfl (wpAny_bind (listUpdate_at ho2 rfl ?_ (Nat.zero_le _) ?_)))
  ·simp only [bne_self_eq_false,Bool.false_eq_true,if_false]
   have q:=h (List.toArray (List.range vs.length)) (Array.Perm.refl _) (fun i j hij hj=>by omega)
   unfold sortedHeap at q
   rw [<- hz] at q
   exact wpAny_pure q
  ·show ((vs.toArray.zip vs.toArray).map (·.2)).size<=sizeLine + 1
   simp only [Array.size_map,Array.size_zip,List.size_toArray,Nat.min_self]
   omega
 ·have h2':2<=vs.length:=by rw [List.size_toArray] at h2;omega
  rw [if_neg h2,if_neg h2]
  obtain⟨κ,kd,ask⟩:=hk h2' { s with heap:=((s.heap.update a (Obj.mapSeq fun _=>(#[]:Array Value))).push (seqObj "tuple" vs.toArray 0)).push (seqObj "list" #[] 0) } fun b o hb e =>
   Heap.get?_push_of_some _ (Heap.get?_push_of_some _ (by rw [Heap.get?_update_ne _ _ _ _ hb];exact e))
  refine wpAny_bind (wpAny_mono (E:=fun _ _=>False) (Q:=fun k s'=>k=κ/\s'={ s with heap:=((s.heap.update a (Obj.mapSeq fun _=>(#[]:Array Value))).push (seqObj "tuple" vs.toArray 0)).push (seqObj "list" #[] 0) }) (kd _ ⟨rfl,rfl⟩) ?_ fun _ _ f=>f.elim)
  rintro k s' ⟨rfl,rfl⟩
  refine wpAny_bind (wpAny_mono (kat_run (ks:=vs) (G:=fun p s'=>(Pm vs.length p/\Asc lt p vs.length)/\s'={ s with heap:=((s.heap.update a (Obj.mapSeq fun _=>(#[]:Array Value))).push (seqObj "tuple" vs.toArray 0)).push (seqObj "list" #[] 0) })
   (Q:=fun st' s'=>∃p:Array Nat,arrOf st'=p.map (kas_item (vs.toArray.zip vs.toArray))/\failedOf st'=none/\(Pm vs.length p/\Asc lt p vs.length)/\s'={ s with heap:=((s.heap.update a (Obj.mapSeq fun _=>(#[]:Array Value))).push (seqObj "tuple" vs.toArray 0)).push (seqObj "list" #[] 0) })
   rfl h2' h64 (fun p st' s' _ a2 a3 a4=>⟨p,a2,a3,a4⟩) (vC O ask h2' fun q hq ha=>⟨⟨hq,ha⟩,rfl⟩)) ?_ fun _ _ e=>e)
  rintro⟨⟨⟩,st'⟩ s' ⟨p,har,hf,⟨hp,ha⟩,rfl⟩
  dsimp only
  rw [kat_snds rfl har]
  have hsz:(List.toArray (p.toList.map fun i=>vs.getD i Value.none)).size<=sizeLine + 1:=by
   rw [List.size_toArray,List.length_map,Array.length_toList,hp.size];omega
  refine wpAny_bind (seqEpoch_at ho2 rfl (wpAny_bind (listUpdate_at ho2 rfl ?_ (Nat.zero_le _) hsz)))
  rw [hf]
  simp only [bne_self_eq_false,Bool.false_eq_true,if_false]
  exact wpAny_pure (h p hp ha)
theorem qP {l:Addr}{o:Obj}{vs:List Value}{n:Nat}{T:String}{Q:List Value->Shared->Prop} (hT:T="list"\/T="tuple") (ho:s.heap.get? l=some o) (hc:o.cls=.type T) (hd:o.data=.seq vs.toArray n)
  (h:Q vs { s with heap:=(s.heap.push (seqObj "list" #[] 0)).update s.heap.objs.size (Obj.mapSeq (·++vs.toArray)) }) (hsz:vs.length<=sizeLine):wpAny (model prog w) A (collect (.ref l)) Q E s:=by
 rcases hT with rfl | rfl
 ·exact collect_list ⟨o,ho,hc,n,hd⟩ h hsz
 ·unfold collect
  refine wpAny_bind (wpAny_runValue (codeAny_builtin entry_proto_collect' ?_))
  show wpAny _ _ (do again (.builtin "list.__iadd__" ⟨[<- newList [],.ref l],[]⟩)) _ _ s
  refine wpAny_bind (wpAny_newList (wpAny_pure ⟨Code.quiet_builtin _ (by decide +kernel),codeAny_builtin entry_list_iadd' ?_⟩))
  show wpAny _ _ (Builtin.List.listExtendWith (.ref s.heap.objs.size) (.ref l) (.ref s.heap.objs.size)) _ _ { s with heap:=s.heap.push (seqObj "list" #[] 0) }
  unfold Builtin.List.listExtendWith
  have ho':(s.heap.push (seqObj "list" #[] 0)).get? l=some o:=Heap.get?_push_of_some _ ho
  refine wpAny_bind (wpAny_typeOf (T:="tuple") ⟨o,ho',hc⟩ ?_)
  rw [if_pos (by rw [show (Value.type "tuple" == Value.type "tuple")=true from rfl];simp)]
  refine wpAny_bind (listItems_at ho' hd (wpAny_bind (listItems_at (xs:=#[]) (n:=0) (Heap.get?_push_size _ rfl) rfl ?_)))
  rw [if_neg (by simp)]
  refine wpAny_bind (listUpdate_at (xs:=#[]) (n:=0) (Heap.get?_push_size _ rfl) rfl (wpAny_pure ?_) (Nat.zero_le _) (by show (#[]++vs.toArray).size<=sizeLine + 1;simp only [Array.size_append,List.size_toArray,List.length_nil];omega))
  show wpAny (model prog w) A (do
    let o <- load s.heap.objs.size
    match o.data with
    | .seq xs _=>pure xs.toList
    | _=>unsupported "internal:collect") Q E { s with heap:=(s.heap.push (seqObj "list" #[] 0)).update s.heap.objs.size (Obj.mapSeq (·++vs.toArray)) }
  refine wpAny_bind (wpAny_load (get?_update_seq (Heap.get?_push_size _ rfl) _) ?_)
  show wpAny _ _ (pure ((#[]:Array Value)++vs.toArray).toList) Q E _
  rw [show ((#[]:Array Value)++vs.toArray).toList=vs by simp]
  exact wpAny_pure h
theorem wq {lt:Nat->Nat->Bool}{l:Addr}{o:Obj}{vs:List Value}{n:Nat}{T:String}{Q:Value->Shared->Prop} (hT:T="list"\/T="tuple") (ho:s.heap.get? l=some o) (hc:o.cls=.type T) (hd:o.data=.seq vs.toArray n) (h64:vs.length < 64) (O:Ord vs.length lt)
  (hk:2<=vs.length->∀s':Shared,(∀b o,s.heap.get? b=some o->s'.heap.get? b=some o)->j7 prog w A.in1.in1 vs lt s')
  (h:∀p,Pm vs.length p->Asc lt p vs.length->Q (.ref (s.heap.objs.size + 1)) { s with heap:=sortedAll s.heap vs (fm vs p).toArray }):wpAny (model prog w) A (call (.builtin "sorted") [.ref l]) Q E s:=by
 refine Calls.call_function_entry kind_sorted plain_sorted entry_sorted (args_sorted1 _) ?_
 unfold Builtin.«sorted»
 refine wpAny_bind (m:=checkCount "sorted" 1 1 _) (wpAny_pure (wpAny_bind (qP hT ho hc hd (wpAny_bind (wpAny_newList ?_ (by rw [sizeLine_eq];omega))) (by rw [sizeLine_eq];omega))))
 have hsz:((s.heap.push (seqObj "list" #[] 0)).update s.heap.objs.size (Obj.mapSeq (·++vs.toArray))).objs.size=s.heap.objs.size + 1:=by rw [Heap.size_update,size_push']
 have hoL:(((s.heap.push (seqObj "list" #[] 0)).update s.heap.objs.size (Obj.mapSeq (·++vs.toArray))).push (seqObj "list" vs.toArray 0)).get? (s.heap.objs.size + 1)=some (seqObj "list" vs.toArray 0):=by
  rw [<- hsz]
  exact Heap.get?_push_size _ rfl
 show wpAny _ _ _ _ _ { s with heap:=((s.heap.push (seqObj "list" #[] 0)).update s.heap.objs.size (Obj.mapSeq (·++vs.toArray))).push (seqObj "list" vs.toArray 0) }
 rw [hsz]
 have kp:∀b o,s.heap.get? b=some o->(((s.heap.push (seqObj "list" #[] 0)).update s.heap.objs.size (Obj.mapSeq (·++vs.toArray))).push (seqObj "list" vs.toArray 0)).get? b=some o:=fun b ob e=>by
  have hb:=Heap.lt_size e
  refine Heap.get?_push_of_some _ ?_
  rw [Heap.get?_update_ne _ _ _ _ (Nat.ne_of_lt hb)]
  exact Heap.get?_push_of_some _ e
 refine wpAny_bind (wpAny_holding (wpAny_call_entry slot_list_sort ⟨_,hoL,rfl⟩ entry_list_sort (rP hoL h64 O (fun z s' hs'=>hk z s' fun b ob e=>hs' b ob (by have:=Heap.lt_size e;exact Nat.ne_of_lt (Nat.lt_succ_of_lt this)) (kp b ob e)) fun p hp ha=>⟨_,rfl,?_⟩) (args_list_sort _)))
 exact wpAny_pure ⟨_,rfl,h p hp ha⟩
end
theorem jK {h:Heap}:∀{vs fs:List Value},KatTups h vs fs->∀(i:Nat),i < vs.length->∃a o xs n f,vs.getD i Value.none=.ref a/\h.get? a=some o/\o.data=.seq xs n/\xs[0]?=some f/\fs[i]?=some f
 | [],[],_,i,hi=>absurd hi (Nat.not_lt_zero _)
 | [],_::_,t,_,_=>t.elim
 | _::_,[],t,_,_=>t.elim
 | v::vs,f::fs,t,0,_=>by
  obtain⟨⟨a,o,xs,n,rfl,ho,hc,hd,hf⟩,_⟩:=t
  exact⟨a,o,xs,n,f,rfl,ho,hd,hf,rfl⟩
 | v::vs,f::fs,t,i + 1,hi=>by
  obtain⟨_,t⟩:=t
  obtain⟨a,o,xs,n,g,e1,e2,e3,e4,e5⟩:=jK t i (by simpa using hi)
  exact⟨a,o,xs,n,g,by simpa using e1,e2,e3,e4,by simpa using e5⟩
theorem jJ:∀{fs:List Value}{ss:List Str},StrsAre fs ss->∀(i:Nat) (f:Value),fs[i]?=some f->∃t,f=.str (ss.getD i Str.empty) t/\i < ss.length
 | _,_,.nil,i,f,h=>by simp at h
 | _,_,.cons y t r,0,f,h=>by simp at h;exact⟨t,h.symm,by simp⟩
 | _,_,.cons y t r,i + 1,f,h=>by
  obtain⟨t',e1,e2⟩:=jJ r i f (by simpa using h)
  exact⟨t',by simpa using e1,by simpa using e2⟩
theorem xb {prog:Program}{w:World}{A:Around}{s:Shared}{vs fs:List Value}{ss:List Str} (t:KatTups s.heap vs fs) (hS:StrsAre fs ss) (hne:0 < fs.length) (hnd:ss.Nodup) :
  j7 prog w A vs (fun i j=>decide ((ss.getD i Str.empty).cps.toList < (ss.getD j Str.empty).cps.toList)) s:=by
 refine⟨tuples' (Value.type "str" != Value.type "tuple"),fun Q q=>kat_kind (T:=Value.type "str") t hne (fun v hv=>?_) (by decide) q,fun i j C hi hj hij q=>?_⟩
 ·obtain⟨x,u,rfl⟩:=hS.all v hv
  exact Looks.now
 ·obtain⟨a,o,xs,n,f,e1,e2,e3,e4,e5⟩:=jK t i hi
  obtain⟨b,o',ys,n',g,g1,g2,g3,g4,g5⟩:=jK t j hj
  obtain⟨tf,rfl,hil⟩:=jJ hS i f e5
  obtain⟨tg,rfl,hjl⟩:=jJ hS j g g5
  unfold kas_ask
  rw [e1,g1]
  refine kat_lt e2 e3 g2 g3 ?_
  obtain⟨xr,hx⟩:∃xr,xs.toList=.str (ss.getD i Str.empty) tf::xr:=by
   cases hq:xs.toList with
   | nil=>rw [<- Array.getElem?_toList,hq] at e4;simp at e4
   | cons z zr=>rw [<- Array.getElem?_toList,hq] at e4;simp at e4;rw [e4];exact⟨zr,rfl⟩
  obtain⟨yr,hy⟩:∃yr,ys.toList=.str (ss.getD j Str.empty) tg::yr:=by
   cases hq:ys.toList with
   | nil=>rw [<- Array.getElem?_toList,hq] at g4;simp at g4
   | cons z zr=>rw [<- Array.getElem?_toList,hq] at g4;simp at g4;rw [g4];exact⟨zr,rfl⟩
  rw [hx,hy]
  have hnE:ss.getD i Str.empty≠ss.getD j Str.empty:=by
   rw [List.getD_eq_getElem?_getD,List.getD_eq_getElem?_getD,List.getElem?_eq_getElem hil,List.getElem?_eq_getElem hjl]
   intro z
   have z':ss[i]=ss[j]:=z
   rcases Nat.lt_or_gt_of_ne hij with y | y
   ·exact List.pairwise_iff_getElem.mp hnd i j hil hjl y z'
   ·exact List.pairwise_iff_getElem.mp hnd j i hjl hil y z'.symm
  show KatLex prog w A _ _ C ((Value.str (ss.getD i Str.empty) tf,Value.str (ss.getD j Str.empty) tg)::xr.zip yr) 0 s
  refine kat_cons (wpAny_eqBool_str ?_)
  rw [decide_eq_false hnE]
  refine kat_no ?_
  show wpAny _ A (oneLt' true _ _) C _ s
  exact strKind_oneLt prog w A _ s _ _ _ _ rfl rfl q
theorem nC {x y:Str} (h:x≠y):x.cps.toList < y.cps.toList\/y.cps.toList < x.cps.toList:=by
 by_cases c:x.cps.toList < y.cps.toList
 ·exact .inl c
 ·rcases List.le_iff_lt_or_eq.mp (List.not_lt.mp c) with z | z
  ·exact .inr z
  ·refine absurd ?_ h
   obtain⟨a⟩:=x
   obtain⟨b⟩:=y
   have e:b=a:=Array.toList_inj.mp z
   rw [e]
noncomputable def oo (H:Hp) (rs:List (Addr×Str)):Prop:=∀r∈rs,∃rest,H r.1=some (.tup (.str r.2::rest))
noncomputable abbrev refs (rs:List (Addr×Str)):List V:=rs.map fun r=>V.ref r.1
noncomputable def nlt (x y:Str):Prop:=x.cps.toList < y.cps.toList
theorem k9 {P:Program}{w:World}{H:Hp}{h:Heap} (ok:HOk P w H h):∀{rs:List (Addr×Str)}{us:List Value},oo H rs->av (refs rs) us->∃fs,KatTups h us fs/\StrsAre fs (rs.map (·.2))
 | [],us,_,r=>by cases r;exact⟨[],trivial,.nil⟩
 | x::rs,us,hr,r=>by
  cases r with
  | @cons _ u _ us' r1 r2 =>
   obtain⟨fs,t,q⟩:=k9 ok (rs:=rs) (fun y hy=>hr y (List.mem_cons_of_mem _ hy)) r2
   obtain⟨rest,e⟩:=hr x List.mem_cons_self
   cases (show u=Value.ref x.1 from r1)
   obtain⟨_,its,rv,o,ho,hc,n,hd⟩:=(show aJ P w H h x.1 (.tup (.str x.2::rest)) from ok x.1 _ e)
   cases rv with
   | @cons _ f _ its' rf _ =>
    obtain⟨tk,rfl⟩:=rf
    exact⟨.str x.2 tk::fs,KatTups.cons ho hc hd (by simp) t,.cons _ _ q⟩
theorem lP {xs:List V}{us:List Value} (r:av xs us):∀{ps:List Nat},(∀i∈ps,i < xs.length)->av (ps.map fun i=>xs.getD i .non) (ps.map fun i=>us.getD i Value.none)
 | [],_=>.nil
 | i::ps,h=>by
  have hi:=h i List.mem_cons_self
  obtain⟨u,e,ru⟩:=r.get (List.getElem?_eq_getElem hi)
  refine .cons ?_ (lP r fun j hj=>h j (List.mem_cons_of_mem _ hj))
  show RelV (xs.getD i .non) (us.getD i Value.none)
  rw [List.getD_eq_getElem?_getD,List.getD_eq_getElem?_getD,List.getElem?_eq_getElem hi,e]
  exact ru
theorem tZ {α:Type} (d:α) (xs:List α) {p:Array Nat} (h:Pm xs.length p):(p.toList.map fun i=>xs.getD i d).Perm xs:=by
 have hp:p.toList.Perm (List.range xs.length):=by simpa using Array.perm_iff_toList_perm.mp h
 have e:(List.range xs.length).map (fun i=>xs.getD i d)=xs:=by
  apply List.ext_getElem
  ·simp
  ·intro i h1 h2
   simp [h2]
 exact (hp.map _).trans (by rw [e])
section
variable {X:Cx}
theorem qB:bX X (.builtin "sorted") (fun xs H Q=>∃(p:Addr) (rs:List (Addr×Str)),xs=[.ref p]/\(SqL X.K H p (refs rs)\/SqT X.K H p (refs rs))/\oo H rs/\rs.length < 64/\(rs.map (·.2)).Nodup /\
  ∀(rs':List (Addr×Str)) (q:Addr),rs'.Perm rs->(rs'.map (·.2)).Pairwise nlt->H q=none->Q (.ref q) (upd H q (.lst (refs rs')))):=by
 intro pins s σ H xs us Q I r h
 obtain⟨p,rs,rfl,hq,hR,h64,hnd,q⟩:=h
 obtain⟨u,rfl,rx⟩:=vals1 r
 cases rx
 have core:∀(T:String) (o:Obj) (its:List Value) (n:Nat),(T="list"\/T="tuple")->s.heap.get? p=some o->o.cls=.type T->o.data=.seq its.toArray n->av (refs rs) its ->
   wpAny (model X.prog X.w) X.A (call (.builtin "sorted") [.ref p]) (EP X pins σ Q) X.xe s:=fun T o its n hT ho hc hd r'=>by
  have hl:=r'.length
  have hl':its.length=rs.length:=by rw [<- hl];simp
  have O:Ord its.length (fun i j=>decide (((rs.map (·.2)).getD i Str.empty).cps.toList < ((rs.map (·.2)).getD j Str.empty).cps.toList)):=by
   refine⟨fun i j k h1 h2=>?_,fun i=>?_,fun i j hi hj hij=>?_⟩
   ·exact decide_eq_true (List.lt_trans (of_decide_eq_true h1) (of_decide_eq_true h2))
   ·exact decide_eq_false (List.lt_irrefl _)
   ·have hil:i < (rs.map (·.2)).length:=by simpa [<- hl'] using hi
    have hjl:j < (rs.map (·.2)).length:=by simpa [<- hl'] using hj
    rw [List.getD_eq_getElem?_getD,List.getD_eq_getElem?_getD,List.getElem?_eq_getElem hil,List.getElem?_eq_getElem hjl]
    have ne:(rs.map (·.2))[i]≠(rs.map (·.2))[j]:=by
     rcases Nat.lt_or_gt_of_ne hij with y | y
     ·exact List.pairwise_iff_getElem.mp hnd i j hil hjl y
     ·exact fun z=>List.pairwise_iff_getElem.mp hnd j i hjl hil y z.symm
    exact (nC ne).imp decide_eq_true decide_eq_true
  refine wq hT ho hc hd (by omega) O (fun h2 s' hs'=>?_) fun pm hp ha=>?_
  ·obtain⟨fs,t,hS⟩:=k9 (I.hok.kept hs') hR r'
   have hfl:0 < fs.length:=by
    have:=hS.length
    simp at this
    omega
   exact xb t hS hfl hnd
  ·obtain⟨e,he⟩:=sortedAll_at s.heap its (fm its pm).toArray
   have hpm:Pm rs.length pm:=by rw [<- hl'];exact hp
   have hlt:∀i∈pm.toList,i < rs.length:=fun i hi=>by
    have:i∈(List.toArray (List.range rs.length)):=hpm.mem_iff.mp (by simpa using hi)
    simpa using this
   have hv:av ((pm.toList.map fun i=>(refs rs).getD i .non)) (fm its pm):=lP r' fun i hi=>by simpa using hlt i hi
   have he2:(pm.toList.map fun i=>(refs rs).getD i .non)=refs (pm.toList.map fun i=>rs.getD i (0,Str.empty)):=by
    unfold refs
    rw [List.map_map]
    exact List.map_congr_left fun i hi=>by simp [hlt i hi]
   rw [he2] at hv
   have hfr:H (s.heap.objs.size + 1)=none:=I.hok.fresh (Nat.le_succ _)
   have hpe:=tZ (0,Str.empty) rs hpm
   refine⟨.ref (s.heap.objs.size + 1),_,I.laid (t':=s.toks) (o:=.lst (refs (pm.toList.map fun i=>rs.getD i (0,Str.empty)))) (fun b o z=>sortedAll_old z) (Nat.le_succ _) ⟨?_,fm its pm,e,hv,?_⟩,rfl,q _ _ hpe ?_ hfr⟩
   ·unfold refs
    rw [List.length_map,hpe.length_eq,sizeLine_eq];omega
   ·simpa [seqObj] using he
   ·rw [List.map_map,List.pairwise_map]
    refine List.pairwise_iff_getElem.mpr fun i j hi hj hij=>?_
    have hps:=hp.size
    have hi':i < pm.size:=by simpa using hi
    have hj':j < pm.size:=by simpa using hj
    have z:=of_decide_eq_true (ha i j hij (by omega))
    rw [gJ hi',gJ hj'] at z
    show ((rs.getD pm.toList[i] (0,Str.empty)).2).cps.toList < ((rs.getD pm.toList[j] (0,Str.empty)).2).cps.toList
    have b1:=hlt pm.toList[i] (List.getElem_mem _)
    have b2:=hlt pm.toList[j] (List.getElem_mem _)
    simp only [Array.getElem_toList] at b1 b2 ⊢
    simpa [b1,b2] using z
 rcases hq with hq | hq
 ·obtain⟨its,r',pl,hz⟩:=I.list hq
  obtain⟨o,ho,hc,n,hd⟩:=pl.isList
  exact core "list" o its n (.inl rfl) ho hc hd r'
 ·obtain⟨its,r',pl,hz⟩:=I.tuple hq
  obtain⟨o,ho,hc,n,hd⟩:=pl
  exact core "tuple" o its n (.inr rfl) ho hc hd r'
end
end L2
namespace L2
open PySem PySem.Spec PyProof.Rows
noncomputable def Its (x:Str):It:=⟨fun i _=>i < x.length,fun i H v H'=>H'=H/\∃c,x.cps[i]?=some c/\v=.str ⟨#[c]⟩,fun i _=>x.length<=i⟩
theorem uC {P:Program}{w:World}{K:PySem.W.Frag}{tg:Expr} (x:Str) (t:Tok) (it:Addr):Turn P w K tg (Its x) [it] it (fun i h=>h.IsStrIter it "str_ascii_iterator" x t i) where
 mem:=by simp
 obj:=fun i h st b hb=>by
  have e:b=it:=by simpa using hb
  subst e
  obtain⟨o,e,c,d⟩:=st
  exact⟨o,e,fun v z=>by rw [d] at z;cases z⟩
 keep:=fun i h h' st k=>by
  obtain⟨o,e,r⟩:=st
  exact⟨o,k it (by simp) o e,r⟩
 item:=by
  intro X hP hw hK hc i pins s σ H E I hf st hg
  subst hP hw hK
  have hg':i < x.cps.size:=hg
  obtain⟨f0,f1,f2,f3,f4,f5⟩:=hf it (by simp)
  refine wpAny_pyNext_ascii_item st (Array.getElem?_eq_getElem hg') fun h' st' sb=>?_
  have I1:Inv X pins σ H { s with heap:=h',toks:=s.toks + 1 }:=I.turned (fun b o hb e=>(sb.2 b hb).trans e) f0 f1 f3 f4 f5
  obtain⟨o,e,c,d⟩:=id st'
  exact⟨_,rfl,fS (s:={ s with heap:=h',toks:=s.toks + 1 }) e c d (by decide) ⟨.str ⟨#[x.cps[i]]⟩,H,I1,⟨_,rfl⟩,⟨rfl,_,Array.getElem?_eq_getElem hg',rfl⟩,st',fun b hb=>(hf b hb).1⟩⟩
 done:=by
  intro X hP hw hK hc i pins s σ H E I hf st hg
  subst hP hw hK
  have hg':x.cps.size<=i:=hg
  obtain⟨f0,f1,f2,f3,f4,f5⟩:=hf it (by simp)
  exact wpAny_pyNext_ascii_end (I.ok.hd hc) st (Array.getElem?_eq_none hg') fun h' eb=>⟨rfl,I.turned (t':=s.toks) (fun b o hb e=>eb b o hb e) f0 f1 f3 f4 f5⟩
 self:=fun A i s Q E st h=>wpAny_pyIter_striter_ascii st h
section
variable {X:Cx}{tg:Expr}
noncomputable def yk (tl:TE):TI:=fun σ H R=>tl σ H fun v H1=>∃x:Str,v=.str x/\x.cps.all (· < 128)=true/\R (Its x) H1
theorem oy {l:Expr}{tl:TE} (hl:PE X l tl):PI X tg l (yk tl):=by
 intro pins s σ H R I h
 refine thn (hl pins s σ H _ I h) fun v s1 ⟨x,H1,I1,r1,q1⟩=>?_
 obtain⟨y,rfl,ha,q⟩:=q1
 obtain⟨t,rfl⟩:=r1
 refine wpAny_pyIter_ascii ha ?_
 refine⟨s1.heap.objs.size,[s1.heap.objs.size],_,_,H1,rfl,I1.kept (t':=s1.toks) fun b o e=>Heap.get?_push_of_some _ e,uC y t _,⟨_,Heap.get?_push_size _ rfl,rfl,rfl⟩,fun b hb=>?_,q⟩
 have e:b=s1.heap.objs.size:=by simpa using hb
 subst e
 exact I1.fpOk (Nat.le_refl _) (I1.hok.fresh (Nat.le_refl _))
theorem wO:SlR X (fun x lo hi H Q=>∃z,x=.str z/\z.length<=sizeLine/\Q (.str (Txt.slice z lo hi)) H):=by
 intro pins s σ H x v vl vu lo hi sl Q I rx hs pl pu h
 obtain⟨z,rfl,hz,q⟩:=h
 obtain⟨t,rfl⟩:=rx
 have fin:∀(t':Tok) (k:Nat),EP X pins σ Q (.str (Txt.slice z lo hi) t') { s with toks:=k }:=fun t' k=>⟨.str (Txt.slice z lo hi),H,I.tok k,⟨_,rfl⟩,q⟩
 refine⟨"str",_,F.slot_str_getitem.lookup,typeIs_str _ _ _,?_⟩
 obtain⟨o,ho,hc,hd⟩:=hs
 cases pl with
 | none =>
  cases pu with
  | none=>exact wpAny_getItem_str_slice (l:=none) (u:=none) (st:=none) ⟨o,ho,hc,hd⟩ rfl (post_val_or_str ⟨Nat.le_trans (Txt.slice_le z _ _) hz,fun t' k=>fin t' k⟩)
  | int j uj=>exact wpAny_getItem_str_slice (l:=none) (u:=some (j,uj)) (st:=none) ⟨o,ho,hc,hd⟩ rfl (post_val_or_str ⟨Nat.le_trans (Txt.slice_le z _ _) hz,fun t' k=>fin t' k⟩)
 | int i ui =>
  cases pu with
  | none=>exact wpAny_getItem_str_slice (l:=some (i,ui)) (u:=none) (st:=none) ⟨o,ho,hc,hd⟩ rfl (post_val_or_str ⟨Nat.le_trans (Txt.slice_le z _ _) hz,fun t' k=>fin t' k⟩)
  | int j uj=>exact wpAny_getItem_str_slice (l:=some (i,ui)) (u:=some (j,uj)) (st:=none) ⟨o,ho,hc,hd⟩ rfl (post_val_or_str ⟨Nat.le_trans (Txt.slice_le z _ _) hz,fun t' k=>fin t' k⟩)
theorem sk {prog:Program}{w:World}{A:Around}{E:Value->Shared->Prop}{s:Shared}{t sl:Addr}{items:Array Value}{vl vu:Value}{lo hi:Option Int}{Q:Value->Shared->Prop} (ht:IsTup s.heap t items) (hs:s.heap.IsSliceOf sl vl vu .none) (pl:IsPart vl lo) (pu:IsPart vu hi)
  (h0:HT.sIx items.size 0 lo=0) (h1:HT.sIx items.size items.size hi=items.size) (h:Q (.ref t) s):wpAny (model prog w) A (getItem (.ref t) (.ref sl)) Q E s:=by
 obtain⟨os,hos,hcs,hds⟩:=id hs
 have hTs:s.TypeIs (.ref sl) "slice":=⟨os,hos,hcs⟩
 unfold getItem
 try with_reducible refine wpAny_holding ?_
 first | refine wpAny_bind (wpAny_pure ?_) | skip
 refine wpAny_bind (wpAny_sequenceKey ht.typeIs (by decide) (wpAny_bind (wpAny_callSpecial?_slot (name:=Str.ofString "__getitem__") ht.typeIs PyProof.Rows.slot_tuple_getitem
  (wpAny_call_entry PyProof.Rows.slot_tuple_getitem ht.typeIs entry_tuple_getitem ?_ (args_tuple_getitem _ _)))))
 show wpAny _ _ (Builtin.Tuple.tupleItemsOf (.ref t) >>= _) _ _ s
 refine wpAny_bind (tupleItemsOf_ ht (wpAny_bind (wpAny_typeOf hTs ?_)))
 rw [if_pos (by decide)]
 refine wpAny_bind (HT.p4 hs pl pu ?_)
 show wpAny _ _ (if (((HT.sIx items.size 0 lo:Nat):Int) == 0 && (1:Int) == 1 && (HT.sIx items.size items.size hi - HT.sIx items.size 0 lo) == items.size)=true then _ else _) _ _ s
 rw [h0,h1,if_pos (by simp)]
 refine wpAny_bind (wpAny_bind (wpAny_typeOf ht.typeIs (wpAny_pure ?_)))
 rw [if_pos (by rfl)]
 exact wpAny_bind (wpAny_rule (wpAny_pure ⟨_,rfl,wpAny_pure h⟩))
noncomputable def pG (K:PySem.W.Frag):V->Option Int->Option Int->Hp->VK->Prop:=fun x lo hi H Q=>∃a xs,x=.ref a/\SqT K H a xs /\
 (cz xs lo hi=xs->Q (.ref a) H)/\∀p,H p=none->Q (.ref p) (upd H p (.tup (cz xs lo hi)))
theorem nB:SlR X (pG X.K):=by
 intro pins s σ H x v vl vu lo hi sl Q I rx hs pl pu h
 obtain⟨a,xs,rfl,hx,q1,q2⟩:=h
 by_cases hw:HT.sIx xs.length 0 lo=0/\HT.sIx xs.length xs.length hi=xs.length
 ·cases rx
  obtain⟨its,r,ht,hz⟩:=I.tuple hx
  have hlen:its.toArray.size=xs.length:=by rw [List.size_toArray];exact r.length.symm
  refine⟨"tuple",_,PyProof.Rows.slot_tuple_getitem.lookup,ht.typeIs,sk ht hs pl pu (by rw [hlen];exact hw.1) (by rw [hlen];exact hw.2) ⟨.ref a,H,I,rfl,q1 ?_⟩⟩
  unfold cz
  rw [hw.1,hw.2]
  simp
 ·exact wU pins s σ H (.ref a) v vl vu lo hi sl Q I rx hs pl pu ⟨a,xs,rfl,hx,hw,q2⟩
noncomputable def iD (K:PySem.W.Frag):R2:=fun x y H Q=>∃a b xs ys,x=.ref a/\y=.ref b/\SqT K H a xs/\SqT K H b ys/\xs.length + ys.length<=sizeLine /\
 (xs=[]->Q (.ref b) H)/\(ys=[]->Q (.ref a) H)/\∀p,H p=none->Q (.ref p) (upd H p (.tup (xs++ys)))
theorem jB:OpR X (binaryOp .Add) (iD X.K):=by
 intro pins s σ H x y v u Q I rx ry h
 obtain⟨a,b,xs,ys,rfl,rfl,ha,hb,hz,q0,q1,q2⟩:=h
 by_cases hx:xs=[]
 ·subst hx
  cases rx
  cases ry
  obtain⟨its,r1,p1,_⟩:=I.tuple ha
  obtain⟨its2,r2,p2,_⟩:=I.tuple hb
  cases r1
  obtain⟨⟨cls,dd,data,sl⟩,ho,hc,n,hd⟩:=id p1
  obtain⟨⟨cls2,dd2,data2,sl2⟩,ho2,hc2,n2,hd2⟩:=id p2
  simp only at hc hd hc2 hd2
  subst hc hd hc2 hd2
  exact concat_meets ⟨_,ho,rfl⟩ ⟨_,ho2,rfl⟩ noFill_tuple_add seq_tuple_add PySem.F.slot_tuple_add PySem.F.entry_tuple_add (PySem.F.args_tuple_add_2 _ _)
   (tuple_addW0 a b _ its2.toArray n n2 dd dd2 sl sl2 (by simp)) ⟨ho,ho2,⟨.ref b,H,I,rfl,q0 rfl⟩⟩
 ·exact wt pins s σ H (.ref a) (.ref b) v u Q I rx ry ⟨a,b,xs,ys,rfl,rfl,ha,hb,hx,hz,q1,fun _=>q2⟩
end
section
variable {K:PySem.W.Frag}{g:TG}{tt:TT}{te:TE}{σ':St}{fin:List V->Hp->Prop}{H1:Hp}
theorem ik {J:It}{n:Nat} (hn:n < sizeLine) (Pv:Nat->List V->St->Hp->Prop) (Yd:Nat->V->Prop) (h0:Pv 0 [] σ' H1) (hl:∀i ys σ H,i<=n->Pv i ys σ H->ys.length<=i)
  (hgo:∀i ys σ H,i < n->Pv i ys σ H->J.go i H) (hst:∀ys σ H,Pv n ys σ H->J.stop n H) (hy:∀i ys σ H x H',i < n->Pv i ys σ H->J.yld i H x H'->H'=H/\Yd i x)
  (hs:∀i x ys σ H,i < n->Yd i x->Pv i ys σ H->g x σ H fun σ2 H2=>tt σ2 H2 fun b H3=>if b=true then te σ2 H3 (fun v H4=>Pv (i + 1) (ys++[v]) σ2 H4) else Pv (i + 1) ys σ2 H3) (hd:∀ys σ H,Pv n ys σ H->fin ys H) :
  LcW J g tt te σ' fin H1:=by
 refine⟨fun i m ys σ H=>m=n - i/\i<=n/\Pv i ys σ H,⟨n,by simp,Nat.zero_le _,h0⟩,?_⟩
 rintro i m ys σ H ⟨rfl,hi,p⟩
 have hly:=hl i ys σ H hi p
 by_cases hlt:i < n
 ·refine .inr ⟨hgo i ys σ H hlt p,by omega,fun ys' σ2 H2=>Pv (i + 1) ys' σ2 H2,fun ys' σ2 H2 q=>⟨n - (i + 1),by omega,rfl,hlt,q⟩,fun x H' y=>?_⟩
  obtain⟨e,yd⟩:=hy i ys σ H x H' hlt p y
  subst e
  exact hs i x ys σ H' hlt yd p
 ·have e:i=n:=by omega
  subst e
  exact .inl ⟨hst ys σ H p,by omega,hd ys σ H p⟩
theorem nr {a:Addr}{xs:List V} (hn:xs.length < sizeLine) (Pv:Nat->List V->St->Hp->Prop) (h0:Pv 0 [] σ' H1) (hl:∀i ys σ H,i<=xs.length->Pv i ys σ H->ys.length<=i/\SqT K H a xs)
  (hs:∀i x ys σ H,xs[i]?=some x->Pv i ys σ H->g x σ H fun σ2 H2=>tt σ2 H2 fun b H3=>if b=true then te σ2 H3 (fun v H4=>Pv (i + 1) (ys++[v]) σ2 H4) else Pv (i + 1) ys σ2 H3) (hd:∀ys σ H,Pv xs.length ys σ H->fin ys H) :
  LcW (Itt K a) g tt te σ' fin H1 :=
 ik hn Pv (fun i x=>xs[i]?=some x) h0 (fun i ys σ H hi p=>(hl i ys σ H hi p).1) (fun i ys σ H hi p=>⟨xs,xs[i],(hl i ys σ H (Nat.le_of_lt hi) p).2,by simp [hi]⟩) (fun ys σ H p=>⟨xs,(hl _ ys σ H (Nat.le_refl _) p).2,Nat.le_refl _⟩)
  (fun i ys σ H x H' hi p y=>⟨y.1,y.2 xs (hl i ys σ H (Nat.le_of_lt hi) p).2⟩) (fun i x ys σ H _ yd p=>hs i x ys σ H yd p) hd
theorem mD {a:Addr}{xs:List V} (hn:xs.length < sizeLine) (Pv:Nat->List V->St->Hp->Prop) (h0:Pv 0 [] σ' H1) (hl:∀i ys σ H,i<=xs.length->Pv i ys σ H->ys.length<=i/\SqL K H a xs)
  (hs:∀i x ys σ H,xs[i]?=some x->Pv i ys σ H->g x σ H fun σ2 H2=>tt σ2 H2 fun b H3=>if b=true then te σ2 H3 (fun v H4=>Pv (i + 1) (ys++[v]) σ2 H4) else Pv (i + 1) ys σ2 H3) (hd:∀ys σ H,Pv xs.length ys σ H->fin ys H) :
  LcW (Itl K a) g tt te σ' fin H1 :=
 ik hn Pv (fun i x=>xs[i]?=some x) h0 (fun i ys σ H hi p=>(hl i ys σ H hi p).1) (fun i ys σ H hi p=>⟨xs,xs[i],(hl i ys σ H (Nat.le_of_lt hi) p).2,by simp [hi]⟩) (fun ys σ H p=>⟨xs,(hl _ ys σ H (Nat.le_refl _) p).2,Nat.le_refl _⟩)
  (fun i ys σ H x H' hi p y=>⟨y.1,y.2 xs (hl i ys σ H (Nat.le_of_lt hi) p).2⟩) (fun i x ys σ H _ yd p=>hs i x ys σ H yd p) hd
theorem sC {lo:Int}{n:Nat} (hn:n < sizeLine) (Pv:Nat->List V->St->Hp->Prop) (h0:Pv 0 [] σ' H1) (hl:∀i ys σ H,i<=n->Pv i ys σ H->ys.length<=i)
  (hs:∀i ys σ H,i < n->Pv i ys σ H->g (.int (lo + i)) σ H fun σ2 H2=>tt σ2 H2 fun b H3=>if b=true then te σ2 H3 (fun v H4=>Pv (i + 1) (ys++[v]) σ2 H4) else Pv (i + 1) ys σ2 H3) (hd:∀ys σ H,Pv n ys σ H->fin ys H) :
  LcW (Itr lo n) g tt te σ' fin H1 :=
 ik hn Pv (fun i x=>x=.int (lo + i)) h0 hl (fun i ys σ H hi p=>hi) (fun ys σ H p=>Nat.le_refl _) (fun i ys σ H x H' hi p y=>y) (fun i x ys σ H hi yd p=>by subst yd;exact hs i ys σ H hi p) hd
theorem v9 {x:Str} (hn:x.length < sizeLine) (Pv:Nat->List V->St->Hp->Prop) (h0:Pv 0 [] σ' H1) (hl:∀i ys σ H,i<=x.length->Pv i ys σ H->ys.length<=i)
  (hs:∀i c ys σ H,x.cps[i]?=some c->Pv i ys σ H->g (.str ⟨#[c]⟩) σ H fun σ2 H2=>tt σ2 H2 fun b H3=>if b=true then te σ2 H3 (fun v H4=>Pv (i + 1) (ys++[v]) σ2 H4) else Pv (i + 1) ys σ2 H3) (hd:∀ys σ H,Pv x.length ys σ H->fin ys H) :
  LcW (Its x) g tt te σ' fin H1 :=
 ik hn Pv (fun i v=>∃c,x.cps[i]?=some c/\v=.str ⟨#[c]⟩) h0 hl (fun i ys σ H hi p=>hi) (fun ys σ H p=>Nat.le_refl _) (fun i ys σ H v H' hi p y=>y) (fun i v ys σ H hi yd p=>by obtain⟨c,e,rfl⟩:=yd;exact hs i c ys σ H e p) hd
end
section
variable {K:PySem.W.Frag}{tt:TT}{te:TE}{σ':St}{fin:List V->Hp->Prop}{H1:Hp}{j:Nat}
theorem dN {a:Addr}{xs:List V} (hn:xs.length < sizeLine) (Pv:Nat->List V->St->Hp->Prop) (h0:Pv 0 [] σ' H1) (hl:∀i ys σ H,i<=xs.length->Pv i ys σ H->ys.length<=i/\SqT K H a xs)
  (hs:∀i x ys σ H,xs[i]?=some x->Pv i ys σ H->te (σ.set j (some x)) H fun v H4=>Pv (i + 1) (ys++[v]) (σ.set j (some x)) H4) (hd:∀ys σ H,Pv xs.length ys σ H->fin ys H):LcW (Itt K a) (cy j) cL te σ' fin H1 :=
 nr hn Pv h0 hl (fun i x ys σ H hx p=>by unfold cy cL;exact ao (hs i x ys σ H hx p)) hd
theorem t9 {a:Addr}{xs:List V} (hn:xs.length < sizeLine) (Pv:Nat->List V->St->Hp->Prop) (h0:Pv 0 [] σ' H1) (hl:∀i ys σ H,i<=xs.length->Pv i ys σ H->ys.length<=i/\SqL K H a xs)
  (hs:∀i x ys σ H,xs[i]?=some x->Pv i ys σ H->te (σ.set j (some x)) H fun v H4=>Pv (i + 1) (ys++[v]) (σ.set j (some x)) H4) (hd:∀ys σ H,Pv xs.length ys σ H->fin ys H):LcW (Itl K a) (cy j) cL te σ' fin H1 :=
 mD hn Pv h0 hl (fun i x ys σ H hx p=>by unfold cy cL;exact ao (hs i x ys σ H hx p)) hd
theorem gf {lo:Int}{n:Nat} (hn:n < sizeLine) (Pv:Nat->List V->St->Hp->Prop) (h0:Pv 0 [] σ' H1) (hl:∀i ys σ H,i<=n->Pv i ys σ H->ys.length<=i)
  (hs:∀i ys σ H,i < n->Pv i ys σ H->te (σ.set j (some (.int (lo + i)))) H fun v H4=>Pv (i + 1) (ys++[v]) (σ.set j (some (.int (lo + i)))) H4) (hd:∀ys σ H,Pv n ys σ H->fin ys H):LcW (Itr lo n) (cy j) cL te σ' fin H1 :=
 sC hn Pv h0 hl (fun i ys σ H hx p=>by unfold cy cL;exact ao (hs i ys σ H hx p)) hd
theorem mM {x:Str} (hn:x.length < sizeLine) (Pv:Nat->List V->St->Hp->Prop) (h0:Pv 0 [] σ' H1) (hl:∀i ys σ H,i<=x.length->Pv i ys σ H->ys.length<=i)
  (hs:∀i c ys σ H,x.cps[i]?=some c->Pv i ys σ H->te (σ.set j (some (.str ⟨#[c]⟩))) H fun v H4=>Pv (i + 1) (ys++[v]) (σ.set j (some (.str ⟨#[c]⟩))) H4) (hd:∀ys σ H,Pv x.length ys σ H->fin ys H):LcW (Its x) (cy j) cL te σ' fin H1 :=
 v9 hn Pv h0 hl (fun i c ys σ H hx p=>by unfold cy cL;exact ao (hs i c ys σ H hx p)) hd
theorem gr {a:Addr}{xs:List V} (hn:xs.length < sizeLine) (Pv:Nat->List V->St->Hp->Prop) (h0:Pv 0 [] σ' H1) (hl:∀i ys σ H,i<=xs.length->Pv i ys σ H->ys.length<=i/\SqT K H a xs)
  (hs:∀i x ys σ H,xs[i]?=some x->Pv i ys σ H->tt (σ.set j (some x)) H fun b H3=>if b=true then te (σ.set j (some x)) H3 (fun v H4=>Pv (i + 1) (ys++[v]) (σ.set j (some x)) H4) else Pv (i + 1) ys (σ.set j (some x)) H3)
  (hd:∀ys σ H,Pv xs.length ys σ H->fin ys H):LcW (Itt K a) (cy j) tt te σ' fin H1:=nr hn Pv h0 hl hs hd
theorem ub {a:Addr}{xs:List V} (hn:xs.length < sizeLine) (Pv:Nat->List V->St->Hp->Prop) (h0:Pv 0 [] σ' H1) (hl:∀i ys σ H,i<=xs.length->Pv i ys σ H->ys.length<=i/\SqL K H a xs)
  (hs:∀i x ys σ H,xs[i]?=some x->Pv i ys σ H->tt (σ.set j (some x)) H fun b H3=>if b=true then te (σ.set j (some x)) H3 (fun v H4=>Pv (i + 1) (ys++[v]) (σ.set j (some x)) H4) else Pv (i + 1) ys (σ.set j (some x)) H3)
  (hd:∀ys σ H,Pv xs.length ys σ H->fin ys H):LcW (Itl K a) (cy j) tt te σ' fin H1:=mD hn Pv h0 hl hs hd
end
section
variable {X:Cx}{pos:Pos}
noncomputable def xB (i j k:Nat) (ta:TA):TS:=fun D σ H=>ta σ H fun vs H1=>∃v w z,vs=[v,w,z]/\D.nx (((σ.set i (some v)).set j (some w)).set k (some z)) H1
theorem wc {i j k:Nat}{x y z:Str}{a b c:Expr}{ta:TA}{px py pz pt:Pos}{kt k2 pt2} (hc:X.calm=true) (hN:X.N.Nodup) (hi:X.N[i]?=some x) (hj:X.N[j]?=some y) (hk:X.N[k]?=some z) (hij:i≠j) (hik:i≠k) (hjk:j≠k)
  (hx:X.env.scope.names.lookup x=some .local) (hy:X.env.scope.names.lookup y=some .local) (hz:X.env.scope.names.lookup z=some .local) (ha:PA X [a,b,c] ta)
  (hw:swappedStores [.Tuple [.Name x px,.Name y py,.Name z pz] kt pt] (.Tuple [a,b,c] k2 pt2) X.env=pure (some [x,y,z]))
  (hs:swapsWithSole [.Tuple [.Name x px,.Name y py,.Name z pz] kt pt] (.Tuple [a,b,c] k2 pt2) pos.line X.env=pure false:=by rfl) :
  PS X (.Assign [.Tuple [.Name x px,.Name y py,.Name z pz] kt pt] (.Tuple [a,b,c] k2 pt2) pos) (xB i j k ta):=by
 intro pins s σ H D I h
 rw [exec_Assign_arm]
 refine wpAny_bind (wpAny_standAt ?_)
 rw [hs]
 refine wpAny_bind (wpAny_pure ?_)
 rw [if_neg (by decide)]
 refine wpAny_bind (Tuple_ (thn (ha _ pins s σ H _ I h) fun us s1 ⟨vs,H1,I1,r1,q1⟩=>?_))
 obtain⟨v,w,t,e1,q1⟩:=q1
 subst e1
 obtain⟨u1,u2,u3,rfl,rv,rw',rt⟩:∃u1 u2 u3,us=[u1,u2,u3]/\RelV v u1/\RelV w u2/\RelV t u3:=by
  cases r1 with
  | cons p q =>
   cases q with
   | cons p' q' =>
    cases q' with
    | cons p'' q'' =>
     cases q''
     exact⟨_,_,_,rfl,p,p',p''⟩
 refine wpAny_newObj_type ?_ (by show 3<=sizeLine;decide)
 have I2:Inv X pins σ H1 { s1 with heap:=s1.heap.push { cls:=.type "tuple",data:=.seq [u1,u2,u3].toArray } }:=I1.kept (t':=s1.toks) fun b o e=>Heap.get?_push_of_some _ e
 rw [hw]
 refine wpAny_bind (wpAny_pure ?_)
 show wpAny (model X.prog X.w) X.A (do rule "assign.swapped-stores";let items <- unpackItems (.ref s1.heap.objs.size) 3 none;assignInOrder [fun v=>bindName X.env z v,fun v=>bindName X.env y v,fun v=>bindName X.env x v] items.reverse;pure Flow.next) _ _ _
 refine wpAny_bind (wpAny_rule (wpAny_bind (unpackItems_tuple (items:=#[u1,u2,u3]) (I.ok.hd hc) (IsTup.new s1.heap _) fun h' hx'=>?_)))
 have I3:=I2.kept (h':=h') (t':=s1.toks) fun b o e=>hx' b o (Nat.ne_of_lt (Heap.lt_size e)) e
 show wpAny _ _ (assignInOrder [fun v=>bindName X.env z v,fun v=>bindName X.env y v,fun v=>bindName X.env x v] [u3,u2,u1] >>= fun _=>pure Flow.next) _ _ _
 refine wpAny_bind (assignInOrder_cons (wpAny_bindName (eg I3 hN hk (.inl hz) rt (fun s2 I4=>?_) (.inr hz))))
 refine assignInOrder_cons (wpAny_bindName (eg I4 hN hj (.inl hy) rw' (fun s3 I5=>?_) (.inr hy)))
 refine assignInOrder_cons (wpAny_bindName (eg I5 hN hi (.inl hx) rv (fun s4 I6=>assignInOrder_nil (wpAny_pure ?_)) (.inr hx)))
 have e:((σ.set k (some t)).set j (some w)).set i (some v)=((σ.set i (some v)).set j (some w)).set k (some t):=by
  rw [List.set_comm _ _ hjk,List.set_comm _ _ hik,List.set_comm _ _ hij]
 rw [e] at I6
 exact⟨_,H1,I6,q1⟩
end
noncomputable abbrev lc2 (elt tg iter tg2 iter2:Expr) (ifs ifs2:List Expr) (scope:Scope) (pos:Pos):Expr:=.ListComp elt [⟨tg,iter,ifs,0⟩,⟨tg2,iter2,ifs2,0⟩] scope pos
theorem uI (elt tg iter tg2 iter2:Expr) (ifs ifs2:List Expr) (scope:Scope) (pos:Pos) (it acc:Value) (env:Env):compTurn (lc2 elt tg iter tg2 iter2 ifs ifs2 scope pos) 1 it acc env=(do
   standAt iter2.pos
   match <- pyNext it with
   | none=>pure (.done .next)
   | some v =>
    letOwnedTupleGo tg2 it v
    assign tg2 env v
    let mut ok:=true
    for c in ifs2 do
     if ok then ok <- isTrue c env (eval c env)
    if ok then (do let _ <- call (.builtin "list.append") [acc,<- eval elt env])
    again (.compLoop (lc2 elt tg iter tg2 iter2 ifs ifs2 scope pos) 1 it acc env)):=by rfl
theorem uP (elt tg iter tg2 iter2:Expr) (ifs ifs2:List Expr) (scope:Scope) (pos:Pos) (it acc:Value) (env:Env):compTurn (lc2 elt tg iter tg2 iter2 ifs ifs2 scope pos) 0 it acc env=(do
   standAt iter.pos
   match <- pyNext it with
   | none=>pure (.done .next)
   | some v =>
    letOwnedTupleGo tg it v
    assign tg env v
    let mut ok:=true
    for c in ifs do
     if ok then ok <- isTrue c env (eval c env)
    if ok then
     let x <- eval iter2 env
     standAt iter2.pos
     let x <- foldedSetIterable iter2 env x
     let _ <- runOwn (.compStart (lc2 elt tg iter tg2 iter2 ifs ifs2 scope pos) 1 (<- holding [x] (pyIter x)) acc env) env
    again (.compLoop (lc2 elt tg iter tg2 iter2 ifs ifs2 scope pos) 0 it acc env)):=by rfl
section
variable {prog:Program}{w:World}{A:Around}{R:Result->Shared->Prop}{s:Shared}{elt tg iter tg2 iter2:Expr}{ifs ifs2:List Expr}{scope:Scope}{pos:Pos}{it acc:Value}{env:Env}
theorem sx (h0:codeAny (model prog w) A (.compLoop (lc2 elt tg iter tg2 iter2 ifs ifs2 scope pos) 1 it acc env) R s)
  (h:wpAny (model prog w) A (pyIter it) (fun it' s'=>codeAny (model prog w) A (.compLoop (lc2 elt tg iter tg2 iter2 ifs ifs2 scope pos) 1 it' acc env) R s') (fun _ _=>False) s) :
  codeAny (model prog w) A (.compStart (lc2 elt tg iter tg2 iter2 ifs ifs2 scope pos) 1 it acc env) R s:=by
 refine codeAny_of_tree ?_
 show wpAny _ _ ((compStart (lc2 elt tg iter tg2 iter2 ifs ifs2 scope pos) 1 it acc env).onRaise (fun x=>do noteFrame x env;standAt theWindowsPlace)) _ _ s
 refine wpAny_notedAt (wpAny_mono (E:=fun _ _=>False) ?_ (fun _ _ q=>q) fun _ _ f=>f.elim)
 unfold compStart
 show wpAny _ _ (ask >>= _) _ _ s
 refine wpAny_bind (wpAny_askSetting (wpAny_ite ?_))
 split
 ·first | exact wpAny_bind (wpAny_pure (wpAny_pure (And.intro rfl h0))) | exact wpAny_pure (And.intro rfl h0)
 ·first
   | exact wpAny_bind (wpAny_rule (wpAny_bind (wpAny_standAt (wpAny_bind (wpAny_mono h (fun it' s' h'=>wpAny_pure (And.intro rfl h')) fun _ _ x=>x)))))
   | (refine wpAny_bind (wpAny_rule ?_);show wpAny _ _ (standAt iter2.pos >>= _) _ _ s;exact wpAny_bind (wpAny_standAt (wpAny_bind (wpAny_mono h (fun it' s' h'=>wpAny_pure (And.intro rfl h')) fun _ _ x=>x))))
theorem uQ (J:Nat->Shared->Prop)
  (turn:∀n s,J n s->wpAny (model prog w) A (pyNext it) (fun r s1=>match r with
   | none=>R (.ok .next) s1
   | some v=>wpAny (model prog w) A (letOwnedTupleGo tg2 it v) (fun _ s2=>wpAny (model prog w) A (assign tg2 env v) (fun _ s3 =>
     wpAny (model prog w) A (forIn ifs2 true fun c r=>if r=true then do let ok <- isTrue c env (eval c env);pure (ForInStep.yield ok) else pure (ForInStep.yield r)) (fun ok s4 =>
      if ok=true then wpAny (model prog w) A (eval elt env) (fun x s5=>wpAny (model prog w) A (call (.builtin "list.append") [acc,x]) (fun _ s6=>∃m,m < n/\J m s6) (fun _ _=>False) s5) (fun _ _=>False) s4
      else ∃m,m < n/\J m s4) (fun _ _=>False) s3) (fun _ _=>False) s2) (fun _ _=>False) s1) (fun _ _=>False) s)
  (n:Nat) (h:J n s):codeAny (model prog w) A (.compLoop (lc2 elt tg iter tg2 iter2 ifs ifs2 scope pos) 1 it acc env) R s:=by
 refine codeAny_loop rfl J (fun k t hJ=>?_) n h
 show wpAny _ A ((compTurn (lc2 elt tg iter tg2 iter2 ifs ifs2 scope pos) 1 it acc env).onRaise (fun x=>do noteFrame x env;theTreesLotGoes x)) _ _ t
 refine wpAny_noted (wpAny_mono (E:=fun _ _=>False) ?_ (fun _ _ q=>q) fun _ _ f=>f.elim)
 rw [uI]
 refine wpAny_bind (wpAny_standAt (wpAny_bind (thn (turn k t hJ) fun r s1 h1=>?_)))
 cases r with
 | none=>exact wpAny_pure h1
 | some v =>
  refine wpAny_bind (thn h1 fun _ s2 h2=>wpAny_bind (thn h2 fun _ s3 h3=>wpAny_bind (thn h3 fun ok s4 h4=>?_)))
  cases ok with
  | false=>exact wpAny_pure ⟨rfl,h4⟩
  | true=>exact wpAny_bind (wpAny_bind (thn h4 fun x s5 h5=>wpAny_bind (thn h5 fun _ s6 h6=>wpAny_pure (wpAny_pure ⟨rfl,h6⟩))))
theorem ux (hs:∀x,foldedSetIterable iter2 env x=pure x) (J:Nat->Shared->Prop)
  (turn:∀n s,J n s->wpAny (model prog w) A (pyNext it) (fun r s1=>match r with
   | none=>R (.ok .next) s1
   | some v=>wpAny (model prog w) A (letOwnedTupleGo tg it v) (fun _ s2=>wpAny (model prog w) A (assign tg env v) (fun _ s3 =>
     wpAny (model prog w) A (forIn ifs true fun c r=>if r=true then do let ok <- isTrue c env (eval c env);pure (ForInStep.yield ok) else pure (ForInStep.yield r)) (fun ok s4 =>
      if ok=true then wpAny (model prog w) A (eval iter2 env) (fun x s5=>wpAny (model prog w) A (pyIter x) (fun it2 s6=>codeAny (model prog w) A (.compStart (lc2 elt tg iter tg2 iter2 ifs ifs2 scope pos) 1 it2 acc env) (fun r s7=>match r with | .ok _=>∃m,m < n/\J m s7 | .error _=>False) s6) (fun _ _=>False) s5) (fun _ _=>False) s4
      else ∃m,m < n/\J m s4) (fun _ _=>False) s3) (fun _ _=>False) s2) (fun _ _=>False) s1) (fun _ _=>False) s)
  (n:Nat) (h:J n s):codeAny (model prog w) A (.compLoop (lc2 elt tg iter tg2 iter2 ifs ifs2 scope pos) 0 it acc env) R s:=by
 refine codeAny_loop rfl J (fun k t hJ=>?_) n h
 show wpAny _ A ((compTurn (lc2 elt tg iter tg2 iter2 ifs ifs2 scope pos) 0 it acc env).onRaise (fun x=>do noteFrame x env;theTreesLotGoes x)) _ _ t
 refine wpAny_noted (wpAny_mono (E:=fun _ _=>False) ?_ (fun _ _ q=>q) fun _ _ f=>f.elim)
 rw [uP]
 refine wpAny_bind (wpAny_standAt (wpAny_bind (thn (turn k t hJ) fun r s1 h1=>?_)))
 cases r with
 | none=>exact wpAny_pure h1
 | some v =>
  refine wpAny_bind (thn h1 fun _ s2 h2=>wpAny_bind (thn h2 fun _ s3 h3=>wpAny_bind (thn h3 fun ok s4 h4=>?_)))
  cases ok with
  | false=>exact wpAny_pure ⟨rfl,h4⟩
  | true =>
   refine wpAny_bind (thn h4 fun x s5 h5=>wpAny_bind (wpAny_standAt (wpAny_bind (wpAny_of_eq (hs x) (wpAny_bind (wpAny_holding (thn h5 fun it2 s6 h6=>wpAny_bind (wpAny_runOwn ?_))))))))
   rw [Around.mark_none]
   refine codeAny_mono h6 fun r s7 h7=>?_
   cases r with
   | error e=>exact h7.elim
   | ok f=>exact wpAny_pure ⟨rfl,h7⟩
end
noncomputable def pV (J:It) (g:TG) (tt:TT) (te:TE) (ys0:List V) (σ':St) (fin:List V->St->Hp->Prop) (H1:Hp):Prop :=
 ∃W:Nat->Nat->List V->St->Hp->Prop,(∃m,W 0 m ys0 σ' H1)/\∀i m ys σ H,W i m ys σ H ->
  (J.stop i H/\ys.length<=sizeLine/\fin ys σ H)\/(J.go i H/\ys.length < sizeLine/\∃Nx:List V->St->Hp->Prop,(∀ys' σ' H',Nx ys' σ' H'->∃m',m' < m/\W (i + 1) m' ys' σ' H') /\
   ∀x H',J.yld i H x H'->g x σ H' fun σ2 H2=>tt σ2 H2 fun b H3=>if b=true then te σ2 H3 (fun v H4=>Nx (ys++[v]) σ2 H4) else Nx ys σ2 H3)
noncomputable abbrev lsO (its:List Value) (k:Nat):Obj:={ cls:=.type "list",data:=.seq its.toArray k }
theorem vb {Y:Cx}{D:Addr}{elt tg iter tg2 iter2:Expr}{ifs ifs2:List Expr}{scope:Scope}{pos:Pos}{g:TG}{tt:TT}{te:TE} (hc:Y.calm=true) (hDC:D≠Y.env.locals) (hDf:D∉Y.fs) (hDs:Y.s₀.heap.objs.size<=D) (cellD:∀x c,Y.env.cells.lookup x=some c->c≠D) (pn:Y.pn=[]) (hxe:Y.xe=fun _ _=>False)
  (hg:PG Y tg2 g) (ht:PTs Y ifs2 tt) (he:PE Y elt te) {P0:List (Addr×Obj)} (hP0:∀p∈P0,p.1≠D)
  {σ:St}{H:Hp}{s:Shared}{its:List Value}{k:Nat}{it:Addr}{fp:List Addr}{tn:Nat->Heap->Prop}{J:It}{ys:List V}{fin:List V->St->Hp->Prop}{R:Result->Shared->Prop}
  (I:Inv Y ((D,lsO its k)::P0) σ H s) (rv:av ys its) (T:Turn Y.prog Y.w Y.K tg2 J fp it tn) (st:tn 0 s.heap) (f2:∀b∈fp,bJ Y ((D,lsO its k)::P0) H b) (hW:pV J g tt te ys σ fin H)
  (hR:∀σ' H' s' ys' its' k',Inv Y ((D,lsO its' k')::P0) σ' H' s'->av ys' its'->ys'.length<=sizeLine->fin ys' σ' H'->R (.ok .next) s') :
  codeAny (model Y.prog Y.w) Y.A (.compLoop (lc2 elt tg iter tg2 iter2 ifs ifs2 scope pos) 1 (.ref it) (.ref D) Y.env) R s:=by
 obtain⟨W,⟨m0,w0⟩,turn⟩:=hW
 have nD:∀b∈fp,b≠D:=fun b hb z=>(f2 b hb).2.2.2.2.2 (D,lsO its k) (List.mem_append_right _ List.mem_cons_self) z.symm
 have stat:∀{H':Hp} (its':List Value) (k':Nat),(∀b∈fp,H' b=none)->∀b∈fp,bJ Y ((D,lsO its' k')::P0) H' b:=fun {H'} its' k' hn b hb=>by
  obtain⟨_,a1,a2,a3,a4,a5⟩:=f2 b hb
  refine⟨hn b hb,a1,a2,a3,a4,fun p hp=>?_⟩
  rcases List.mem_append.mp hp with z | z
  ·exact a5 p (List.mem_append_left _ z)
  ·rcases List.mem_cons.mp z with q | q
   ·rw [q];exact fun z=>nD b hb z.symm
   ·exact a5 p (List.mem_append_right _ (List.mem_cons_of_mem _ q))
 refine uQ (fun n s'=>∃i σ' H' ys its k,Inv Y ((D,lsO its k)::P0) σ' H' s'/\tn i s'.heap/\(∀b∈fp,H' b=none)/\av ys its/\W i n ys σ' H') ?_ m0 ⟨0,σ,H,ys,its,k,I,st,fun b hb=>(f2 b hb).1,rv,w0⟩
 rintro n s' ⟨i,σ',H',ys,its,k,I',st',fr',rv,w'⟩
 rcases turn i n ys σ' H' w' with ⟨stop,hz,qf⟩ | ⟨go,hz,Nx,hN,step⟩
 ·refine thn (T.done Y rfl rfl rfl hc i _ s' σ' H' _ I' (stat _ _ fr') st' stop) fun r s5 ⟨hr,I5⟩=>?_
  subst hr
  exact hR σ' H' s5 ys its k I5 rv hz qf
 ·refine thn (T.item Y rfl rfl rfl hc i _ s' σ' H' _ I' (stat _ _ fr') st' go) fun r s5 ⟨u,hr,h5⟩=>?_
  subst hr
  refine thn h5 fun _ s6 ⟨x,H6,I6,r6,y6,st6,fr6⟩=>?_
  have I6':=I6.pinned (stat _ _ fr6) (T.obj _ _ st6)
  have g1:=hg _ s6 σ' H6 x u _ I6' r6 (step x H6 y6)
  rw [hxe] at g1
  refine thn g1 fun _ s7 ⟨σ7,H7,I7,q7⟩=>?_
  have g2:=ht _ s7 σ7 H7 _ I7 q7
  rw [hxe] at g2
  refine thn g2 fun ok s8 ⟨H8,I8,q8⟩=>?_
  have back:∀{H9:Hp}{s9:Shared},Inv Y (((D,lsO its k)::P0)++cY fp s6.heap) σ7 H9 s9->tn (i + 1) s9.heap/\∀b∈fp,H9 b=none:=fun {H9 s9} I9=>by
   refine⟨T.keep _ _ _ st6 fun b hb o e=>(I9.pin (b,o) (List.mem_append_right _ (List.mem_append_right _ (cT hb e)))).1,fun b hb=>?_⟩
   obtain⟨o,e,d⟩:=T.obj _ _ st6 b hb
   exact (I9.pin (b,o) (List.mem_append_right _ (List.mem_append_right _ (cT hb e)))).2.1
  cases ok with
  | false =>
   rw [if_neg Bool.false_ne_true] at q8 ⊢
   obtain⟨m',hm,w8⟩:=hN _ _ _ q8
   obtain⟨st8,fr8⟩:=back I8
   exact⟨m',hm,i + 1,σ7,H8,ys,its,k,I8.unpinned,st8,fr8,rv,w8⟩
  | true =>
   rw [if_pos rfl] at q8 ⊢
   have g3:=he _ s8 σ7 H8 _ I8 q8
   rw [hxe] at g3
   refine thn g3 fun y s9 ⟨v,H9,I9,r9,q9⟩=>?_
   have hD9:=I9.pin (D,lsO its k) (List.mem_append_right _ (List.mem_append_left _ List.mem_cons_self))
   obtain⟨st9,fr9⟩:=back I9
   refine wpAny_list_append_plain (hsz:=by have:=rv.length;rw [List.size_toArray];omega) ⟨k,hD9.1⟩ fun h' hl' hs'=>?_
   obtain⟨m',hm,w9⟩:=hN _ _ _ q9
   obtain⟨k',ho'⟩:=hl'
   have IP:Inv Y P0 σ7 H9 s9:=I9.pins_of fun p hp=>I9.pin p (List.mem_append_right _ (List.mem_append_left _ (List.mem_cons_of_mem _ hp)))
   have I10:Inv Y P0 σ7 H9 { s9 with heap:=h' }:=IP.turned (t':=s9.toks) (it:=D) (fun b o hb e=>hs'.extBut b o hb e) hD9.2.1 hDC (.inr hDs) cellD (fun p hp=>by
    rw [pn,List.nil_append] at hp
    exact hP0 p hp)
   refine⟨m',hm,i + 1,σ7,H9,ys++[v],its++[y],k',I10.pins_of fun p hp=>?_,T.keep _ _ _ st9 fun b hb o e=>hs'.extBut b o (nD b hb) e,fr9,rv.append (.cons r9 .nil),w9⟩
   rcases List.mem_cons.mp hp with q | q
   ·rw [q];exact⟨by show h'.get? D=_;rw [ho'];simp,hD9.2.1,hDC,hDf,fun v z=>by cases z⟩
   ·exact I10.pin p (List.mem_append_right _ q)
noncomputable def pW (J:It) (g:TG) (tt:TT) (wi2:TI) (g2:TG) (tt2:TT) (te:TE) (σ':St) (fin:List V->Hp->Prop) (H1:Hp):Prop :=
 ∃W:Nat->Nat->List V->St->Hp->Prop,(∃m,W 0 m [] σ' H1)/\∀i m ys σ H,W i m ys σ H ->
  (J.stop i H/\ys.length<=sizeLine/\fin ys H)\/(J.go i H/\∃Nx:List V->St->Hp->Prop,(∀ys' σ' H',Nx ys' σ' H'->∃m',m' < m/\W (i + 1) m' ys' σ' H') /\
   ∀x H',J.yld i H x H'->g x σ H' fun σ2 H2=>tt σ2 H2 fun b H3=>if b=true then wi2 σ2 H3 (fun J2 H4=>pV J2 g2 tt2 te ys σ2 Nx H4) else Nx ys σ2 H3)
noncomputable def x6 (wi:TI) (g:TG) (tt:TT) (wi2:TI) (g2:TG) (tt2:TT) (te:TE) (ix:List (Option Nat)):TE:=fun σ H Q=>wi σ H fun J H1=>pW J g tt wi2 g2 tt2 te (emb ix σ) (fun ys H'=>∀p,H' p=none->Q (.ref p) (upd H' p (.lst ys))) H1
section
variable {X:Cx}{scope:Scope}{N:List Str}{ix:List (Option Nat)}{tg iter tg2 iter2 elt:Expr}{ifs ifs2:List Expr}{pos:Pos}{g g2:TG}{tt tt2:TT}{te:TE}{wi wi2:TI}
theorem wo (L:bR X scope N ix) (hc:X.calm=true) (hg:∀C s0 H0 fp,PG (aw X scope N C s0 H0 fp) tg g) (ht:∀C s0 H0 fp,PTs (aw X scope N C s0 H0 fp) ifs tt) (hi2:∀C s0 H0 fp,PI (aw X scope N C s0 H0 fp) tg2 iter2 wi2) (hs2:∀C s0 H0 fp x,foldedSetIterable iter2 (aw X scope N C s0 H0 fp).env x=pure x) (hg2:∀C s0 H0 fp,PG (aw X scope N C s0 H0 fp) tg2 g2) (ht2:∀C s0 H0 fp,PTs (aw X scope N C s0 H0 fp) ifs2 tt2) (he:∀C s0 H0 fp,PE (aw X scope N C s0 H0 fp) elt te)
  {pins:List (Addr×Obj)}{σ:St}{H2:Hp}{s2:Shared}{it:Addr}{fp:List Addr}{tn:Nat->Heap->Prop}{J:It}{fin:List V->Hp->Prop}{E:Value->Shared->Prop}{RR:Value->Addr->Result->Shared->Prop}
  (I2:Inv X pins σ H2 s2) (T:Turn X.prog X.w X.K tg J fp it tn) (st:tn 0 s2.heap) (f2:∀b∈fp,bJ X pins H2 b) (hW:pW J g tt wi2 g2 tt2 te (emb ix σ) fin H2)
  (hRR:∀D C s' m ys H',s'.heap.Ns C m->s'.os=s2.os->D≠C->bJ X pins (upd H' D (.lst ys)) C->(∀h',Heap.SameBut C s'.heap h'->Inv X pins σ (upd H' D (.lst ys)) { s' with heap:=h' })->H' D=none->fin ys H'->RR (.ref D) C (.ok .next) s') :
  wpAny (model X.prog X.w) X.A (newList []) (fun acc s3=>wpAny (model X.prog X.w) X.A (newFunctionEnv scope X.env.globals (cg X.env scope.names []) [] X.env.qual none .none (some X.env)) (fun cenv s4 =>
   codeAny (model X.prog X.w) X.A (.compStart (lc2 elt tg iter tg2 iter2 ifs ifs2 scope pos) 0 (.ref it) acc { cenv with scope:=relabel scope X.env }) (RR acc cenv.locals) s4) E s3) E s2:=by
 obtain⟨W,⟨m0,w0⟩,turn⟩:=hW
 have hb2:∀b∈fp,b < s2.heap.objs.size:=fun b hb=>by
  obtain⟨o,e,_⟩:=T.obj _ _ st b hb
  exact Heap.lt_size e
 refine wpAny_newObj_type (wpAny_newFunctionEnv L.nocell (by intro y hy;simp at hy) (fun h1 hns hsb=>?_) L.kind)
 dsimp only at hns hsb ⊢
 generalize hG:s2.heap.push { cls:=.type "list",dict:=none,data:=.seq ([]:List Value).toArray }=G at hns hsb ⊢
 have hGs:G.objs.size=s2.heap.objs.size + 1:=by rw [<- hG,Heap.size_push]
 generalize hDe:s2.heap.objs.size=D at hGs hb2
 generalize hCe:G.objs.size=C at hGs hns hsb ⊢
 have hDC:D≠C:=by omega
 have nq:∀b:Nat,b < s2.heap.objs.size->b≠C/\b≠D:=fun b h=>⟨by omega,by omega⟩
 have nq2:∀b∈fp,b≠C/\b≠D:=fun b hb=>nq b (by rw [hDe];exact hb2 b hb)
 have kG:∀b o,s2.heap.get? b=some o->G.get? b=some o:=fun b o e=>by rw [<- hG];exact Heap.get?_push_of_some _ e
 have kp:∀b o,s2.heap.get? b=some o->h1.get? b=some o:=fun b o e=>hsb.extBut b o (nq b (Heap.lt_size e)).1 (Heap.get?_push_of_some _ (kG b o e))
 have oD:∃n,h1.get? D=some { cls:=.type "list",data:=.seq ([]:List Value).toArray n }:=⟨_,hsb.extBut _ _ hDC (Heap.get?_push_of_some _ (by rw [<- hG,<- hDe];exact Heap.get?_push_size _ rfl))⟩
 have I4:=iC L (tk:=s2.toks + ([]:List (Str×Value)).length) I2 (C:=C) (by omega) f2 (by rw [hDe];exact hb2) kp hns
 have st4:tn 0 h1:=T.keep _ _ _ st fun b _ o e=>kp b o e
 have hDf:D∉(aw X scope N C s2 H2 fp).fs:=fun z=>by
  have z':D∈frs X.stack:=z
  rcases List.mem_cons.mp (I2.stkSub D z') with q | q
  ·exact (nq _ I2.lt).2 q.symm
  ·exact I2.nofs (a:=D) (by omega) q
 have cellD:∀x c,(aw X scope N C s2 H2 fp).env.cells.lookup x=some c->c≠D:=fun x c e z=>by
  obtain⟨v,o,ho,_⟩:=I2.cell x c (dg e)
  exact (nq c (Heap.lt_size ho)).2 z
 have stat:∀{H':Hp}{pl:List (Addr×Obj)},(∀b∈fp,H' b=none)->(∀p∈pl,p.1=D)->∀b∈fp,bJ (aw X scope N C s2 H2 fp) pl H' b:=fun {H' pl} hn hp b hb=>by
  have hlt:=hb2 b hb
  refine⟨hn b hb,(nq2 b hb).1,fun z=>?_,.inl hb,fun x c e=>(f2 b hb).2.2.2.2.1 x c (dg e),fun p hq z=>?_⟩
  ·exact (List.mem_cons.mp (I2.stkSub b z)).elim (f2 b hb).2.1 (f2 b hb).2.2.1
  ·have hq':p∈pl:=by simpa [aw] using hq
   exact (nq2 b hb).2 (z.symm.trans (hp p hq'))
 have pinD:∀{pl:List (Addr×Obj)}{σ':St}{H':Hp}{s':Shared}{o:Obj},Inv (aw X scope N C s2 H2 fp) pl σ' H' s'->s'.heap.get? D=some o->H' D=none->(∀v,o.data≠.cell v)->Inv (aw X scope N C s2 H2 fp) [(D,o)] σ' H' s' :=
  fun {pl σ' H' s' o} I' ho hn hd=>I'.pins_of fun p hp=>by
   have e:p=(D,o):=by simpa using hp
   subst e
   exact⟨ho,hn,hDC,hDf,hd⟩
 have loop:∀s4:Shared,s4={ s2 with heap:=h1,toks:=s2.toks + ([]:List (Str×Value)).length } ->
   codeAny (model X.prog X.w) X.A (.compLoop (lc2 elt tg iter tg2 iter2 ifs ifs2 scope pos) 0 (.ref it) (.ref D) (aw X scope N C s2 H2 fp).env) (RR (.ref D) C) s4:=by
  rintro s4 rfl
  refine ux (hs2 C s2 H2 fp) (fun n s'=>∃i σ' H' ys its k,Inv (aw X scope N C s2 H2 fp) [(D,{ cls:=.type "list",data:=.seq its.toArray k })] σ' H' s'/\tn i s'.heap/\(∀b∈fp,H' b=none)/\av ys its/\W i n ys σ' H') ?_ m0 ?_
  ·rintro n s' ⟨i,σ',H',ys,its,k,I',st',fr',rv,w'⟩
   have hD':=I'.pin _ (List.mem_append_right _ List.mem_cons_self)
   rcases turn i n ys σ' H' w' with ⟨stop,hz,qf⟩ | ⟨go,Nx,hN,step⟩
   ·refine thn (T.done (aw X scope N C s2 H2 fp) rfl rfl rfl hc i _ s' σ' H' _ I' (stat fr' (by simp)) st' stop) fun r s5 ⟨hr,I5⟩=>?_
    subst hr
    have hD5:=I5.pin _ (List.mem_append_right _ List.mem_cons_self)
    obtain⟨m5,hn5,_⟩:=I5.loc
    refine hRR D C s5 m5 ys H' hn5 I5.os hDC (I2.fpOk (by omega) (by rw [aq (Ne.symm hDC)];exact I5.free)) (fun h' hs'=>?_) hD5.2.1 qf
    exact nX I2 f2 I5 (by omega) (by omega) hDC hD5.2.1 hD5.1 rv hz fun b o hb e=>hs'.extBut b o hb e
   ·refine thn (T.item (aw X scope N C s2 H2 fp) rfl rfl rfl hc i _ s' σ' H' _ I' (stat fr' (by simp)) st' go) fun r s5 ⟨u,hr,h5⟩=>?_
    subst hr
    refine thn h5 fun _ s6 ⟨x,H6,I6,r6,y6,st6,fr6⟩=>?_
    have I6':=I6.pinned (stat fr6 (by simp)) (T.obj _ _ st6)
    refine thn (hg C s2 H2 fp _ s6 σ' H6 x u _ I6' r6 (step x H6 y6)) fun _ s7 ⟨σ7,H7,I7,q7⟩=>?_
    refine thn (ht C s2 H2 fp _ s7 σ7 H7 _ I7 q7) fun ok s8 ⟨H8,I8,q8⟩=>?_
    have back:∀{H9:Hp}{s9:Shared},Inv (aw X scope N C s2 H2 fp) ([(D,{ cls:=.type "list",data:=.seq its.toArray k })]++cY fp s6.heap) σ7 H9 s9->tn (i + 1) s9.heap/\∀b∈fp,H9 b=none:=fun {H9 s9} I9=>by
     refine⟨T.keep _ _ _ st6 fun b hb o e=>(I9.pin (b,o) (List.mem_append_right _ (List.mem_append_right _ (cT hb e)))).1,fun b hb=>?_⟩
     obtain⟨o,e,d⟩:=T.obj _ _ st6 b hb
     exact (I9.pin (b,o) (List.mem_append_right _ (List.mem_append_right _ (cT hb e)))).2.1
    cases ok with
    | false =>
     rw [if_neg Bool.false_ne_true] at q8 ⊢
     obtain⟨m',hm,w8⟩:=hN _ _ _ q8
     obtain⟨st8,fr8⟩:=back I8
     exact⟨m',hm,i + 1,σ7,H8,ys,its,k,I8.unpinned,st8,fr8,rv,w8⟩
    | true =>
     rw [if_pos rfl] at q8 ⊢
     have hD8:=I8.pin _ (List.mem_append_right _ (List.mem_append_left _ List.mem_cons_self))
     refine thn (hi2 C s2 H2 fp _ s8 σ7 H8 _ I8 q8) fun x2 s9 h9=>thn h9 fun it2 s10 h10=>?_
     obtain⟨i2,fp2,tn2,J2,H10,rfl,I10,T2,st10,f10,hW2⟩:=h10
     have I10':Inv (aw X scope N C s2 H2 fp) ((D,lsO its k)::cY fp s6.heap) σ7 H10 s10:=I10
     have hP0:∀p∈cY fp s6.heap,p.1≠D:=fun p hp=>(nq2 p.1 (lu hp).1).2
     have inner:∀R:Result->Shared->Prop,(∀σ' H' s' ys' its' k',Inv (aw X scope N C s2 H2 fp) ((D,lsO its' k')::cY fp s6.heap) σ' H' s'->av ys' its'->ys'.length<=sizeLine->Nx ys' σ' H'->R (.ok .next) s') ->
       codeAny (model X.prog X.w) X.A (.compStart (lc2 elt tg iter tg2 iter2 ifs ifs2 scope pos) 1 (.ref i2) (.ref D) (aw X scope N C s2 H2 fp).env) R s10:=fun R hR=>by
      have q:=vb (Y:=aw X scope N C s2 H2 fp) (iter:=iter) (tg:=tg) (ifs:=ifs) (iter2:=iter2) (scope:=scope) (pos:=pos) (R:=R) hc hDC hDf (by show s2.heap.objs.size<=D;omega) cellD rfl rfl (hg2 C s2 H2 fp) (ht2 C s2 H2 fp) (he C s2 H2 fp) hP0 I10' rv T2 st10 f10 hW2 hR
      exact sx q (T2.self _ 0 _ _ _ st10 q)
     refine inner _ fun σ' H' s' ys' its' k' I' rv' hz' qn=>?_
     ·obtain⟨m',hm,w9⟩:=hN _ _ _ qn
      have I'':Inv (aw X scope N C s2 H2 fp) ([(D,lsO its' k')]++cY fp s6.heap) σ' H' s':=I'
      refine⟨m',hm,i + 1,σ',H',ys',its',k',I''.unpinned,?_,?_,rv',w9⟩
      ·exact T.keep _ _ _ st6 fun b hb o e=>(I''.pin (b,o) (List.mem_append_right _ (List.mem_append_right _ (cT hb e)))).1
      ·intro b hb
       obtain⟨o,e,d⟩:=T.obj _ _ st6 b hb
       exact (I''.pin (b,o) (List.mem_append_right _ (List.mem_append_right _ (cT hb e)))).2.1
  ·obtain⟨n,e⟩:=oD
   exact⟨0,emb ix σ,H2,[],[],n,pinD I4 e (I2.hok.fresh (by omega)) (fun v z=>by cases z),st4,fun b hb=>(f2 b hb).1,.nil,w0⟩
 have q:=loop _ rfl
 exact codeAny_compStart_list q (T.self _ 0 _ _ _ st4 q)
theorem xl (L:bR X scope N ix) (hc:X.calm=true) (hi:PI X tg iter wi) (hg:∀C s0 H0 fp,PG (aw X scope N C s0 H0 fp) tg g) (ht:∀C s0 H0 fp,PTs (aw X scope N C s0 H0 fp) ifs tt)
  (hi2:∀C s0 H0 fp,PI (aw X scope N C s0 H0 fp) tg2 iter2 wi2) (hg2:∀C s0 H0 fp,PG (aw X scope N C s0 H0 fp) tg2 g2) (ht2:∀C s0 H0 fp,PTs (aw X scope N C s0 H0 fp) ifs2 tt2) (he:∀C s0 H0 fp,PE (aw X scope N C s0 H0 fp) elt te)
  (hs:∀x,foldedSetIterable iter X.env x=pure x:=by intro _;rfl) (hs2:∀C s0 H0 fp x,foldedSetIterable iter2 (aw X scope N C s0 H0 fp).env x=pure x:=by intros;rfl):PE X (lc2 elt tg iter tg2 iter2 ifs ifs2 scope pos) (x6 wi g tt wi2 g2 tt2 te ix):=by
 intro pins s σ H Q I h
 show wpAny _ _ (eval (.ListComp elt [⟨tg,iter,ifs,0⟩,⟨tg2,iter2,ifs2,0⟩] scope pos) _) _ _ _
 rw [eval_ListComp]
 refine wpAny_comprehension_free (use:=none) rfl hs (L.clos I.ok) L.kind L.locals (thn (hi pins s σ H _ I h) fun v s1 h1=>thn h1 fun itv s2 h2=>?_)
 obtain⟨it,fp,tn,J,H2,rfl,I2,T,st2,f2,hW⟩:=h2
 refine wo (RR:=fun acc C=>compPost (model X.prog X.w) X.A X.xe none (EP X pins σ Q) acc C) L hc hg ht hi2 hs2 hg2 ht2 he I2 T st2 f2 hW ?_
 intro D C s' m ys H' hn ho hDC hC hI hD fin
 exact⟨m,hn,fun h' hs'=>⟨.ref D,_,hI h' hs',rfl,fin D hD⟩⟩
end
section
variable {X:Cx}{pins:List (Addr×Obj)}{σ:St}{H:Hp}{s:Shared}{h':Heap}
theorem Inv.turnedS {t':Nat}{ch:List Addr} (I:Inv X pins σ H s) (k:∀b o,b∉ch->s.heap.get? b=some o->h'.get? b=some o) (hf:∀b∈ch,bJ X pins H b):Inv X pins σ H { s with heap:=h',toks:=t' }:=by
 have nit:∀b u,H b=some u->b∉ch:=fun b u e z=>by rw [(hf b z).1] at e;cases e
 have hL:X.env.locals∉ch:=fun z=>(hf _ z).2.1 rfl
 refine I.step (g':=s.gens) (d':=s.drawn) (ch:=ch) (fun b hb=>⟨(hf b hb).2.2.2.1,(hf b hb).2.1,(hf b hb).2.2.2.2.1,(hf b hb).2.2.2.2.2⟩) (fun b o _ _ hc e _=>k b o hc e) (fun b o _ _ hc e _=>⟨o.slots,k b o hc e⟩) (fun _ _ _ _ n=>n)
  (fun b o hc e=>⟨o,k b o hc e⟩) (fun _ _ e=>e) (fun _ _ _ e=>e) (fun b ps e=>⟨#[],by rw [e];simp⟩) (fun m hm=>?_) (fun b u e=>?_) I.bare
 ·obtain⟨o,es,ep,ho,r⟩:=hm
  exact⟨o,es,ep,k _ o hL ho,r⟩
 ·refine (I.hok b u e).stay (fun c v hc q=>k c v ?_ q) (fun _ q=>q) fun _ _ q=>q
  rcases hc with z | z
  ·rw [z];exact nit b u e
  ·exact nit c _ z
end
noncomputable def Itz (K:PySem.W.Frag) (a b:Addr):It :=
 ⟨fun i H=>∃xs ys x y,SqL K H a xs/\SqL K H b ys/\xs[i]?=some x/\ys[i]?=some y,
  fun i H v H'=>∃T x y,v=.ref T/\H T=none/\H'=upd H T (.tup [x,y])/\(∀xs,SqL K H a xs->xs[i]?=some x)/\∀ys,SqL K H b ys->ys[i]?=some y,
  fun i H=>∃xs ys,SqL K H a xs/\SqL K H b ys/\(xs.length<=i\/ys.length<=i)⟩
noncomputable def xC (z TI TO i1 i2 l1 l2:Addr) (i:Nat) (h:Heap):Prop:=IsZip h z TI TO .none/\IsPair h TI (.ref i1) (.ref i2)/\(∃a b,IsPair h TO a b)/\h.IsListIter i1 l1 i/\h.IsListIter i2 l2 i
theorem vc {P:Program}{w:World}{K:PySem.W.Frag}{elts:List Expr}{x1}{pos:Pos} (z TI TO i1 i2 l1 l2:Addr) (D:ZipApart z TI TO i1 i2 l1 l2) :
  Turn P w K (.Tuple elts x1 pos) (Itz K l1 l2) [z,TI,TO,i1,i2] z (xC z TI TO i1 i2 l1 l2) where
 mem:=by simp
 obj:=fun i h st b hb=>by
  obtain⟨hz,hTI,⟨a,c,hTO⟩,⟨o1,e1,c1,d1⟩,⟨o2,e2,c2,d2⟩⟩:=st
  simp only [List.mem_cons,List.not_mem_nil,or_false] at hb
  rcases hb with rfl | rfl | rfl | rfl | rfl
  ·exact⟨_,hz,fun v q=>by cases q⟩
  ·exact⟨_,hTI,fun v q=>by cases q⟩
  ·exact⟨_,hTO,fun v q=>by cases q⟩
  ·exact⟨_,e1,fun v q=>by rw [d1] at q;cases q⟩
  ·exact⟨_,e2,fun v q=>by rw [d2] at q;cases q⟩
 keep:=fun i h h' st k=>by
  obtain⟨hz,hTI,⟨a,c,hTO⟩,h1,h2⟩:=st
  exact⟨k z (by simp) _ hz,k TI (by simp) _ hTI,⟨a,c,k TO (by simp) _ hTO⟩,h1.at fun o e=>k i1 (by simp) o e,h2.at fun o e=>k i2 (by simp) o e⟩
 item:=by
  intro X hP hw hK hc i pins s σ H E I hf st hg
  subst hP hw hK
  obtain⟨xs,ys,x,y,hq1,hq2,hx,hy⟩:=hg
  obtain⟨hz,hTI,⟨a,c,hTO⟩,h1,h2⟩:=id st
  obtain⟨its1,rv1,p1,hz1⟩:=I.list hq1
  obtain⟨its2,rv2,p2,hz2⟩:=I.list hq2
  obtain⟨u1,hu1,ru1⟩:=rv1.get hx
  obtain⟨u2,hu2,ru2⟩:=rv2.get hy
  refine wpAny_pyNext_zip_item D hz hTI hTO h1 h2 p1.isList p2.isList (x:=u1) (y:=u2) (by simpa using hu1) (by simpa using hu2) fun h' a1 a2 a3 a4 a5 a6 a7=>?_
  refine⟨_,rfl,wpAny_letOwnedTupleGo_zip (s:={ s with heap:=h' }) a1 fun h'' z2 sb=>?_⟩
  have sb':=sb.extBut
  generalize hT:s.heap.objs.size=T at *
  have lt:∀{b:Addr}{o:Obj},s.heap.get? b=some o->b≠T:=fun {b o} e=>by rw [<- hT];exact Nat.ne_of_lt (Heap.lt_size e)
  have fresh:H T=none:=by rw [<- hT];exact I.hok.fresh (Nat.le_refl _)
  have hne:∀b∈[z,TI,TO,i1,i2],b≠T:=fun b hb=>by
   obtain⟨o1,e1,_⟩:=h1
   obtain⟨o2,e2,_⟩:=h2
   simp only [List.mem_cons,List.not_mem_nil,or_false] at hb
   rcases hb with rfl | rfl | rfl | rfl | rfl
   ·exact lt hz
   ·exact lt hTI
   ·exact lt hTO
   ·exact lt e1
   ·exact lt e2
  have I0:Inv X pins σ (upd H T (.tup [x,y])) { s with heap:=s.heap.push { cls:=.type "tuple",data:=.seq #[u1,u2] },toks:=s.toks }:=by
   subst hT
   exact I.laid (t':=s.toks) (fun b o q=>Heap.get?_push_of_some _ q) (Nat.le_refl _) ⟨by show 2<=sizeLine;decide,[u1,u2],.cons ru1 (.cons ru2 .nil),_,Heap.get?_push_size _ rfl,rfl,0,rfl⟩
  have up:∀b o,b∉[z,TI,TO,i1,i2]->(s.heap.push { cls:=.type "tuple",data:=.seq #[u1,u2] }).get? b=some o->h''.get? b=some o:=fun b o hb e=>by
   simp only [List.mem_cons,List.not_mem_nil,or_false,not_or] at hb
   rcases Heap.get?_push_cases e with ⟨e1,e2⟩ | e1
   ·subst e2
    rw [e1,hT]
    exact sb' _ _ (hne z (by simp)).symm a5
   ·exact sb' _ _ hb.1 (a7 b o hb.1 hb.2.2.1 hb.2.2.2.1 hb.2.2.2.2 e1)
  have I2:Inv X pins σ (upd H T (.tup [x,y])) { s with heap:=h'',toks:=s.toks }:=Inv.turnedS (s:={ s with heap:=s.heap.push { cls:=.type "tuple",data:=.seq #[u1,u2] },toks:=s.toks }) (t':=s.toks) (ch:=[z,TI,TO,i1,i2]) I0 up fun b hb=>by
   obtain⟨f0,f1⟩:=hf b hb
   exact⟨by rw [aq (hne b hb)];exact f0,f1⟩
  exact⟨.ref T,upd H T (.tup [x,y]),I2,rfl,⟨T,x,y,rfl,fresh,rfl,fun ws hw=>by rw [I.list_inj hw hq1];exact hx,fun ws hw=>by rw [I.list_inj hw hq2];exact hy⟩,
   ⟨z2,sb' _ _ D.TIz (a7 _ _ D.TIz D.TITO D.TIi1 D.TIi2 hTI),⟨_,_,sb' _ _ D.TOz a2⟩,a3.at fun o e=>sb' _ _ D.i1z e,a4.at fun o e=>sb' _ _ D.i2z e⟩,fun b hb=>by rw [aq (hne b hb)];exact (hf b hb).1⟩
 done:=by
  intro X hP hw hK hc i pins s σ H E I hf st hg
  subst hP hw hK
  obtain⟨xs,ys,hq1,hq2,hx⟩:=hg
  obtain⟨hz,hTI,⟨a,c,hTO⟩,h1,h2⟩:=id st
  obtain⟨its1,rv1,p1,hz1⟩:=I.list hq1
  obtain⟨its2,rv2,p2,hz2⟩:=I.list hq2
  have hl1:=rv1.length
  have hl2:=rv2.length
  refine wpAny_pyNext_zip_end (I.ok.hd hc) D hz hTI hTO h1 h2 p1.isList p2.isList ?_ fun h' hk=>⟨rfl,I.turnedS (t':=s.toks) (ch:=[z,TI,TO,i1,i2]) (fun b o hb e=>?_) hf⟩
  ·rcases hx with q | q
   ·exact .inl (by simp;omega)
   ·exact .inr (by simp;omega)
  ·simp only [List.mem_cons,List.not_mem_nil,or_false,not_or] at hb
   exact hk b o hb.1 hb.2.2.1 hb.2.2.2.1 hb.2.2.2.2 e
 self:=fun _ _ _ _ _ st h=>wpAny_pyIter_zip st.1 h
theorem boot_zip:bootBuiltins "zip"=some (.type "zip"):=by decide +kernel
section
variable {X:Cx}
noncomputable def yn (K:PySem.W.Frag) (ta:TA):TI:=fun σ H R=>ta σ H fun vs H1=>∃a b xs ys,vs=[.ref a,.ref b]/\SqL K H1 a xs/\SqL K H1 b ys/\R (Itz K a b) H1
theorem oq {a b:Expr}{elts:List Expr}{x1}{tpos:Pos}{ta:TA}{p pos:Pos} (hg:Gl X "zip") (hm:X.mg "zip"=none) (ha:PA X [a,b] ta) (hs:starEach [a,b] X.env=[(false,eval a X.env),(false,eval b X.env)]:=by rfl) (hs2:starEach [b] X.env=[(false,eval b X.env)]:=by rfl) :
  PI X (.Tuple elts x1 tpos) (.Call (.Name "zip" p) [a,b] [] pos) (yn X.K ta):=by
 intro pins s σ H R I h
 refine Call_ (fi I hg hm boot_zip (PyProof.Rows.callWith_type1 (thn (ha pos pins s σ H _ I h) fun us s1 ⟨vs,H1,I1,r1,q1⟩=>?_) (by rw [hs,hs2]) (by rw [hs2];rfl)))
 obtain⟨a',b',xs,ys,rfl,hq1,hq2,q⟩:=q1
 obtain⟨u1,u2,rfl,ra,rb⟩:=vals2 r1
 cases ra
 cases rb
 obtain⟨its1,rv1,p1,hz1⟩:=I1.list hq1
 obtain⟨its2,rv2,p2,hz2⟩:=I1.list hq2
 have l1:a' < s1.heap.objs.size:=by obtain⟨o,n,e,_⟩:=p1;exact Heap.lt_size e
 have l2:b' < s1.heap.objs.size:=by obtain⟨o,n,e,_⟩:=p2;exact Heap.lt_size e
 refine call_zip_2 p1.isList p2.isList fun h' hz hTI hTO hi1 hi2 hsz hk=>?_
 refine wpAny_pyIter_zip hz ?_
 refine⟨_,[s1.heap.objs.size + 4,s1.heap.objs.size + 2,s1.heap.objs.size + 3,s1.heap.objs.size,s1.heap.objs.size + 1],_,_,H1,rfl,I1.kept (t':=s1.toks) hk,vc _ _ _ _ _ _ _ (zipApart_new l1 l2),⟨hz,hTI,⟨_,_,hTO⟩,hi1,hi2⟩,fun b hb=>?_,q⟩
 have hle:s1.heap.objs.size<=b:=by
  simp only [List.mem_cons,List.not_mem_nil,or_false] at hb
  rcases hb with rfl | rfl | rfl | rfl | rfl
  ·exact Nat.le_add_right _ _
  ·exact Nat.le_add_right _ _
  ·exact Nat.le_add_right _ _
  ·exact Nat.le_refl _
  ·exact Nat.le_add_right _ _
 exact I1.fpOk hle (I1.hok.fresh hle)
end
theorem vf (l:List Value):((List.range l.length).filterMap fun (k:Nat)=>l.toArray[(((l.length:Int) - 1) + (k:Int) * -1).toNat]?)=l.reverse:=by
 have e:(fun (k:Nat)=>l.toArray[(((l.length:Int) - 1) + (k:Int) * -1).toNat]?)=(fun i=>l.toArray[i]?) ∘ (fun k=>l.length - 1 - k):=by
  funext k
  have:(((l.length:Int) - 1) + (k:Int) * -1).toNat=l.length - 1 - k:=by omega
  rw [this]
  rfl
 have q:=PySem.W.krv_all l.toArray
 rw [List.size_toArray] at q
 rw [e,<- List.filterMap_map,PySem.W.krv_range,List.filterMap_reverse,q]
section
variable {prog:Program}{w:World}{A:Around}{E:Value->Shared->Prop}{s:Shared}
theorem qF {sl:Addr}{vk:Value}{n:Nat}{Q:Int×Int×Nat->Shared->Prop} (hs:s.heap.IsSliceOf sl .none .none vk) (pk:IsPart vk (some (-1))) (h:Q ((n:Int) - 1,-1,n) s) :
  wpAny (model prog w) A (Builtin.Slice.sliceApplied (.ref sl) (pure (n:Int))) Q E s:=by
 obtain⟨os,hos,hcs,hds⟩:=id hs
 unfold Builtin.Slice.sliceApplied Builtin.Slice.sliceFields
 refine wpAny_bind (wpAny_bind (wpAny_field hos hds (x:=.none) rfl (wpAny_bind (wpAny_field hos hds (x:=.none) rfl (wpAny_bind (wpAny_field hos hds (x:=vk) rfl (wpAny_pure ?_)))))))
 refine wpAny_bind (HT.k8 pk ?_)
 show wpAny _ _ (if ((-1:Int) == 0)=true then _ else _) _ _ s
 rw [if_neg (by decide)]
 refine wpAny_bind (slicePart_none (wpAny_bind (slicePart_none (wpAny_bind (wpAny_pure ?_)))))
 have e1:Builtin.Slice.sliceAdjust none none (-1) (n:Int)=((n:Int) - 1,-1):=by
  unfold Builtin.Slice.sliceAdjust
  simp
 have e2:Builtin.Slice.slicePlaces ((n:Int) - 1) (-1) (-1)=n:=by
  unfold Builtin.Slice.slicePlaces
  rw [if_neg (by decide)]
  split
  ·simp only [Int.neg_neg,Int.ediv_one];omega
  ·omega
 show wpAny _ _ (match Builtin.Slice.sliceAdjust none none (-1) (n:Int) with | (lo,hi)=>pure (lo,(-1:Int),Builtin.Slice.slicePlaces lo hi (-1))) _ _ s
 rw [e1]
 show wpAny _ _ (pure ((n:Int) - 1,(-1:Int),Builtin.Slice.slicePlaces ((n:Int) - 1) (-1) (-1))) _ _ s
 rw [e2]
 exact wpAny_pure h
theorem we {t sl:Addr}{its:List Value}{vk:Value}{Q:Value->Shared->Prop} (ht:IsTup s.heap t its.toArray) (hs:s.heap.IsSliceOf sl .none .none vk) (pk:IsPart vk (some (-1))) (hz:its.length<=sizeLine)
  (h:Q (.ref s.heap.objs.size) { s with heap:=s.heap.push { cls:=.type "tuple",data:=.seq its.reverse.toArray } }):wpAny (model prog w) A (getItem (.ref t) (.ref sl)) Q E s:=by
 obtain⟨os,hos,hcs,hds⟩:=id hs
 have hTs:s.TypeIs (.ref sl) "slice":=⟨os,hos,hcs⟩
 have hzz:sizeOk (.seq its.reverse.toArray):=by
  show its.reverse.toArray.size<=sizeLine
  rw [List.size_toArray,List.length_reverse];exact hz
 unfold getItem
 try with_reducible refine wpAny_holding ?_
 first | refine wpAny_bind (wpAny_pure ?_) | skip
 refine wpAny_bind (wpAny_sequenceKey ht.typeIs (by decide) (wpAny_bind (wpAny_callSpecial?_slot (name:=Str.ofString "__getitem__") ht.typeIs PyProof.Rows.slot_tuple_getitem
  (wpAny_call_entry PyProof.Rows.slot_tuple_getitem ht.typeIs entry_tuple_getitem ?_ (args_tuple_getitem _ _)))))
 show wpAny _ _ (Builtin.Tuple.tupleItemsOf (.ref t) >>= _) _ _ s
 refine wpAny_bind (tupleItemsOf_ ht (wpAny_bind (wpAny_typeOf hTs ?_)))
 rw [if_pos (by decide)]
 have hsz:its.toArray.size=its.length:=by simp
 rw [hsz]
 refine wpAny_bind (qF hs pk ?_)
 show wpAny _ _ (if ((((its.length:Nat):Int) - 1 == 0) && ((-1:Int) == 1) && (its.length == its.length))=true then _ else _) _ _ s
 rw [if_neg (by simp),vf]
 first
  | exact wpAny_bind (m:=Builtin.Tuple.tupleExact _) (wpAny_newObj_type (wpAny_pure ⟨_,rfl,wpAny_pure h⟩) hzz)
  | exact wpAny_bind (m:=Builtin.Tuple.tupleExact _) (wpAny_newObj_type (wpAny_bind (wpAny_pure (wpAny_pure ⟨_,rfl,wpAny_pure h⟩))) hzz)
  | exact wpAny_bind (wpAny_bind (m:=Builtin.Tuple.tupleExact _) (wpAny_newObj_type (wpAny_pure (wpAny_pure ⟨_,rfl,wpAny_pure h⟩)) hzz))
  | exact wpAny_bind (wpAny_bind (m:=Builtin.Tuple.tupleExact _) (wpAny_newObj_type (wpAny_pure ⟨_,rfl,wpAny_pure h⟩) hzz))
end
section
variable {X:Cx}
noncomputable def oP (K:PySem.W.Frag) (te:TE) (tk:TO):TE:=fun σ H Q=>te σ H fun x H1=>tk σ H1 fun o H2=>o=some (-1)/\∃a xs,x=.ref a/\SqT K H2 a xs/\∀p,H2 p=none->Q (.ref p) (upd H2 p (.tup xs.reverse))
theorem vG {e st:Expr}{te:TE}{tk:TO}{p2 pos:Pos} (ops:Value->Value->List Value) (he:PE X e te) (hk:PO X (some st) tk) (hs:∀o i,subscripted (.Slice none none (some st) p2) false o i=operate (ops o i) (getItem o i)):PE X (.Subscript e (.Slice none none (some st) p2) pos) (oP X.K te tk):=by
 intro pins s σ H Q I h
 refine Subscript_ (thn (he pins s σ H _ I h) fun v s1 ⟨x,H1,I1,r1,q1⟩=>?_)
 refine wpAny_Slice ?_
 rw [evalPart_none]
 refine wpAny_pure (wpAny_pure (thn (hk pins s1 σ H1 _ I1 q1) fun vk s2 ⟨o,H2,I2,pk,q2⟩=>?_))
 obtain⟨rfl,a,xs,rfl,hx,q⟩:=q2
 cases r1
 have I4:Inv X pins σ H2 { s2 with heap:=s2.heap.push { cls:=.type "slice",data:=.fields #[.none,.none,vk] } }:=I2.kept (t':=s2.toks) fun b ob q=>Heap.get?_push_of_some _ q
 obtain⟨its,r,ht,hz⟩:=I4.tuple hx
 have hlen:=r.length
 show wpAny (model X.prog X.w) X.A (subscriptTail e (.Slice none none (some st) p2) (.ref a) (.ref s2.heap.objs.size)) (EP X pins σ Q) X.xe { s2 with heap:=s2.heap.push { cls:=.type "slice",data:=.fields #[.none,.none,vk] } }
 refine tail_any (ops:=ops _ _) ht.typeIs slot_tuple_getitem.lookup ?_ (hs _ _)
 refine we ht (Heap.IsSliceOf.new ..) pk (by omega) ?_
 refine⟨.ref _,_,I4.laid (t':=s2.toks) (o:=.tup xs.reverse) (fun b ob q=>Heap.get?_push_of_some _ q) (Nat.le_refl _) ⟨by rw [List.length_reverse];exact hz,its.reverse,r.reverse,_,Heap.get?_push_size _ rfl,rfl,0,rfl⟩,rfl,q _ (I4.hok.fresh (Nat.le_refl _))⟩
theorem vH {K:PySem.W.Frag}{g:TG}{tt:TT}{te:TE}{σ':St}{fin:List V->Hp->Prop}{H1:Hp}{a b:Addr}{xs ys:List V} (hn:min xs.length ys.length < sizeLine) (Pv:Nat->List V->St->Hp->Prop) (h0:Pv 0 [] σ' H1)
  (hl:∀i zs σ H,i<=min xs.length ys.length->Pv i zs σ H->zs.length<=i/\SqL K H a xs/\SqL K H b ys)
  (hs:∀i x y zs σ H T,xs[i]?=some x->ys[i]?=some y->Pv i zs σ H->H T=none->g (.ref T) σ (upd H T (.tup [x,y])) fun σ2 H2=>tt σ2 H2 fun b H3=>if b=true then te σ2 H3 (fun v H4=>Pv (i + 1) (zs++[v]) σ2 H4) else Pv (i + 1) zs σ2 H3)
  (hd:∀zs σ H,Pv (min xs.length ys.length) zs σ H->fin zs H):LcW (Itz K a b) g tt te σ' fin H1:=by
 refine⟨fun i m zs σ H=>m=min xs.length ys.length - i/\i<=min xs.length ys.length/\Pv i zs σ H,⟨min xs.length ys.length,by simp,Nat.zero_le _,h0⟩,?_⟩
 rintro i m zs σ H ⟨rfl,hi,p⟩
 obtain⟨q0,q1,q2⟩:=hl i zs σ H hi p
 by_cases hlt:i < min xs.length ys.length
 ·have h1:i < xs.length:=by omega
  have h2:i < ys.length:=by omega
  refine .inr ⟨⟨xs,ys,xs[i],ys[i],q1,q2,by simp [h1],by simp [h2]⟩,by omega,fun zs' σ2 H2=>Pv (i + 1) zs' σ2 H2,fun zs' σ2 H2 q=>⟨min xs.length ys.length - (i + 1),by omega,rfl,hlt,q⟩,fun v H' y=>?_⟩
  obtain⟨T,x,y,rfl,hT,rfl,e1,e2⟩:=y
  exact hs i x y zs σ H T (e1 xs q1) (e2 ys q2) p hT
 ·have e:i=min xs.length ys.length:=by omega
  subst e
  refine .inl ⟨⟨xs,ys,q1,q2,?_⟩,by omega,hd zs σ H p⟩
  rcases Nat.le_total xs.length ys.length with z | z
  ·exact .inl (by omega)
  ·exact .inr (by omega)
end
section
variable {κ:Type} [DecidableEq κ]
noncomputable def bc (kvs:List (κ×V)) (k:κ):Option V:=(kvs.find? fun kv=>decide (kv.1=k)).map (·.2)
noncomputable def putK (kvs:List (κ×V)) (k:κ) (v:V):List (κ×V) :=
 if (kvs.any fun kv=>decide (kv.1=k))=true then kvs.map (fun kv=>if kv.1=k then (kv.1,v) else kv) else kvs++[(k,v)]
noncomputable def yJ (kvs:List (κ×V)) (k:κ):List (κ×V):=kvs.filter fun kv=>decide (kv.1≠k)
theorem cV {p:κ×V}{r:List (κ×V)}{k:κ} (e:p.1=k):bc (p::r) k=some p.2:=by simp [bc,List.find?_cons,e]
theorem cE {p:κ×V}{r:List (κ×V)}{k:κ} (e:¬ p.1=k):bc (p::r) k=bc r k:=by simp [bc,List.find?_cons,e]
theorem e8 (k:κ):∀kvs:List (κ×V),(kvs.any fun kv=>decide (kv.1=k))=(bc kvs k).isSome
 | []=>rfl
 | p::r=>by
  rw [List.any_cons]
  by_cases e:p.1=k
  ·simp only [cV e,decide_eq_true e,Bool.true_or,Option.isSome_some]
  ·rw [cE e,decide_eq_false e,Bool.false_or];exact e8 k r
theorem mU (k j:κ) (y:V):∀kvs:List (κ×V),bc (kvs.map fun kv=>if kv.1=k then (kv.1,y) else kv) j=(bc kvs j).map fun x=>if j=k then y else x
 | []=>rfl
 | p::r=>by
  have ih:=mU k j y r
  rw [List.map_cons]
  by_cases h:p.1=k
  ·rw [if_pos h]
   by_cases e:p.1=j
   ·rw [cV (p:=(p.1,y)) e,cV e,Option.map_some,if_pos (e.symm.trans h)]
   ·rw [cE (p:=(p.1,y)) e,cE e,ih]
  ·rw [if_neg h]
   by_cases e:p.1=j
   ·rw [cV (p:=p) e,cV e,Option.map_some,if_neg (fun z=>h (e.trans z))]
   ·rw [cE (p:=p) e,cE e,ih]
theorem lg (k j:κ) (y:V):∀kvs:List (κ×V),bc kvs k=none->bc (kvs++[(k,y)]) j=if j=k then some y else bc kvs j
 | [],_=>by
  by_cases e:k=j
  ·rw [if_pos e.symm];exact cV (p:=(k,y)) e
  ·rw [if_neg (fun z=>e z.symm)];exact cE (p:=(k,y)) e
 | p::r,hn=>by
  rw [List.cons_append]
  have hk:¬ p.1=k:=fun z=>by rw [cV z] at hn;cases hn
  rw [cE hk] at hn
  have ih:=lg k j y r hn
  by_cases e:p.1=j
  ·rw [cV e,cV e,if_neg (fun z=>hk (e.trans z))]
  ·rw [cE e,cE e,ih]
theorem mj (kvs:List (κ×V)) (k j:κ) (y:V):bc (putK kvs k y) j=if j=k then some y else bc kvs j:=by
 unfold putK
 by_cases a:(kvs.any fun kv=>decide (kv.1=k))=true
 ·rw [if_pos a,mU]
  rw [e8] at a
  by_cases e:j=k
  ·obtain⟨x,hx⟩:=Option.isSome_iff_exists.mp a
   rw [if_pos e,e,hx,Option.map_some,if_pos rfl]
  ·rw [if_neg e]
   cases bc kvs j with
   | none=>rfl
   | some x=>rw [Option.map_some,if_neg e]
 ·rw [if_neg a]
  refine lg k j y kvs ?_
  rw [e8] at a
  cases q:bc kvs k with
  | none=>rfl
  | some x=>rw [q] at a;exact (a rfl).elim
theorem f7 (kvs:List (κ×V)) (k:κ) (v:V):(putK kvs k v).length<=kvs.length + 1:=by
 unfold putK
 split
 ·rw [List.length_map];omega
 ·rw [List.length_append,List.length_cons,List.length_nil];omega
theorem js {kvs:List (κ×V)}{k:κ} (v:V) (h:bc kvs k=none):putK kvs k v=kvs++[(k,v)]:=by
 unfold putK
 rw [e8,h]
 exact if_neg (by decide)
theorem dI.isSome_eq {o:Option V}{u:Option Value} (r:dI o u):o.isSome=u.isSome:=by
 cases o with
 | none=>cases u with
  | none=>rfl
  | some _=>exact (show False from r).elim
 | some _=>cases u with
  | none=>exact (show False from r).elim
  | some _=>rfl
theorem KV.val {kvs:List (κ×V)}{vs:List (κ×Value)} (r:KV kvs vs) (k:κ):dI (bc kvs k) (valueAt vs k):=by
 unfold KV at r
 induction r with
 | nil=>exact True.intro
 | @cons p q ps qs h t ih =>
  obtain⟨h1,h2⟩:=h
  by_cases e:p.1=k
  ·have e':q.1=k:=h1.symm.trans e
   have b:valueAt (q::qs) k=some q.2:=by simp [valueAt,List.find?_cons,e']
   rw [cV e,b];exact h2
  ·have e':¬ q.1=k:=fun z=>e (h1.trans z)
   have b:valueAt (q::qs) k=valueAt qs k:=by simp [valueAt,List.find?_cons,e']
   rw [cE e,b];exact ih
theorem KV.any {kvs:List (κ×V)}{vs:List (κ×Value)} (r:KV kvs vs) (k:κ):(kvs.any fun kv=>decide (kv.1=k))=vs.any fun kv=>decide (kv.1=k):=by
 unfold KV at r
 induction r with
 | nil=>rfl
 | cons h t ih=>rw [List.any_cons,List.any_cons,ih,h.1]
theorem KV.repl {kvs:List (κ×V)}{vs:List (κ×Value)} (r:KV kvs vs) (k:κ) {y:V}{u:Value} (ry:RelV y u) :
  KV (kvs.map fun kv=>if kv.1=k then (kv.1,y) else kv) (vs.map fun kv=>if kv.1=k then (kv.1,u) else kv):=by
 unfold KV at r ⊢
 induction r with
 | nil=>exact .nil
 | @cons p q ps qs h t ih =>
  rw [List.map_cons,List.map_cons]
  refine .cons ?_ ih
  obtain⟨h1,h2⟩:=h
  by_cases e:p.1=k
  ·rw [if_pos e,if_pos (h1.symm.trans e)];exact⟨h1,ry⟩
  ·rw [if_neg e,if_neg (fun z=>e (h1.trans z))];exact⟨h1,h2⟩
theorem KV.put {kvs:List (κ×V)}{vs:List (κ×Value)} (r:KV kvs vs) (k:κ) {y:V}{u:Value} (ry:RelV y u):KV (putK kvs k y) (stored vs k u):=by
 unfold putK stored
 rw [r.any k]
 by_cases e:(vs.any fun kv=>decide (kv.1=k))=true
 ·rw [if_pos e,if_pos e];exact r.repl k ry
 ·rw [if_neg e,if_neg e];exact Paired.snoc r ⟨rfl,ry⟩
theorem KV.length {kvs:List (κ×V)}{vs:List (κ×Value)} (r:KV kvs vs):kvs.length=vs.length:=Paired.length r
end
theorem iA {P:Program}{w:World}{k:Key}{u:Value} (r:RelV (kV k) u):(cN P w).is k u=true:=by
 cases k with
 | inl i=>obtain⟨t,e⟩:=(show ∃t,u=Value.int i t from r);subst e;exact qI P w i t
 | inr x=>obtain⟨t,e⟩:=(show ∃t,u=Value.str x t from r);subst e;exact qL P w x t
theorem lB {P:Program}{w:World}:∀{ks:List Key}{us:List Value},av (ks.map kV) us->ItemsAre (cN P w) ks us
 | [],_,r=>by rw [List.map_nil] at r;cases r;exact .nil
 | k::ks,_,r=>by
  rw [List.map_cons] at r
  cases r with
  | cons h t=>exact .cons (iA h) (lB t)
noncomputable abbrev KT (H:Hp):List (List Key×V)->List (List Key×Addr×Value)->Prop:=Paired fun p q=>p.1=q.1/\H q.2.1=some (.tup (p.1.map kV))/\RelV p.2 q.2.2
theorem KT.val {H:Hp}{kvs:List (List Key×V)}{xs:List (List Key×Addr×Value)} (r:KT H kvs xs) (k:List Key):dI (bc kvs k) ((atKey xs k).map (·.2)):=by
 induction r with
 | nil=>exact True.intro
 | @cons p q ps qs h t ih =>
  obtain⟨h1,_,h2⟩:=h
  by_cases e:p.1=k
  ·have e':q.1=k:=h1.symm.trans e
   have b:atKey (q::qs) k=some q.2:=by simp [atKey,List.find?_cons,e']
   rw [cV e,b];exact h2
  ·have e':¬ q.1=k:=fun z=>e (h1.trans z)
   have b:atKey (q::qs) k=atKey qs k:=by simp [atKey,List.find?_cons,e']
   rw [cE e,b];exact ih
theorem KT.repl {H:Hp}{kvs:List (List Key×V)}{xs:List (List Key×Addr×Value)} (r:KT H kvs xs) (k:List Key) {y:V}{u:Value} (ry:RelV y u) :
  KT H (kvs.map fun kv=>if kv.1=k then (kv.1,y) else kv) (xs.map (putAt k u)):=by
 induction r with
 | nil=>exact .nil
 | @cons p q ps qs h t ih =>
  rw [List.map_cons,List.map_cons]
  refine .cons ?_ ih
  obtain⟨h1,h2,h3⟩:=h
  unfold putAt
  by_cases e:p.1=k
  ·rw [if_pos e,if_pos (h1.symm.trans e)];exact⟨h1,h2,ry⟩
  ·rw [if_neg e,if_neg (fun z=>e (h1.trans z))];exact⟨h1,h2,h3⟩
theorem KT.put {H:Hp}{kvs:List (List Key×V)}{xs:List (List Key×Addr×Value)} (r:KT H kvs xs) (k:List Key) {b:Addr}{y:V}{u:Value} (hb:H b=some (.tup (k.map kV))) (ry:RelV y u) :
  KT H (putK kvs k y) (storedH xs k b u):=by
 have e:(kvs.any fun kv=>decide (kv.1=k))=(atKey xs k).isSome:=by
  rw [e8,(r.val k).isSome_eq,Option.isSome_map]
 unfold putK storedH
 rw [e]
 by_cases q:(atKey xs k).isSome=true
 ·rw [if_pos q,if_pos q];exact r.repl k ry
 ·rw [if_neg q,if_neg q];exact Paired.snoc r ⟨rfl,hb,ry⟩
theorem KT.keeps {H H':Hp}{kvs:List (List Key×V)}{xs:List (List Key×Addr×Value)} (r:KT H kvs xs) (ht:∀b ys,H b=some (.tup ys)->H' b=some (.tup ys)):KT H' kvs xs :=
 Paired.mapP r fun _ _ z=>⟨z.1,ht _ _ z.2.1,z.2.2⟩
section
variable {P:Program}{w:World}{H:Hp}{h:Heap}{a:Addr}
theorem pd {u:HO} (ok:HOk P w H h) (e:Rd H a u):aJ P w H h a u:=e.ok ok
theorem jY {kvs:List (Key×V)} (ok:HOk P w H h) (e:Rd H a (.dK kvs)):kvs.length<=sizeLine/\(a == sysModules)=false/\∃vs,KV kvs vs/\h.DictOf (cN P w) a vs :=
 show aJ P w H h a (.dK kvs) from pd ok e
theorem oO {kvs:List (Key×V)} (ok:HOk P w H h) (e:H a=some (.dK kvs)):kvs.length<=sizeLine/\(a == sysModules)=false/\∃vs,KV kvs vs/\h.DictOf (cN P w) a vs:=jY ok (.inl e)
theorem iz {ks:List Key} (ok:HOk P w H h) (e:H a=some (.tup (ks.map kV))):(tupleKind (cN P w)).is h ks a:=by
 obtain⟨_,its,r,o,h1,h2,n,h3⟩:=(show aJ P w H h a (.tup (ks.map kV)) from ok a _ e)
 exact⟨o,its.toArray,n,h1,h2,h3,by simpa using lB r⟩
theorem j1 {kvs:List (List Key×V)} (ok:HOk P w H h) (e:Rd H a (.dT kvs)):kvs.length<=sizeLine/\(a == sysModules)=false /\
  ∃xs,KT H kvs xs/\h.DictOfH (tupleKind (cN P w)) a xs:=by
 obtain⟨z,y,xs,r,o,es,ep,h1,h2,h3,h4,h5⟩:=(show aJ P w H h a (.dT kvs) from pd ok e)
 refine⟨z,y,xs,r,o,es,ep,h1,h2,h3,h4,fun x hx=>?_,h5⟩
 have all:∀{l:List (List Key×V)}{m:List (List Key×Addr×Value)},KT H l m->∀x∈m,(tupleKind (cN P w)).is h x.1 x.2.1:=by
  intro l m q
  induction q with
  | nil=>intro x hx;exact nomatch hx
  | @cons p q ps qs hq t ih =>
   intro x hx
   rcases List.mem_cons.mp hx with e | hx
   ·subst e
    exact iz ok (by rw [<- hq.1];exact hq.2.1)
   ·exact ih x hx
 exact all r x hx
theorem oV {kvs:List (List Key×V)} (ok:HOk P w H h) (e:H a=some (.dT kvs)):kvs.length<=sizeLine/\(a == sysModules)=false /\
  ∃xs,KT H kvs xs/\h.DictOfH (tupleKind (cN P w)) a xs:=j1 ok (.inl e)
end
noncomputable def bZ (H:Hp) (a:Addr) (y:V) (r:Option V):Prop :=
 (∃kvs k,Rd H a (.dK kvs)/\y=kV k/\r=bc kvs k)\/∃kvs k b,Rd H a (.dT kvs)/\y=.ref b/\H b=some (.tup (k.map kV))/\r=bc kvs k
noncomputable def eB (H:Hp) (a:Addr) (y v:V) (H':Hp):Prop :=
 (∃kvs k,H a=some (.dK kvs)/\y=kV k/\kvs.length < sizeLine/\H'=upd H a (.dK (putK kvs k v))) \/
 ∃kvs k b,H a=some (.dT kvs)/\y=.ref b/\H b=some (.tup (k.map kV))/\kvs.length < sizeLine/\H'=upd H a (.dT (putK kvs k v))
theorem bZ.k {H:Hp}{a:Addr}{kvs:List (Key×V)}{k:Key} (e:H a=some (.dK kvs)):bZ H a (kV k) (bc kvs k):=.inl ⟨kvs,k,.inl e,rfl,rfl⟩
theorem bZ.t {H:Hp}{a b:Addr}{kvs:List (List Key×V)}{k:List Key} (e:H a=some (.dT kvs)) (eb:H b=some (.tup (k.map kV))):bZ H a (.ref b) (bc kvs k):=.inr ⟨kvs,k,b,.inl e,rfl,eb,rfl⟩
theorem eB.k {H:Hp}{a:Addr}{kvs:List (Key×V)}{k:Key}{v:V} (e:H a=some (.dK kvs)) (hl:kvs.length < sizeLine):eB H a (kV k) v (upd H a (.dK (putK kvs k v))):=.inl ⟨kvs,k,e,rfl,hl,rfl⟩
theorem eB.t {H:Hp}{a b:Addr}{kvs:List (List Key×V)}{k:List Key}{v:V} (e:H a=some (.dT kvs)) (eb:H b=some (.tup (k.map kV))) (hl:kvs.length < sizeLine) :
  eB H a (.ref b) v (upd H a (.dT (putK kvs k v))):=.inr ⟨kvs,k,b,e,rfl,eb,hl,rfl⟩
section
variable {X:Cx}{pins:List (Addr×Obj)}{σ:St}{H:Hp}{s:Shared}{a:Addr}{y v:V}{u r:Value}{o:Option V}{A:Around}{E:Value->Shared->Prop}
theorem Inv.big (I:Inv X pins σ H s):sysModules < s.heap.objs.size:=by
 have h:mainGlobals < s.heap.objs.size:=(I.mod.glob.keeps I.bk).lt
 exact Nat.lt_trans (by decide) h
theorem ll {Q:Value->Shared->Prop} (hu:A.units + 1 < cLine) (I:Inv X pins σ H s) (g:bZ H a y (some v)) (ry:RelV y u) (h:∀w' s',Inv X pins σ H s'->RelV v w'->Q w' s') :
  wpAny (model X.prog X.w) A (getItem (.ref a) u) Q E s:=by
 rcases g with ⟨kvs,k,e,ey,l⟩ | ⟨kvs,k,b,e,ey,eb,l⟩
 ·subst ey
  obtain⟨z,hd,vs,rel,dd⟩:=jY I.hok e
  obtain⟨w',hw,rw'⟩:=dI.some_of (v:=v) (o:=valueAt vs k) (by rw [l];exact rel.val k)
  exact wpAny_getItem_of (iA ry) dd.mapOf hw (h w' _ (I.tok _) rw')
 ·subst ey
  cases (show u=Value.ref b from ry)
  obtain⟨z,hd,xs,rel,dd⟩:=j1 I.hok e
  obtain⟨w',hw,rw'⟩:=dI.some_of (v:=v) (o:=(atKey xs k).map (·.2)) (by rw [l];exact rel.val k)
  obtain⟨p,hp,hp2⟩:=Option.map_eq_some_iff.mp hw
  refine wpAny_getItem_heap (tupleKind_room_in1 hu) (iz I.hok eb) dd hp ?_
  rw [hp2]
  exact h w' _ (I.tok _) rw'
theorem ic {h':Heap}{t':Nat}{ob:HO} (I:Inv X pins σ H s) (mu:Mut (H a)) (hs:Heap.SameBut a s.heap h') (he:∃q,h'.get? a=some q) (new:aJ X.prog X.w (upd H a ob) h' a ob) :
  Inv X pins σ (upd H a ob) { s with heap:=h',toks:=t' } :=
 I.write (x:=a) (e:=a) mu (.inl rfl) (fun b q hb z=>(hs.2 b hb).trans z) he new
theorem oG {P:Program}{w:World}{H':Hp}{h':Heap}{kvs:List (Key×V)}{vs:List (Key×Value)} (z:kvs.length<=sizeLine) (hd:(a == sysModules)=false) (rel:KV kvs vs) (dd:h'.DictOf (cN P w) a vs) :
  aJ P w H' h' a (.dK kvs):=⟨z,hd,vs,rel,dd⟩
theorem lw {H':Hp}{Q:Unit->Shared->Prop} (hu:A.units + 1 < cLine) (I:Inv X pins σ H s) (g:eB H a y v H') (ry:RelV y u) (rv:RelV v r) (h:∀s',Inv X pins σ H' s'->Q () s') :
  wpAny (model X.prog X.w) A (setItem (.ref a) u r) Q E s:=by
 rcases g with ⟨kvs,k,e,ey,l,eH⟩ | ⟨kvs,k,b,e,ey,eb,l,eH⟩
 ·subst ey eH
  obtain⟨z,hd,vs,rel,dd⟩:=oO I.hok e
  have hz:vs.length<=sizeLine:=by rw [<- rel.length];exact z
  have hl:(putK kvs k v).length<=sizeLine:=by have:=f7 kvs k v;omega
  refine wpAny_setItem_pairs (hsz:=hz) (iA ry) dd fun h' dd' hs=>h _ ?_
  have he:∃q,h'.get? a=some q:=let ⟨q,_,_,hq,_⟩:=dd';⟨q,hq⟩
  exact ic I (by rw [e];exact True.intro) hs he (oG hl hd (rel.put k rv) dd')
 ·subst ey eH
  cases (show u=Value.ref b from ry)
  obtain⟨z,hd,xs,rel,dd⟩:=oV I.hok e
  have hz:xs.length<=sizeLine:=by rw [<- Paired.length rel];exact z
  have hl:(putK kvs k v).length<=sizeLine:=by have:=f7 kvs k v;omega
  refine wpAny_setItem_heap (hsz:=hz) (tupleKind_room_in1 hu) (iz I.hok eb) dd fun h' dd' hs=>h _ ?_
  obtain⟨q,es,ep,hq,h2,h3,h4,_,h5⟩:=dd'
  refine ic I (by rw [e];exact True.intro) hs ⟨q,hq⟩ ⟨hl,hd,_,(rel.put k eb rv).keeps fun c ys ec=>?_,q,es,ep,hq,h2,h3,h4,h5⟩
  rw [aq (j3 ec e (fun z=>nomatch z))]
  exact ec
end
section
variable {X:Cx}{pins:List (Addr×Obj)}{σ:St}{H:Hp}{s:Shared}{a:Addr}{kvs:List (Key×V)}{k:Key}{u:Value}{A:Around}{E:Value->Shared->Prop}
end
noncomputable def pL (i:Expr):Prop:=∀ov iv,subscripted i false ov iv=operate [ov,iv] (getItem ov iv)
theorem wm {prog:Program}{w:World}{A:Around}{E:Value->Shared->Prop}{s:Shared}{env:Env}{value slice:Expr}{pos:Pos}{T id:String}{Q:Value->Shared->Prop}
  (hl:typeLookup (.type T) "__getitem__"=pure (some (.builtin id))) (hs:pL slice)
  (h:wpAny (model prog w) A (eval value env) (fun o s₁=>wpAny (model prog w) A (eval slice env) (fun i s₂=>s₂.TypeIs o T/\wpAny (model prog w) A (getItem o i) Q E s₂) E s₁) E s) :
  wpAny (model prog w) A (eval (.Subscript value slice pos) env) Q E s:=by
 refine Subscript_ (wpAny_mono h (fun o s₁ h₁=>wpAny_mono h₁ (fun i s₂ h₂=>?_) fun _ _ x=>x) fun _ _ x=>x)
 obtain⟨hT,h₂⟩:=h₂
 unfold subscriptTail
 refine wpAny_bind ?_
 rw [getitemInPython_of_ne hT.not_modules]
 refine wpAny_bind (wpAny_specialOf hT hl ?_)
 have fin:wpAny (model prog w) A (subscripted slice false o i) (fun r s₃=>wpAny (model prog w) A (letTemporaryGo value o r >>= fun _=>pure r) Q E s₃) E s₂:=by
  rw [hs o i]
  exact wpAny_operating (wpAny_mono h₂ (fun r s₃ h₃=>wpAny_bind (wpAny_letTemporaryGo (wpAny_pure h₃))) fun _ _ x=>x)
 first
  | exact wpAny_pure (wpAny_bind fin)
  | exact wpAny_bind (wpAny_pure (wpAny_bind fin))
  | exact wpAny_bind fin
theorem qV {X:Cx}{pins:List (Addr×Obj)}{σ:St}{H:Hp}{s:Shared}{a:Addr}{y:V}{o:Option V} (I:Inv X pins σ H s) (g:bZ H a y o):s.TypeIs (.ref a) "dict":=by
 rcases g with ⟨kvs,k,e,_,_⟩ | ⟨kvs,k,b,e,_,_,_⟩
 ·obtain⟨_,_,vs,_,dd⟩:=jY I.hok e
  exact dd.typeIs
 ·obtain⟨_,_,xs,_,dd⟩:=j1 I.hok e
  exact dd.typeIs
noncomputable def xJ (td ty:TE):TE:=fun σ H Q=>td σ H fun x H1=>ty σ H1 fun y H2=>∃a v,x=.ref a/\bZ H2 a y (some v)/\Q v H2
noncomputable def xx (td ty tv:TE):TS:=fun D σ H=>tv σ H fun v H1=>td σ H1 fun x H2=>ty σ H2 fun y H3=>∃a H4,x=.ref a/\eB H3 a y v H4/\D.nx σ H4
noncomputable def xN (td ty tv:TE) (rd:V->V->Hp->VK->Prop):TS:=fun D σ H=>td σ H fun x H1=>ty σ H1 fun y H2=>∃a v,x=.ref a/\bZ H2 a y (some v) /\
 tv σ H2 fun y2 H3=>rd v y2 H3 fun z H4=>∃H5,eB H4 a y z H5/\D.nx σ H5
section
variable {X:Cx}{o i e value:Expr}{pos pos' tpos:Pos}{td ty tv:TE}
theorem eG (hu:X.A.units + 1 < cLine) (ho:PE X o td) (hi:PE X i ty) (hs:pL i):PE X (.Subscript o i pos) (xJ td ty):=by
 intro pins s σ H Q I h
 refine wm PySem.F.slot_dict_getitem.lookup hs (thn (ho pins s σ H _ I h) fun u s1 ⟨x,H1,I1,rx,q1⟩=>thn (hi pins s1 σ H1 _ I1 q1) fun iv s2 ⟨y,H2,I2,ry,a,v,ex,g,q2⟩=>?_)
 subst ex
 obtain rfl:u=Value.ref a:=rx
 exact⟨qV I2 g,ll hu I2 g ry fun w' s3 I3 rw'=>⟨v,H2,I3,rw',q2⟩⟩
theorem vS (hu:X.A.units + 1 < cLine) (ho:PE X o td) (hi:PE X i ty) (hv:PE X value tv) (hs:swapsWith value (some (.Subscript o i pos')) pos.line X.env=pure false) :
  PS X (.Assign [.Subscript o i pos'] value pos) (xx td ty tv):=by
 intro pins s σ H D I h
 refine wpAny_Assign_Subscript (thn (hv pins s σ H _ I h) fun r s1 ⟨v,H1,I1,rv,q1⟩=>thn (ho pins s1 σ H1 _ I1 q1) fun u s2 ⟨x,H2,I2,rx,q2⟩=>thn (hi pins s2 σ H2 _ I2 q2) fun iv s3 ⟨y,H3,I3,ry,a,H4,ex,g,q3⟩=>?_) hs
 subst ex
 obtain rfl:u=Value.ref a:=rx
 exact lw hu I3 g ry rv fun s4 I4=>⟨σ,H4,I4,q3⟩
theorem vK {op:Operator}{rd:V->V->Hp->VK->Prop} (hu:X.A.units + 1 < cLine) (ho:PE X o td) (hi:PE X i ty) (hv:PE X value tv) (hop:pC X op rd)
  (ha:∀ov iv new,augStore i ov iv new=(do holding [new,ov,iv] (setItem ov iv new);release [new,ov,iv] [];pure .next)):PS X (.AugAssign (.Subscript o i tpos) op value pos) (xN td ty tv rd):=by
 intro pins s σ H D I h
 refine wpAny_AugAssign_SubscriptAny (thn (ho pins s σ H _ I h) fun u s1 ⟨x,H1,I1,rx,q1⟩=>thn (hi pins s1 σ H1 _ I1 q1) fun iv s2 ⟨y,H2,I2,ry,a,v,ex,g,q2⟩=>?_) ha
 subst ex
 obtain rfl:u=Value.ref a:=rx
 refine ll hu I2 g ry fun w' s3 I3 rw'=>thn (hv pins s3 σ H2 _ I3 q2) fun w2 s4 ⟨y2,H3,I4,ry2,q3⟩=>thn (hop pins s4 σ H3 v y2 w' w2 _ I4 rw' ry2 q3) fun w3 s5 ⟨z,H4,I5,rz,H5,g5,q4⟩=>?_
 exact lw hu I5 g5 ry rz fun s6 I6=>⟨σ,H5,I6,q4⟩
end
theorem mq {P:Program}{w:World}{H:Hp} (h:Heap) (hb:sysModules < h.objs.size):aJ P w H (h.push { cls:=.type "dict",data:=.dict #[] }) h.objs.size (.dK []) :=
 ⟨Nat.zero_le _,beq_eq_false_iff_ne.mpr (Ne.symm (Nat.ne_of_lt hb)),[],.nil,Heap.DictOf.new h⟩
theorem um {P:Program}{w:World}{H:Hp} (h:Heap) (hb:sysModules < h.objs.size):aJ P w H (h.push { cls:=.type "dict",data:=.dict #[] }) h.objs.size (.dT []) :=
 ⟨Nat.zero_le _,beq_eq_false_iff_ne.mpr (Ne.symm (Nat.ne_of_lt hb)),[],.nil,_,#[],0,Heap.get?_push_size _ rfl,⟨rfl,rfl,rfl⟩,rfl,rfl,List.nodup_nil⟩
noncomputable def iw:TE:=fun _ H Q=>∀p,H p=none->Q (.ref p) (upd H p (.dK []))
section
variable {X:Cx}{pos:Pos}
theorem fb:PE X (.Dict [] [] pos) iw:=fun pins s σ H Q I h =>
 wpAny_Dict_empty ⟨.ref s.heap.objs.size,_,I.laid (a:=s.heap.objs.size) (o:=.dK []) (t':=s.toks) (fun _ _ q=>Heap.get?_push_of_some _ q) (Nat.le_refl _) (mq s.heap I.big),rfl,h _ (I.hok.fresh (Nat.le_refl _))⟩
end
section
variable {prog:Program}{w:World}{A:Around}{R:Result->Shared->Prop}{s:Shared}
theorem mZ {kx vx tg iter:Expr}{ifs:List Expr}{scope:Scope}{pos:Pos}{it:Value}{D:Addr}{env:Env} (J:Nat->Shared->Prop)
  (turn:∀n s,J n s->wpAny (model prog w) A (pyNext it) (fun r s1=>match r with
   | none=>R (.ok .next) s1
   | some v=>wpAny (model prog w) A (letOwnedTupleGo tg it v) (fun _ s2=>wpAny (model prog w) A (assign tg env v) (fun _ s3 =>
     wpAny (model prog w) A (forIn ifs true fun c r=>if r=true then do let ok <- isTrue c env (eval c env);pure (ForInStep.yield ok) else pure (ForInStep.yield r)) (fun ok s4 =>
      if ok=true then wpAny (model prog w) A (eval kx env) (fun y s5=>wpAny (model prog w) A (eval vx env) (fun x s6=>wpAny (model prog w) A (dictSet D y x) (fun _ s7=>∃m,m < n/\J m s7) (fun _ _=>False) s6) (fun _ _=>False) s5) (fun _ _=>False) s4
      else ∃m,m < n/\J m s4) (fun _ _=>False) s3) (fun _ _=>False) s2) (fun _ _=>False) s1) (fun _ _=>False) s)
  (n:Nat) (h:J n s):codeAny (model prog w) A (.compLoop (.DictComp kx vx [⟨tg,iter,ifs,0⟩] scope pos) 0 it (.ref D) env) R s:=by
 refine codeAny_loop rfl J (fun k t hJ=>?_) n h
 show wpAny _ A ((compTurn (.DictComp kx vx [⟨tg,iter,ifs,0⟩] scope pos) 0 it (.ref D) env).onRaise (fun x=>do noteFrame x env;theTreesLotGoes x)) _ _ t
 refine wpAny_noted (wpAny_mono (E:=fun _ _=>False) ?_ (fun _ _ q=>q) fun _ _ f=>f.elim)
 rw [compTurn_dict]
 refine wpAny_bind (wpAny_standAt (wpAny_bind (thn (turn k t hJ) fun r s1 h1=>?_)))
 cases r with
 | none=>exact wpAny_pure h1
 | some v =>
  refine wpAny_bind (thn h1 fun _ s2 h2=>wpAny_bind (thn h2 fun _ s3 h3=>wpAny_bind (thn h3 fun ok s4 h4=>?_)))
  cases ok with
  | false=>exact wpAny_pure ⟨rfl,h4⟩
  | true=>exact wpAny_bind (wpAny_bind (thn h4 fun y s5 h5=>wpAny_bind (wpAny_holding (thn h5 fun x s6 h6=>wpAny_bind (wpAny_standAt (wpAny_holding (thn h6 fun _ s7 h7=>wpAny_pure ⟨rfl,h7⟩)))))))
end
noncomputable def j6 (H:Hp) (a:Addr) (y v:V) (H':Hp):Prop:=∃kvs k b,H a=some (.dT kvs)/\y=.ref b/\H b=some (.tup (k.map kV))/\kvs.length < sizeLine/\H'=upd H a (.dT (putK kvs k v))
theorem sg {X:Cx}{pins:List (Addr×Obj)}{σ:St}{H H':Hp}{s:Shared}{a:Addr}{y v:V}{u r:Value}{A:Around}{E:Value->Shared->Prop}{Q:Unit->Shared->Prop} (hu:A.units < cLine) (I:Inv X pins σ H s) (g:j6 H a y v H') (ry:RelV y u) (rv:RelV v r) (h:∀s',Inv X pins σ H' s'->Q () s') :
  wpAny (model X.prog X.w) A (dictSet a u r) Q E s:=by
 obtain⟨kvs,k,b,e,ey,eb,l,eH⟩:=g
 subst ey eH
 cases (show u=Value.ref b from ry)
 obtain⟨z,hd,xs,rel,dd⟩:=oV I.hok e
 have hz:xs.length<=sizeLine:=by rw [<- Paired.length rel];exact z
 have hl:(putK kvs k v).length<=sizeLine:=by have:=f7 kvs k v;omega
 refine wpAny_dictSet_heap (hsz:=hz) (show (tupleKind (cN X.prog X.w)).room A from hu) (iz I.hok eb) dd (fun h' dd' hs=>h _ ?_)
 obtain⟨q,es,ep,hq,h2,h3,h4,_,h5⟩:=dd'
 refine ic I (by rw [e];exact True.intro) hs ⟨q,hq⟩ ⟨hl,hd,_,(rel.put k eb rv).keeps fun c ys ec=>?_,q,es,ep,hq,h2,h3,h4,h5⟩
 rw [aq (j3 ec e (fun z=>nomatch z))]
 exact ec
noncomputable def DcW (D:Addr) (J:It) (g:TG) (tt:TT) (tk tv:TE) (σ':St) (fin:Hp->Prop) (H1:Hp):Prop :=
 ∃W:Nat->Nat->St->Hp->Prop,(∃m,W 0 m σ' H1)/\∀i m σ H,W i m σ H ->
  (J.stop i H/\fin H)\/(J.go i H/\∃Nx:St->Hp->Prop,(∀σ' H',Nx σ' H'->∃m',m' < m/\W (i + 1) m' σ' H') /\
   ∀x H',J.yld i H x H'->g x σ H' fun σ2 H2=>tt σ2 H2 fun b H3=>if b=true then tk σ2 H3 (fun y H4=>tv σ2 H4 fun v H5=>∃H6,j6 H5 D y v H6/\Nx σ2 H6) else Nx σ2 H3)
noncomputable def wH (i:Nat) (wi:TI) (g:TG) (tt:TT) (tk tv:TE) (ix:List (Option Nat)):TS:=fun E σ H=>wi σ H fun J H1=>∀D,H1 D=none->DcW D J g tt tk tv (emb ix σ) (fun H'=>E.nx (σ.set i (some (.ref D))) H') (upd H1 D (.dT []))
theorem nU {b D C:Nat} (h:b < D) (e:C=D + 1) (z:b=C):False:=by omega
section
variable {X:Cx}{scope:Scope}{N:List Str}{ix:List (Option Nat)}
theorem oJ {pins pins':List (Addr×Obj)}{σ σ':St}{H2 H':Hp}{s2 s':Shared}{C:Addr}{fp:List Addr}{h':Heap} (I2:Inv X pins σ H2 s2) (hf:∀b∈fp,bJ X pins H2 b)
  (I':Inv (aw X scope N C s2 H2 fp) pins' σ' H' s') (hC:s2.heap.objs.size<=C) (hs:∀b o,b≠C->s'.heap.get? b=some o->h'.get? b=some o):Inv X pins σ H' { s' with heap:=h' }:=by
 have B:Un (frs X.stack) fp H2 H' s2.heap s'.heap:=I'.base
 have neC:∀b o,s2.heap.get? b=some o->b≠C:=fun b o e=>Nat.ne_of_lt (Nat.lt_of_lt_of_le (Heap.lt_size e) hC)
 have hCn:H' C=none:=I'.free
 have tC:∀b u,H' b=some u->b≠C:=fun b u e=>bu e hCn
 refine I2.call' (s':={ s' with heap:=h' }) (ch:=fp) I'.os ⟨fun b o e n hb hx=>?_,fun b o e n hb hx=>?_,fun b o e n hx=>?_,fun b o e hx=>?_,fun b xs e=>?_,fun b o u e=>?_,fun b ps e=>?_⟩ (fun b u e=>?_) I'.bare fun b hb=>⟨(hf b hb).2.2.2.1,(hf b hb).2.1,(hf b hb).2.2.2.2.1,(hf b hb).2.2.2.2.2⟩
 ·exact hs b o (neC b o e) (B.keep b o e n hb hx)
 ·obtain⟨sl,q⟩:=B.slot b o e n hb hx
  exact⟨sl,hs b _ (neC b o e) q⟩
 ·exact B.free b o e n hx
 ·obtain⟨o',q⟩:=B.there b o e hx
  exact⟨o',hs b o' (neC b o e) q⟩
 ·exact B.tups b xs e
 ·exact B.frzs b o u e
 ·exact B.tbls b ps e
 ·refine (I'.hok b u e).stay (fun c v hc q=>hs c v ?_ q) (fun c q=>q) fun c xs q=>q
  rcases hc with z | z
  ·rw [z];exact tC b u e
  ·exact tC c _ z
variable {tg iter kx vx:Expr}{ifs:List Expr}{pos:Pos}{g:TG}{tt:TT}{tk tv:TE}
theorem og (L:bR X scope N ix) (hc:X.calm=true) (hu:X.A.units < cLine) (hg:∀C s0 H0 fp,PG (aw X scope N C s0 H0 fp) tg g) (ht:∀C s0 H0 fp,PTs (aw X scope N C s0 H0 fp) ifs tt) (hk:∀C s0 H0 fp,PE (aw X scope N C s0 H0 fp) kx tk) (hv:∀C s0 H0 fp,PE (aw X scope N C s0 H0 fp) vx tv)
  {pins:List (Addr×Obj)}{σ:St}{H1:Hp}{s1:Shared}{it:Addr}{fp:List Addr}{tn:Nat->Heap->Prop}{J:It}{fin:Addr->Hp->Prop}{E:Value->Shared->Prop}{RR:Value->Addr->Result->Shared->Prop}
  (I1:Inv X pins σ H1 s1) (T:Turn X.prog X.w X.K tg J fp it tn) (st:tn 0 s1.heap) (f1:∀b∈fp,bJ X pins H1 b) (hW:∀D,H1 D=none->DcW D J g tt tk tv (emb ix σ) (fin D) (upd H1 D (.dT [])))
  (hRR:∀D C s' m H',s'.heap.Ns C m->s'.os=s1.os->bJ X pins H' C->(∀h',Heap.SameBut C s'.heap h'->Inv X pins σ H' { s' with heap:=h' })->fin D H'->RR (.ref D) C (.ok .next) s') :
  wpAny (model X.prog X.w) X.A newDict (fun acc s3=>wpAny (model X.prog X.w) X.A (newFunctionEnv scope X.env.globals (cg X.env scope.names []) [] X.env.qual none .none (some X.env)) (fun cenv s4 =>
   codeAny (model X.prog X.w) X.A (.compStart (.DictComp kx vx [⟨tg,iter,ifs,0⟩] scope pos) 0 (.ref it) acc { cenv with scope:=relabel scope X.env }) (RR acc cenv.locals) s4) E s3) E s1:=by
 have hb1:∀b∈fp,b < s1.heap.objs.size:=fun b hb=>by
  obtain⟨o,e,_⟩:=T.obj _ _ st b hb
  exact Heap.lt_size e
 have hDn:H1 s1.heap.objs.size=none:=I1.hok.fresh (Nat.le_refl _)
 obtain⟨W,⟨m0,w0⟩,turn⟩:=hW s1.heap.objs.size hDn
 refine wpAny_newObj_type (wpAny_newFunctionEnv L.nocell (by intro y hy;simp at hy) (fun h1 hns hsb=>?_) L.kind)
 dsimp only at hns hsb ⊢
 have I2:Inv X pins σ (upd H1 s1.heap.objs.size (.dT [])) { s1 with heap:=s1.heap.push { cls:=.type "dict",data:=.dict #[] },toks:=s1.toks } :=
  I1.laid (t':=s1.toks) (a:=s1.heap.objs.size) (o:=.dT []) (fun _ _ q=>Heap.get?_push_of_some _ q) (Nat.le_refl _) (um s1.heap I1.big)
 have f2:∀b∈fp,bJ X pins (upd H1 s1.heap.objs.size (.dT [])) b:=fun b hb=>by
  obtain⟨q0,q1⟩:=f1 b hb
  exact⟨by rw [aq (Nat.ne_of_lt (hb1 b hb))];exact q0,q1⟩
 have st2:tn 0 (s1.heap.push { cls:=.type "dict",data:=.dict #[] }):=T.keep _ _ _ st fun b _ o e=>Heap.get?_push_of_some _ e
 generalize hD:s1.heap.objs.size=D at *
 generalize hH2:upd H1 D (.dT [])=H2 at *
 generalize hG:s1.heap.push { cls:=.type "dict",data:=.dict #[] }=G at *
 have hGs:G.objs.size=D + 1:=by rw [<- hG,Heap.size_push,hD]
 generalize hCe:G.objs.size=C at *
 have kp:∀b o,G.get? b=some o->h1.get? b=some o:=fun b o e=>hsb.extBut b o (fun z=>by have:=Heap.lt_size e;rw [hCe] at this;exact absurd (z ▸ this) (Nat.lt_irrefl _)) (Heap.get?_push_of_some _ e)
 have I4:=iC L (tk:=s1.toks + ([]:List (Str×Value)).length) I2 (C:=C) (by show G.objs.size<=C;rw [hCe];exact Nat.le_refl _) f2 (fun b hb=>by show b < G.objs.size;rw [hCe,hGs];exact Nat.lt_succ_of_lt (hb1 b hb)) kp hns
 have st4:tn 0 h1:=T.keep _ _ _ st2 fun b _ o e=>kp b o e
 generalize hs2:({ s1 with heap:=G,toks:=s1.toks }:Shared)=s2 at I2 I4
 have hs2h:s2.heap=G:=by rw [<- hs2]
 have hs2o:s2.os=s1.os:=by rw [<- hs2]
 have stat:∀{H':Hp},(∀b∈fp,H' b=none)->∀b∈fp,bJ (aw X scope N C s2 H2 fp) [] H' b:=fun {H'} hn b hb=>by
  have hlt:=hb1 b hb
  refine⟨hn b hb,fun z=>?_,fun z=>?_,.inl hb,fun x c e=>(f2 b hb).2.2.2.2.1 x c (dg e),fun p hq z=>?_⟩
  ·exact nU hlt hGs z
  ·exact (List.mem_cons.mp (I2.stkSub b z)).elim (f2 b hb).2.1 (f2 b hb).2.2.1
  ·have hq':p∈([]:List (Addr×Obj)):=by simpa [aw] using hq
   cases hq'
 have loop:∀s4:Shared,Inv (aw X scope N C s2 H2 fp) [] (emb ix σ) H2 s4->tn 0 s4.heap->codeAny (model X.prog X.w) X.A (.compLoop (.DictComp kx vx [⟨tg,iter,ifs,0⟩] scope pos) 0 (.ref it) (.ref D) (aw X scope N C s2 H2 fp).env) (RR (.ref D) C) s4:=by
  intro s4 I4' st4'
  refine mZ (fun n s'=>∃i σ' H',Inv (aw X scope N C s2 H2 fp) [] σ' H' s'/\tn i s'.heap/\(∀b∈fp,H' b=none)/\W i n σ' H') ?_ m0 ⟨0,emb ix σ,H2,I4',st4',fun b hb=>(f2 b hb).1,w0⟩
  rintro n s' ⟨i,σ',H',I',st',fr',w'⟩
  rcases turn i n σ' H' w' with ⟨stop,qf⟩ | ⟨go,Nx,hN,step⟩
  ·refine thn (T.done (aw X scope N C s2 H2 fp) rfl rfl rfl hc i _ s' σ' H' _ I' (stat fr') st' stop) fun r s5 ⟨hr,I5⟩=>?_
   subst hr
   obtain⟨m5,hn5,_⟩:=I5.loc
   refine hRR D C s5 m5 H' hn5 (I5.os.trans hs2o) (I2.fpOk (by rw [hs2h,hCe];exact Nat.le_refl _) I5.free) (fun h' hs'=>?_) qf
   exact oJ I2 f2 I5 (by rw [hs2h,hCe];exact Nat.le_refl _) fun b o hb e=>hs'.extBut b o hb e
  ·refine thn (T.item (aw X scope N C s2 H2 fp) rfl rfl rfl hc i _ s' σ' H' _ I' (stat fr') st' go) fun r s5 ⟨u,hr,h5⟩=>?_
   subst hr
   refine thn h5 fun _ s6 ⟨x,H6,I6,r6,y6,st6,fr6⟩=>?_
   have I6':=I6.pinned (stat fr6) (T.obj _ _ st6)
   refine thn (hg C s2 H2 fp _ s6 σ' H6 x u _ I6' r6 (step x H6 y6)) fun _ s7 ⟨σ7,H7,I7,q7⟩=>?_
   refine thn (ht C s2 H2 fp _ s7 σ7 H7 _ I7 q7) fun ok s8 ⟨H8,I8,q8⟩=>?_
   have back:∀{H9:Hp}{s9:Shared},Inv (aw X scope N C s2 H2 fp) ([]++cY fp s6.heap) σ7 H9 s9->tn (i + 1) s9.heap/\∀b∈fp,H9 b=none:=fun {H9 s9} I9=>by
    refine⟨T.keep _ _ _ st6 fun b hb o e=>(I9.pin (b,o) (List.mem_append_right _ (List.mem_append_right _ (cT hb e)))).1,fun b hb=>?_⟩
    obtain⟨o,e,d⟩:=T.obj _ _ st6 b hb
    exact (I9.pin (b,o) (List.mem_append_right _ (List.mem_append_right _ (cT hb e)))).2.1
   cases ok with
   | false =>
    rw [if_neg Bool.false_ne_true] at q8 ⊢
    obtain⟨m',hm,w8⟩:=hN _ _ q8
    obtain⟨st8,fr8⟩:=back I8
    exact⟨m',hm,i + 1,σ7,H8,I8.unpinned,st8,fr8,w8⟩
   | true =>
    rw [if_pos rfl] at q8 ⊢
    refine thn (hk C s2 H2 fp _ s8 σ7 H8 _ I8 q8) fun yv s9 ⟨y,H9,I9,r9,q9⟩=>?_
    refine thn (hv C s2 H2 fp _ s9 σ7 H9 _ I9 q9) fun xv s10 ⟨v,H10,I10,r10,H11,g11,q11⟩=>?_
    refine sg (X:=aw X scope N C s2 H2 fp) hu I10 g11 r9 r10 fun s11 I11=>?_
    obtain⟨m',hm,w11⟩:=hN _ _ q11
    obtain⟨st11,fr11⟩:=back I11
    exact⟨m',hm,i + 1,σ7,H11,I11.unpinned,st11,fr11,w11⟩
 have q:=loop _ I4 st4
 subst hs2
 exact codeAny_compStart_dict q (T.self _ 0 _ _ _ st4 q)
theorem uz {i:Nat}{y:Str}{py spos:Pos}{wi:TI} (hu:X.A.units < cLine) (hN:X.N.Nodup) (hi':X.N[i]?=some y) (hx:Loc X.env.scope y) (L:bR X scope N ix) (hc:X.calm=true) (hi:PI X tg iter wi) (hg:∀C s0 H0 fp,PG (aw X scope N C s0 H0 fp) tg g)
  (ht:∀C s0 H0 fp,PTs (aw X scope N C s0 H0 fp) ifs tt) (hk:∀C s0 H0 fp,PE (aw X scope N C s0 H0 fp) kx tk) (hv:∀C s0 H0 fp,PE (aw X scope N C s0 H0 fp) vx tv)
  (hsw:swapsWith (.DictComp kx vx [⟨tg,iter,ifs,0⟩] scope pos) (some (.Name y py)) spos.line X.env=pure true:=by rfl) (hs:∀x,foldedSetIterable iter X.env x=pure x:=by intro _;rfl)
  (hf:X.fn y=true\/X.env.scope.names.lookup y=some .local:=by first | exact .inl rfl | exact .inr rfl | assumption) :
  PS X (.Assign [.Name y py] (.DictComp kx vx [⟨tg,iter,ifs,0⟩] scope pos) spos) (wH i wi g tt tk tv ix):=by
 intro pins s σ H D I h
 rw [exec_Assign_Name_used _ _ _ _ hsw]
 refine wpAny_bind (wpAny_standAt (wpAny_bind ?_))
 show wpAny _ X.A (do let _ <- comprehension (.DictComp kx vx [⟨tg,iter,ifs,0⟩] scope pos) scope X.env _ newDict false (eval iter X.env) (some (assign (.Name y py) X.env))) _ _ s
 refine wpAny_bind (thn (wpAny_comprehension_free (use:=some (assign (.Name y py) X.env)) (Q:=fun _ s'=>SP X pins D .next s') rfl hs (L.clos I.ok) L.kind L.locals
  (thn (hi pins s σ H _ I h) fun v s1 h1=>thn h1 fun itv s2 h2=>?_)) fun _ s' hq=>wpAny_pure (wpAny_pure hq))
 obtain⟨it,fp,tn,J,H2,rfl,I2,T,st2,f2,hW⟩:=h2
 refine og (RR:=fun acc C=>compPost (model X.prog X.w) X.A X.xe (some (assign (.Name y py) X.env)) (fun _ s'=>SP X pins D .next s') acc C) L hc hu hg ht hk hv I2 T st2 f2 hW ?_
 intro Da C s' m H' hn ho hC hI fin
 have I':=hI s'.heap (Heap.SameBut.refl _ _)
 show wpAny _ X.A (assign (.Name y py) X.env (.ref Da)) _ _ s'
 refine wpAny_assign_Name (jc (v:=.ref Da) I' hN hi' hx rfl (fun s'' I'' ch=>?_) hf)
 obtain⟨a,hsa,hwa⟩:=ch
 obtain⟨c1,c2,c3,c4,c5,c6⟩:=hC
 have hCa:C≠a:=by
  rcases hwa with z | z
  ·rw [z];exact c2
  ·exact fun w=>c5 y a z w.symm
 refine⟨m,hn.sameBut hsa hCa,fun h' hs'=>⟨_,_,I''.turned (t':=s''.toks) (it:=C) (fun b o hb e=>hs'.extBut b o hb e) c1 c2 c4 c5 c6,fin⟩⟩
end
inductive jU (A:Around) (s:Shared):List (Value×Value)->List (Bool×Bool)->Prop
 | nil:jU A s [] []
 | cons {v u:Value}{e b:Bool}{r:List (Value×Value)}{cs:List (Bool×Bool)}:SeqAt.EqAt A s v u e ->
   (e=false->∀(prog:Program) (w:World) (E:Value->Shared->Prop) (Q:Value->Shared->Prop),Q (.bool b) s->wpAny (model prog w) A (richCompare .Lt v u) Q E s)->jU A s r cs->jU A s ((v,u)::r) ((e,b)::cs)
section
open PySem.SeqAt
open PySem.AutoSeq1 (wpAny_loadPart')
open PySem.MeetsSeq PySem.MeetsSeq2 PySem.MeetsSeq3
end
section
variable {prog:Program}{w:World}{A:Around}{E:Value->Shared->Prop}{s:Shared}
end
section
variable {prog:Program}{w:World}{A:Around}{R:Result->Shared->Prop}{I:Addr}{fp wr:List Addr}{n:Nat}{P:Nat->Value->Prop}{St:Nat->Heap->Prop}
end
section
variable {prog:Program}{w:World}{A:Around}{E:Value->Shared->Prop}{s:Shared}
end
theorem jg {val:Nat->Int}:∀(ns:List Int) (k:Nat),k<=ns.length->(∀i n,ns[i]?=some n->val i=n)->preSum val k=(ns.take k).sum
 | ns,0,_,_=>by simp [preSum]
 | ns,k + 1,h,hv=>by
  have hk:ns[k]?=some ns[k]:=List.getElem?_eq_getElem (by omega)
  rw [preSum,jg ns k (by omega) hv,hv k _ hk,List.take_succ,hk,Option.toList_some,List.sum_append]
  simp
section
variable {X:Cx}
theorem ints_get {ns:List Int}{us:List Value} (r:av (ns.map V.int) us) {i:Nat}{v:Value} (h:us[i]?=some v):∃t,v=.int ((ns[i]?).getD 0) t:=by
 have hl:=r.length
 rw [List.length_map] at hl
 have hi:i < ns.length:=by rw [hl];exact (List.getElem?_eq_some_iff.mp h).1
 obtain⟨u,hu,ru⟩:=r.get (i:=i) (x:=.int ns[i]) (by rw [List.getElem?_map,List.getElem?_eq_getElem hi];rfl)
 rw [h] at hu
 cases hu
 obtain⟨t,rfl⟩:=ru
 exact⟨t,by rw [List.getElem?_eq_getElem hi];rfl⟩
theorem ue (hc:X.calm=true):bX X (.builtin "sum") (fun xs H Q=>∃(p:Addr) (ns:List Int),xs=[.ref p]/\(SqL X.K H p (ns.map V.int)\/SqT X.K H p (ns.map V.int))/\Q (.int ns.sum) H):=by
 intro pins s σ H xs us Q I r h
 obtain⟨p,ns,rfl,hq,q⟩:=h
 obtain⟨u,rfl,ru⟩:=vals1 r
 cases ru
 have fin:∀(its:List Value),av (ns.map V.int) its->preSum (fun i=>(ns[i]?).getD 0) its.toArray.size=ns.sum:=fun its rv=>by
  have hl:=rv.length
  rw [List.length_map] at hl
  rw [List.size_toArray,<- hl,jg ns ns.length (Nat.le_refl _) fun i n e=>by rw [e];rfl,List.take_length]
 rcases hq with hq | hq
 ·obtain⟨its,rv,pl,hz⟩:=I.list hq
  have il:=pl.isList
  have hlt:p < s.heap.objs.size:=by obtain⟨_,e,_⟩:=il;exact Heap.lt_size e
  refine call_sum_walkG (wpAny_pyIter_list il ⟨s.heap.objs.size,[s.heap.objs.size,p],[s.heap.objs.size],its.toArray.size,_,_,fun i=>(ns[i]?).getD 0,rfl,Walks.list (A:=X.A.in1) (I.ok.hd hc) _ p (Nat.ne_of_lt hlt) its.toArray,
   ⟨⟨_,Heap.get?_push_size _ rfl,rfl,rfl⟩,il.push _⟩,fun b hb=>?_,fun i v hv=>ints_get rv (by simpa using hv),fun h' tk t' hk=>?_⟩)
  ·show b < (s.heap.push _).objs.size
   rw [Heap.size_push]
   simp only [List.mem_cons,List.not_mem_nil,or_false] at hb
   rcases hb with rfl | rfl
   ·exact Nat.lt_succ_self _
   ·exact Nat.lt_succ_of_lt hlt
  ·rw [fin its rv]
   exact⟨.int ns.sum,H,I.kept (t':=tk) fun b o e=>hk b o (fun z=>absurd (Heap.lt_size e) (by rw [List.mem_singleton.mp z];exact Nat.lt_irrefl _)) (Heap.get?_push_of_some _ e),⟨_,rfl⟩,q⟩
 ·obtain⟨its,rv,pl,hz⟩:=I.tuple hq
  have il:s.heap.IsTuple p its.toArray:=pl
  have hlt:p < s.heap.objs.size:=by obtain⟨_,e,_⟩:=il;exact Heap.lt_size e
  refine call_sum_walkG (wpAny_pyIter_tuple il ⟨s.heap.objs.size,[s.heap.objs.size,p],[s.heap.objs.size],its.toArray.size,_,_,fun i=>(ns[i]?).getD 0,rfl,Walks.tuple (A:=X.A.in1) (I.ok.hd hc) _ p (Nat.ne_of_lt hlt) its.toArray,
   ⟨⟨_,Heap.get?_push_size _ rfl,rfl,rfl⟩,il.at fun o e=>Heap.get?_push_of_some _ e⟩,fun b hb=>?_,fun i v hv=>ints_get rv (by simpa using hv),fun h' tk t' hk=>?_⟩)
  ·show b < (s.heap.push _).objs.size
   rw [Heap.size_push]
   simp only [List.mem_cons,List.not_mem_nil,or_false] at hb
   rcases hb with rfl | rfl
   ·exact Nat.lt_succ_self _
   ·exact Nat.lt_succ_of_lt hlt
  ·rw [fin its rv]
   exact⟨.int ns.sum,H,I.kept (t':=tk) fun b o e=>hk b o (fun z=>absurd (Heap.lt_size e) (by rw [List.mem_singleton.mp z];exact Nat.lt_irrefl _)) (Heap.get?_push_of_some _ e),⟨_,rfl⟩,q⟩
end
section
variable {prog:Program}{w:World}{A:Around}{E:Value->Shared->Prop}{s:Shared}
theorem vq {c t:Addr}{i:Nat}{its:Array Value}{v:Value}{Q:Value->Shared->Prop} (hi:s.heap.IsTupleIter c t i) (ht:s.heap.IsTuple t its) (hv:its[i]?=some v)
  (k:∀G,G.IsTupleIter c t (i + 1)->Heap.SameBut c s.heap G->Q v { s with heap:=G }):wpAny (model prog w) A (Builtin.SmallTypes.nextOf (.ref c)) Q E s:=by
 obtain⟨o,e,cl,d⟩:=id hi
 obtain⟨o2,e2,_,n2,d2⟩:=ht
 unfold Builtin.SmallTypes.nextOf
 refine wpAny_bind (wpAny_callSpecial?_slot (name:=Str.ofString "__next__") hi.typeIs F.slot_tuple_iterator_next (wpAny_call_entry F.slot_tuple_iterator_next hi.typeIs F.entry_tuple_iterator_next ?_ (F.args_tuple_iterator_next_1 _)))
 refine (show wpAny _ _ (field (.ref c) 0 >>= _) _ _ s from wpAny_bind (wpAny_field e d (x:=.ref t) rfl ?_))
 refine (show wpAny _ _ (if (Value.ref t == Value.none)=true then _ else _) _ _ s from ?_);rw [if_neg (show ¬ ((Value.ref t == Value.none)=true) from Bool.false_ne_true)]
 refine (show wpAny _ _ (field (.ref c) 1 >>= _) _ _ s from wpAny_bind (wpAny_field e d (x:=.int i 0) rfl ?_))
 refine (show wpAny _ _ (seqItems? (.ref t) >>= _) _ _ s from wpAny_bind (wpAny_seqItems e2 d2 ?_));simp only [Int.toNat_natCast,hv]
 refine wpAny_bind (wpAny_setField e d (by simp) (wpAny_pure ⟨v,rfl,wpAny_pure (k _ ⟨_,Heap.get?_update_self _ e (Obj.isFreed_of_fields (Obj.data_mapFields d _)),(Obj.cls_mapFields ..).trans cl,by rw [Obj.data_mapFields d];simp [rawInt]⟩ (Heap.SameBut.update ..))⟩))
theorem xc {c t:Addr}{i:Nat}{its:Array Value}{Q:Value->Shared->Prop} (hh:A.handled=none) (hi:s.heap.IsTupleIter c t i) (ht:s.heap.IsTuple t its) (hv:its[i]?=none)
  (k:∀G x,Heap.ExtBut c s.heap G->(∃o,G.get? x=some o/\o.cls=.type "StopIteration")->E (.ref x) { s with heap:=G }):wpAny (model prog w) A (Builtin.SmallTypes.nextOf (.ref c)) Q E s:=by
 obtain⟨o,e,cl,d⟩:=id hi
 obtain⟨o2,e2,_,n2,d2⟩:=ht
 unfold Builtin.SmallTypes.nextOf
 refine wpAny_bind (wpAny_callSpecial?_slot (name:=Str.ofString "__next__") hi.typeIs F.slot_tuple_iterator_next (wpAny_call_entry F.slot_tuple_iterator_next hi.typeIs F.entry_tuple_iterator_next ?_ (F.args_tuple_iterator_next_1 _)))
 refine (show wpAny _ _ (field (.ref c) 0 >>= _) _ _ s from wpAny_bind (wpAny_field e d (x:=.ref t) rfl ?_))
 refine (show wpAny _ _ (if (Value.ref t == Value.none)=true then _ else _) _ _ s from ?_);rw [if_neg (show ¬ ((Value.ref t == Value.none)=true) from Bool.false_ne_true)]
 refine (show wpAny _ _ (field (.ref c) 1 >>= _) _ _ s from wpAny_bind (wpAny_field e d (x:=.int i 0) rfl ?_))
 refine (show wpAny _ _ (seqItems? (.ref t) >>= _) _ _ s from wpAny_bind (wpAny_seqItems e2 d2 ?_));simp only [Int.toNat_natCast,hv]
 refine wpAny_bind (wpAny_rule (wpAny_bind (wpAny_setField e d (by simp) (show wpAny _ _ (newExc (.type "StopIteration") [] >>= _) _ _ _ from wpAny_bind ?_))));simp only [newExc,newTuple]
 refine wpAny_bind (wpAny_newObj_type (wpAny_bind (m:=firstArgMember _ _) (wpAny_of_eq (a:=Value.none) (by first | rfl | (simp only [firstArgMember];rfl)) (wpAny_newObj_type ?_ (by size_fits)))) (by size_fits));simp only [raiseNew]
 refine wpAny_bind (wpAny_handled ?_);(first | rw [show A.in1.handled=none from hh] | rw [hh])
 exact wpAny_bind (wpAny_pure (wpAny_throw (k _ _ (((Heap.SameBut.update ..).extBut.push _).push _) ⟨_,Heap.get?_push_size _ rfl,rfl⟩)))
end
section
variable {prog:Program}{w:World}{A:Around}{E:Value->Shared->Prop}{s:Shared}
end
section
variable {X:Cx}
end
section
variable {prog:Program}{w:World}{A:Around}{E:Value->Shared->Prop}{s:Shared}
theorem nh {c d:Addr}{i ep:Nat}{o:Obj}{es:Array DictEntry}{Q:Option Value->Shared->Prop} (hi:s.heap.IsKeyIter c d i es.size ep) (ho:s.heap.get? d=some o) (hd:o.data=.dict es ep) (lt:i < es.size)
  (q:∀G,G.IsKeyIter c d (i + 1) es.size ep->Heap.SameBut c s.heap G->Q (some es[i].key) { s with heap:=G }):wpAny (model prog w) A (pyNext (.ref c)) Q E s:=by
 obtain⟨oc,e,cl,dc⟩:=id hi
 have own:Builtin.Dict_items.ownsTuple "dict_keyiterator"=false:=by decide
 unfold pyNext
 refine wpAny_bind (wpAny_attempt (wpAny_callSpecial?_slot (name:=Str.ofString "__next__") hi.typeIs F.slot_dict_keyiterator_next (wpAny_call_entry F.slot_dict_keyiterator_next hi.typeIs F.entry_dict_keyiterator_next ?_ (F.args_dict_keyiterator_next_1 _))))
 refine wpAny_bind (wpAny_pure (wpAny_bind (wpAny_bind ?_)))
 (first | refine wpAny_bind (wpAny_typeNameOfWhole_keyiter hi.typeIs (wpAny_pure (wpAny_bind (wpAny_fieldsOf e dc ?_)))) | refine wpAny_bind (wpAny_typeNameOf_keyiter hi.typeIs (wpAny_pure (wpAny_bind (wpAny_fieldsOf e dc ?_)))));simp only [own,Bool.false_eq_true,if_false]
 refine (show wpAny _ _ (if (Value.ref d == Value.none)=true then _ else _) _ _ s from ?_);rw [if_neg (show ¬ ((Value.ref d == Value.none)=true) from Bool.false_ne_true)]
 refine wpAny_bind (wpAny_pure (wpAny_bind (wpAny_dictEntries ho hd ?_)));rw [if_neg (by simp)]
 refine wpAny_bind (wpAny_pure (wpAny_bind (wpAny_dictEpoch ho hd ?_)));rw [if_neg (by simp)]
 refine wpAny_pure ?_;simp only [show ¬ ((i:Int) < 0) from by omega,if_false,Int.toNat_natCast,Array.getElem?_eq_getElem lt]
 refine wpAny_bind ?_;(first | refine wpAny_bind (wpAny_typeNameOfWhole_keyiter hi.typeIs (wpAny_pure (wpAny_bind (wpAny_isOneOf_keyiter hi.typeIs ?_)))) | refine wpAny_bind (wpAny_typeNameOf_keyiter hi.typeIs (wpAny_pure (wpAny_bind (wpAny_isOneOf_keyiter hi.typeIs ?_)))))
 refine (show wpAny _ _ (setField (.ref c) 1 (rawInt ((i:Int) + 1)) >>= _) _ _ s from wpAny_bind (wpAny_setField e dc (by simp) ?_))
 have hi2:(s.heap.update c (Obj.mapFields (·.setIfInBounds 1 (rawInt ((i:Int) + 1))))).IsKeyIter c d (i + 1) es.size ep:=⟨_,Heap.get?_update_self _ e (Obj.isFreed_of_fields (Obj.data_mapFields dc _)),(Obj.cls_mapFields ..).trans cl,by rw [Obj.data_mapFields dc];simp [rawInt]⟩
 refine wpAny_bind (wpAny_holding (wpAny_bind (wpAny_isOneOf_keyiter (s:={ s with heap:=s.heap.update c (Obj.mapFields (·.setIfInBounds 1 (rawInt ((i:Int) + 1)))) }) hi2.typeIs ?_)))
 exact (show wpAny _ _ (pure es[i].key) _ _ _ from wpAny_pure (wpAny_pure ⟨_,rfl,wpAny_pure (q _ hi2 (Heap.SameBut.update ..))⟩))
theorem oC {c d:Addr}{i ep:Nat}{o:Obj}{es:Array DictEntry}{Q:Option Value->Shared->Prop} (hh:A.handled=none) (hi:s.heap.IsKeyIter c d i es.size ep) (ho:s.heap.get? d=some o) (hd:o.data=.dict es ep) (ge:es.size<=i)
  (q:∀G,Heap.ExtBut c s.heap G->Q none { s with heap:=G }):wpAny (model prog w) A (pyNext (.ref c)) Q E s:=by
 obtain⟨oc,e,cl,dc⟩:=id hi
 have own:Builtin.Dict_items.ownsTuple "dict_keyiterator"=false:=by decide
 unfold pyNext
 refine wpAny_bind (wpAny_attempt (wpAny_callSpecial?_slot (name:=Str.ofString "__next__") hi.typeIs F.slot_dict_keyiterator_next (wpAny_call_entry F.slot_dict_keyiterator_next hi.typeIs F.entry_dict_keyiterator_next ?_ (F.args_dict_keyiterator_next_1 _))))
 refine wpAny_bind (wpAny_pure (wpAny_bind (wpAny_bind ?_)))
 (first | refine wpAny_bind (wpAny_typeNameOfWhole_keyiter hi.typeIs (wpAny_pure (wpAny_bind (wpAny_fieldsOf e dc ?_)))) | refine wpAny_bind (wpAny_typeNameOf_keyiter hi.typeIs (wpAny_pure (wpAny_bind (wpAny_fieldsOf e dc ?_)))));simp only [own,Bool.false_eq_true,if_false]
 refine (show wpAny _ _ (if (Value.ref d == Value.none)=true then _ else _) _ _ s from ?_);rw [if_neg (show ¬ ((Value.ref d == Value.none)=true) from Bool.false_ne_true)]
 refine wpAny_bind (wpAny_pure (wpAny_bind (wpAny_dictEntries ho hd ?_)));rw [if_neg (by simp)]
 refine wpAny_bind (wpAny_pure (wpAny_bind (wpAny_dictEpoch ho hd ?_)));rw [if_neg (by simp)]
 refine wpAny_pure ?_;simp only [show ¬ ((i:Int) < 0) from by omega,if_false,Int.toNat_natCast,Array.getElem?_eq_none ge]
 refine wpAny_bind ?_;(first | refine wpAny_bind (wpAny_typeNameOfWhole_keyiter hi.typeIs (wpAny_pure ?_)) | refine wpAny_bind (wpAny_typeNameOf_keyiter hi.typeIs (wpAny_pure ?_)))
 refine (show wpAny _ _ (setField (.ref c) 0 .none >>= _) _ _ s from wpAny_bind (wpAny_setField e dc (by simp) (show wpAny _ _ (newExc (.type "StopIteration") [] >>= _) _ _ _ from wpAny_bind ?_)));simp only [newExc,newTuple]
 refine wpAny_bind (wpAny_newObj_type (wpAny_bind (m:=firstArgMember _ _) (wpAny_of_eq (a:=Value.none) (by first | rfl | (simp only [firstArgMember];rfl)) (wpAny_newObj_type ?_ (by size_fits)))) (by size_fits));simp only [raiseNew]
 refine wpAny_bind (wpAny_handled ?_);rw [show A.in1.handled=none from hh]
 refine wpAny_bind (wpAny_pure (wpAny_throw ?_));refine wpAny_bind (wpAny_isInstance (T:="StopIteration") (b:=true) ⟨_,Heap.get?_push_size _ rfl,rfl⟩ isSubtype_stop (wpAny_pure (q _ (((Heap.SameBut.update ..).extBut.push _).push _))))
theorem nH {d:Addr}{ep:Nat}{o:Obj}{es:Array DictEntry}{Q:Value->Shared->Prop} (nd:(d == sysModules)=false) (ho:s.heap.get? d=some o) (ex:o.ExactDict) (hd:o.data=.dict es ep)
  (q:Q (.ref s.heap.objs.size) { s with heap:=s.heap.push { cls:=.type "dict_keyiterator",data:=.fields #[.ref d,.int 0 0,.int es.size 0,.int ep 0] } }):wpAny (model prog w) A (pyIter (.ref d)) Q E s:=by
 have ty:s.TypeIs (.ref d) "dict":=⟨o,ho,ex.1⟩
 refine wpAny_pyIter_slot ty F.slot_dict_iter (wpAny_call_entry F.slot_dict_iter ty F.entry_dict_iter ?_ (F.args_dict_iter_1 _))
 unfold Builtin.«dict.__iter__»;refine wpAny_bind ?_;unfold Builtin.Dict.dictSlotNone
 refine wpAny_bind (wpAny_notOrdered_dict ty (show wpAny _ _ (pure (Value.ref d)) _ _ s from wpAny_pure (show wpAny _ _ (Builtin.Dict.showsAll d >>= _) _ _ s from ?_)));unfold Builtin.Dict.showsAll;rw [if_neg (by rw [nd];exact Bool.false_ne_true)]
 refine wpAny_bind (wpAny_pure (wpAny_bind (wpAny_dictEntries ho hd (wpAny_bind (wpAny_dictEpoch ho hd (wpAny_bind (wpAny_newObj_type (wpAny_pure ⟨_,rfl,"dict_keyiterator",_,⟨_,Heap.get?_push_size _ rfl,rfl⟩,F.slot_dict_keyiterator_next.lookup,?_⟩))))))))
 simpa [rawInt] using q
end
theorem Inv.freeze {X:Cx}{pins:List (Addr×Obj)}{σ:St}{H:Hp}{s:Shared}{a:Addr}{o:Obj}{kvs:List (List Key×V)} (I:Inv X pins σ H s) (e:H a=some (.dT kvs)) (ho:s.heap.get? a=some o):Inv X pins σ (upd H a (.frz o (.dT kvs))) s:=by
 have ne:∀b u,H b=some u->(∀k,u≠.dT k)->b≠a:=fun b u q n z=>by
  rw [z,e] at q
  cases q
  exact n _ rfl
 have st:∀{b:Addr}{u:HO},aJ X.prog X.w H s.heap b u->aJ X.prog X.w (upd H a (.frz o (.dT kvs))) s.heap b u:=fun x=>x.stay (fun _ _ _ q=>q) (fun b q=>by rw [aq (ne b _ q (by intro k z;cases z))];exact q) fun b xs q=>by rw [aq (ne b _ q (by intro k z;cases z))];exact q
 refine I.step (h':=s.heap) (g':=s.gens) (t':=s.toks) (d':=s.drawn) (ch:=[]) (fun _ z=>nomatch z) (fun b o _ _ _ q _=>q) (fun b o _ _ _ q _=>⟨o.slots,q⟩) (fun b o' _ q n=>?_) (fun b o _ q=>⟨o,q⟩) (fun b xs q=>?_) (fun b o u q=>?_) (fun b ps q=>?_) (fun m h=>h) (fun b u q=>?_) I.bare
 ·rw [aq (fun z=>by rw [z,e] at n;cases n)];exact n
 ·rw [aq (ne b _ q (by intro k z;cases z))];exact q
 ·rw [aq (ne b _ q (by intro k z;cases z))];exact q
 ·exact⟨#[],by rw [aq (ne b _ q (by intro k z;cases z)),q];simp⟩
 ·by_cases hb:b=a
  ·subst hb
   rw [ak] at q
   cases q
   exact⟨ho,st (I.hok b _ e)⟩
  ·rw [aq hb] at q
   exact st (I.hok b u q)
noncomputable def Itd (a:Addr) (o:Obj):It :=
 ⟨fun i H=>∃kvs,H a=some (.frz o (.dT kvs))/\i < kvs.length,
  fun i H v H'=>H'=H/\∀kvs,H a=some (.frz o (.dT kvs))->∃p b,kvs[i]?=some p/\v=.ref b/\H b=some (.tup (p.1.map kV)),
  fun i H=>∃kvs,H a=some (.frz o (.dT kvs))/\kvs.length<=i⟩
theorem Paired.at {α β:Type}{F:α->β->Prop}:∀{l:List α}{m:List β},Paired F l m->∀{i:Nat}{x:α},l[i]?=some x->∃y,m[i]?=some y/\F x y
 | _,_,.cons r t,0,x,h=>by simp at h;subst h;exact⟨_,rfl,r⟩
 | _,_,.cons r t,i + 1,x,h=>by simpa using Paired.at t (by simpa using h)
theorem tW {P:Program}{w:World}{K:PySem.W.Frag}{tg:Expr} (a it:Addr) (o:Obj) (es:Array DictEntry) (ep:Nat) (hd:o.data=.dict es ep):Turn P w K tg (Itd a o) [it] it (fun i h=>h.IsKeyIter it a i es.size ep) where
 mem:=by simp
 obj:=fun i h st b hb=>by
  have e:b=it:=by simpa using hb
  subst e
  obtain⟨o,e,c,d⟩:=st
  exact⟨o,e,fun v z=>by rw [d] at z;cases z⟩
 keep:=fun i h h' st k=>st.at fun o e=>k it (by simp) o e
 item:=by
  intro X hP hw hK hc i pins s σ H E I hf st hg
  subst hP hw hK
  obtain⟨kvs,ha,lt⟩:=hg
  obtain⟨ho,_,_,xs,rel,o2,es2,ep2,h1,_,h2,h3,_⟩:=(show aJ X.prog X.w H s.heap a (.frz o (.dT kvs)) from I.hok a _ ha)
  rw [ho] at h1
  cases h1
  rw [hd] at h2
  cases h2
  have hl:=Paired.length rel
  have hes:es.size=xs.length:=size_of_entries h3
  have lt2:i < es.size:=by omega
  obtain⟨p,hp⟩:∃p,kvs[i]?=some p:=⟨_,List.getElem?_eq_getElem lt⟩
  obtain⟨y,hy,r1,r2,r3⟩:=Paired.at rel hp
  have ek:es[i].key=.ref y.2.1:=by
   have q:=entry_at h3 i
   rw [hy,Array.getElem?_eq_getElem lt2] at q
   simp only [Option.map_some,Option.some.injEq] at q
   rw [q];rfl
  obtain⟨f0,f1,f2,f3,f4,f5⟩:=hf it (by simp)
  refine nh st ho hd lt2 fun h' st' sb=>?_
  rw [ek]
  have I1:Inv X pins σ H { s with heap:=h' }:=I.turned (t':=s.toks) (fun b o hb e=>(sb.2 b hb).trans e) f0 f1 f3 f4 f5
  obtain⟨o',e,c,d⟩:=id st'
  exact⟨_,rfl,fS (s:={ s with heap:=h' }) e c d (by decide) ⟨.ref y.2.1,H,I1,rfl,⟨rfl,fun kvs' ha'=>by rw [ha] at ha';cases ha';exact⟨p,_,hp,rfl,r2⟩⟩,st',fun b hb=>(hf b hb).1⟩⟩
 done:=by
  intro X hP hw hK hc i pins s σ H E I hf st hg
  subst hP hw hK
  obtain⟨kvs,ha,ge⟩:=hg
  obtain⟨ho,_,_,xs,rel,o2,es2,ep2,h1,_,h2,h3,_⟩:=(show aJ X.prog X.w H s.heap a (.frz o (.dT kvs)) from I.hok a _ ha)
  rw [ho] at h1
  cases h1
  rw [hd] at h2
  cases h2
  have hl:=Paired.length rel
  have hes:es.size=xs.length:=size_of_entries h3
  obtain⟨f0,f1,f2,f3,f4,f5⟩:=hf it (by simp)
  exact oC (I.ok.hd hc) st ho hd (by omega) fun h' eb=>⟨rfl,I.turned (t':=s.toks) (fun b o hb e=>eb b o hb e) f0 f1 f3 f4 f5⟩
 self:=fun _ _ _ _ _ st h=>wpAny_pyIter_keyiter st h
section
variable {X:Cx}{tg:Expr}
noncomputable def xw (tl:TE):TI:=fun σ H R=>tl σ H fun x H1=>∃a kvs,x=.ref a/\H1 a=some (.dT kvs)/\∀o,R (Itd a o) (upd H1 a (.frz o (.dT kvs)))
theorem nQ {l:Expr}{tl:TE} (hl:PE X l tl):PI X tg l (xw tl):=by
 intro pins s σ H R I h
 refine thn (hl pins s σ H _ I h) fun v s1 ⟨x,H1,I1,r1,q1⟩=>?_
 obtain⟨a,kvs,rfl,ha,q⟩:=q1
 cases r1
 obtain⟨_,nd,xs,rel,o,es,ep,ho,ex,hd,h3,_⟩:=(show aJ X.prog X.w H1 s1.heap a (.dT kvs) from I1.hok a _ ha)
 refine nH nd ho ex hd ?_
 have I2:=I1.freeze ha ho
 refine⟨s1.heap.objs.size,[s1.heap.objs.size],_,_,_,rfl,I2.kept (t':=s1.toks) fun b o e=>Heap.get?_push_of_some _ e,tW a _ o es ep hd,⟨_,Heap.get?_push_size _ rfl,rfl,rfl⟩,fun b hb=>?_,q o⟩
 have e:b=s1.heap.objs.size:=by simpa using hb
 subst e
 exact I2.fpOk (Nat.le_refl _) (I2.hok.fresh (Nat.le_refl _))
end
noncomputable def j5 (H:Hp) (a:Addr) (y v:V) (H':Hp):Prop:=∃kvs k,H a=some (.dK kvs)/\y=kV k/\kvs.length < sizeLine/\H'=upd H a (.dK (putK kvs k v))
theorem rC {X:Cx}{pins:List (Addr×Obj)}{σ:St}{H H':Hp}{s:Shared}{a:Addr}{y v:V}{u r:Value}{A:Around}{E:Value->Shared->Prop}{Q:Unit->Shared->Prop} (I:Inv X pins σ H s) (g:j5 H a y v H') (ry:RelV y u) (rv:RelV v r) (h:∀s',Inv X pins σ H' s'->Q () s') :
  wpAny (model X.prog X.w) A (dictSet a u r) Q E s:=by
 obtain⟨kvs,k,e,ey,l,eH⟩:=g
 subst ey eH
 obtain⟨z,hd,vs,rel,dd⟩:=oO I.hok e
 have hl:(putK kvs k v).length<=sizeLine:=by have:=f7 kvs k v;omega
 refine wpAny_dictSet_pairs (hsz:=by rw [<- rel.length];exact z) (iA ry) dd fun h' dd' hs=>h _ ?_
 have he:∃q,h'.get? a=some q:=let ⟨q,_,_,hq,_⟩:=dd';⟨q,hq⟩
 exact ic I (by rw [e];exact True.intro) hs he (oG hl hd (rel.put k rv) dd')
noncomputable def kI (D:Addr) (J:It) (g:TG) (tt:TT) (tk tv:TE) (σ':St) (fin:Hp->Prop) (H1:Hp):Prop :=
 ∃W:Nat->Nat->St->Hp->Prop,(∃m,W 0 m σ' H1)/\∀i m σ H,W i m σ H ->
  (J.stop i H/\fin H)\/(J.go i H/\∃Nx:St->Hp->Prop,(∀σ' H',Nx σ' H'->∃m',m' < m/\W (i + 1) m' σ' H') /\
   ∀x H',J.yld i H x H'->g x σ H' fun σ2 H2=>tt σ2 H2 fun b H3=>if b=true then tk σ2 H3 (fun y H4=>tv σ2 H4 fun v H5=>∃H6,j5 H5 D y v H6/\Nx σ2 H6) else Nx σ2 H3)
section
variable {X:Cx}{scope:Scope}{N:List Str}{ix:List (Option Nat)}
variable {tg iter kx vx:Expr}{ifs:List Expr}{pos:Pos}{g:TG}{tt:TT}{tk tv:TE}
theorem vO (L:bR X scope N ix) (hc:X.calm=true) (hg:∀C s0 H0 fp,PG (aw X scope N C s0 H0 fp) tg g) (ht:∀C s0 H0 fp,PTs (aw X scope N C s0 H0 fp) ifs tt) (hk:∀C s0 H0 fp,PE (aw X scope N C s0 H0 fp) kx tk) (hv:∀C s0 H0 fp,PE (aw X scope N C s0 H0 fp) vx tv)
  {pins:List (Addr×Obj)}{σ:St}{H1:Hp}{s1:Shared}{it:Addr}{fp:List Addr}{tn:Nat->Heap->Prop}{J:It}{fin:Addr->Hp->Prop}{E:Value->Shared->Prop}{RR:Value->Addr->Result->Shared->Prop}
  (I1:Inv X pins σ H1 s1) (T:Turn X.prog X.w X.K tg J fp it tn) (st:tn 0 s1.heap) (f1:∀b∈fp,bJ X pins H1 b) (hW:∀D,H1 D=none->kI D J g tt tk tv (emb ix σ) (fin D) (upd H1 D (.dK [])))
  (hRR:∀D C s' m H',s'.heap.Ns C m->s'.os=s1.os->bJ X pins H' C->(∀h',Heap.SameBut C s'.heap h'->Inv X pins σ H' { s' with heap:=h' })->fin D H'->RR (.ref D) C (.ok .next) s') :
  wpAny (model X.prog X.w) X.A newDict (fun acc s3=>wpAny (model X.prog X.w) X.A (newFunctionEnv scope X.env.globals (cg X.env scope.names []) [] X.env.qual none .none (some X.env)) (fun cenv s4 =>
   codeAny (model X.prog X.w) X.A (.compStart (.DictComp kx vx [⟨tg,iter,ifs,0⟩] scope pos) 0 (.ref it) acc { cenv with scope:=relabel scope X.env }) (RR acc cenv.locals) s4) E s3) E s1:=by
 have hb1:∀b∈fp,b < s1.heap.objs.size:=fun b hb=>by
  obtain⟨o,e,_⟩:=T.obj _ _ st b hb
  exact Heap.lt_size e
 have hDn:H1 s1.heap.objs.size=none:=I1.hok.fresh (Nat.le_refl _)
 obtain⟨W,⟨m0,w0⟩,turn⟩:=hW s1.heap.objs.size hDn
 refine wpAny_newObj_type (wpAny_newFunctionEnv L.nocell (by intro y hy;simp at hy) (fun h1 hns hsb=>?_) L.kind)
 dsimp only at hns hsb ⊢
 have I2:Inv X pins σ (upd H1 s1.heap.objs.size (.dK [])) { s1 with heap:=s1.heap.push { cls:=.type "dict",data:=.dict #[] },toks:=s1.toks } :=
  I1.laid (t':=s1.toks) (a:=s1.heap.objs.size) (o:=.dK []) (fun _ _ q=>Heap.get?_push_of_some _ q) (Nat.le_refl _) (mq s1.heap I1.big)
 have f2:∀b∈fp,bJ X pins (upd H1 s1.heap.objs.size (.dK [])) b:=fun b hb=>by
  obtain⟨q0,q1⟩:=f1 b hb
  exact⟨by rw [aq (Nat.ne_of_lt (hb1 b hb))];exact q0,q1⟩
 have st2:tn 0 (s1.heap.push { cls:=.type "dict",data:=.dict #[] }):=T.keep _ _ _ st fun b _ o e=>Heap.get?_push_of_some _ e
 generalize hD:s1.heap.objs.size=D at *
 generalize hH2:upd H1 D (.dK [])=H2 at *
 generalize hG:s1.heap.push { cls:=.type "dict",data:=.dict #[] }=G at *
 have hGs:G.objs.size=D + 1:=by rw [<- hG,Heap.size_push,hD]
 generalize hCe:G.objs.size=C at *
 have kp:∀b o,G.get? b=some o->h1.get? b=some o:=fun b o e=>hsb.extBut b o (fun z=>by have:=Heap.lt_size e;rw [hCe] at this;exact absurd (z ▸ this) (Nat.lt_irrefl _)) (Heap.get?_push_of_some _ e)
 have I4:=iC L (tk:=s1.toks + ([]:List (Str×Value)).length) I2 (C:=C) (by show G.objs.size<=C;rw [hCe];exact Nat.le_refl _) f2 (fun b hb=>by show b < G.objs.size;rw [hCe,hGs];exact Nat.lt_succ_of_lt (hb1 b hb)) kp hns
 have st4:tn 0 h1:=T.keep _ _ _ st2 fun b _ o e=>kp b o e
 generalize hs2:({ s1 with heap:=G,toks:=s1.toks }:Shared)=s2 at I2 I4
 have hs2h:s2.heap=G:=by rw [<- hs2]
 have hs2o:s2.os=s1.os:=by rw [<- hs2]
 have stat:∀{H':Hp},(∀b∈fp,H' b=none)->∀b∈fp,bJ (aw X scope N C s2 H2 fp) [] H' b:=fun {H'} hn b hb=>by
  have hlt:=hb1 b hb
  refine⟨hn b hb,fun z=>?_,fun z=>?_,.inl hb,fun x c e=>(f2 b hb).2.2.2.2.1 x c (dg e),fun p hq z=>?_⟩
  ·exact nU hlt hGs z
  ·exact (List.mem_cons.mp (I2.stkSub b z)).elim (f2 b hb).2.1 (f2 b hb).2.2.1
  ·have hq':p∈([]:List (Addr×Obj)):=by simpa [aw] using hq
   cases hq'
 have loop:∀s4:Shared,Inv (aw X scope N C s2 H2 fp) [] (emb ix σ) H2 s4->tn 0 s4.heap->codeAny (model X.prog X.w) X.A (.compLoop (.DictComp kx vx [⟨tg,iter,ifs,0⟩] scope pos) 0 (.ref it) (.ref D) (aw X scope N C s2 H2 fp).env) (RR (.ref D) C) s4:=by
  intro s4 I4' st4'
  refine mZ (fun n s'=>∃i σ' H',Inv (aw X scope N C s2 H2 fp) [] σ' H' s'/\tn i s'.heap/\(∀b∈fp,H' b=none)/\W i n σ' H') ?_ m0 ⟨0,emb ix σ,H2,I4',st4',fun b hb=>(f2 b hb).1,w0⟩
  rintro n s' ⟨i,σ',H',I',st',fr',w'⟩
  rcases turn i n σ' H' w' with ⟨stop,qf⟩ | ⟨go,Nx,hN,step⟩
  ·refine thn (T.done (aw X scope N C s2 H2 fp) rfl rfl rfl hc i _ s' σ' H' _ I' (stat fr') st' stop) fun r s5 ⟨hr,I5⟩=>?_
   subst hr
   obtain⟨m5,hn5,_⟩:=I5.loc
   refine hRR D C s5 m5 H' hn5 (I5.os.trans hs2o) (I2.fpOk (by rw [hs2h,hCe];exact Nat.le_refl _) I5.free) (fun h' hs'=>?_) qf
   exact oJ I2 f2 I5 (by rw [hs2h,hCe];exact Nat.le_refl _) fun b o hb e=>hs'.extBut b o hb e
  ·refine thn (T.item (aw X scope N C s2 H2 fp) rfl rfl rfl hc i _ s' σ' H' _ I' (stat fr') st' go) fun r s5 ⟨u,hr,h5⟩=>?_
   subst hr
   refine thn h5 fun _ s6 ⟨x,H6,I6,r6,y6,st6,fr6⟩=>?_
   have I6':=I6.pinned (stat fr6) (T.obj _ _ st6)
   refine thn (hg C s2 H2 fp _ s6 σ' H6 x u _ I6' r6 (step x H6 y6)) fun _ s7 ⟨σ7,H7,I7,q7⟩=>?_
   refine thn (ht C s2 H2 fp _ s7 σ7 H7 _ I7 q7) fun ok s8 ⟨H8,I8,q8⟩=>?_
   have back:∀{H9:Hp}{s9:Shared},Inv (aw X scope N C s2 H2 fp) ([]++cY fp s6.heap) σ7 H9 s9->tn (i + 1) s9.heap/\∀b∈fp,H9 b=none:=fun {H9 s9} I9=>by
    refine⟨T.keep _ _ _ st6 fun b hb o e=>(I9.pin (b,o) (List.mem_append_right _ (List.mem_append_right _ (cT hb e)))).1,fun b hb=>?_⟩
    obtain⟨o,e,d⟩:=T.obj _ _ st6 b hb
    exact (I9.pin (b,o) (List.mem_append_right _ (List.mem_append_right _ (cT hb e)))).2.1
   cases ok with
   | false =>
    rw [if_neg Bool.false_ne_true] at q8 ⊢
    obtain⟨m',hm,w8⟩:=hN _ _ q8
    obtain⟨st8,fr8⟩:=back I8
    exact⟨m',hm,i + 1,σ7,H8,I8.unpinned,st8,fr8,w8⟩
   | true =>
    rw [if_pos rfl] at q8 ⊢
    refine thn (hk C s2 H2 fp _ s8 σ7 H8 _ I8 q8) fun yv s9 ⟨y,H9,I9,r9,q9⟩=>?_
    refine thn (hv C s2 H2 fp _ s9 σ7 H9 _ I9 q9) fun xv s10 ⟨v,H10,I10,r10,H11,g11,q11⟩=>?_
    refine rC (X:=aw X scope N C s2 H2 fp) I10 g11 r9 r10 fun s11 I11=>?_
    obtain⟨m',hm,w11⟩:=hN _ _ q11
    obtain⟨st11,fr11⟩:=back I11
    exact⟨m',hm,i + 1,σ7,H11,I11.unpinned,st11,fr11,w11⟩
 have q:=loop _ I4 st4
 subst hs2
 exact codeAny_compStart_dict q (T.self _ 0 _ _ _ st4 q)
noncomputable def xS (wi:TI) (g:TG) (tt:TT) (tk tv:TE) (ix:List (Option Nat)):TE:=fun σ H Q=>wi σ H fun J H1=>∀D,H1 D=none->kI D J g tt tk tv (emb ix σ) (fun H'=>Q (.ref D) H') (upd H1 D (.dK []))
theorem wK {wi:TI} (L:bR X scope N ix) (hc:X.calm=true) (hi:PI X tg iter wi) (hg:∀C s0 H0 fp,PG (aw X scope N C s0 H0 fp) tg g)
  (ht:∀C s0 H0 fp,PTs (aw X scope N C s0 H0 fp) ifs tt) (hk:∀C s0 H0 fp,PE (aw X scope N C s0 H0 fp) kx tk) (hv:∀C s0 H0 fp,PE (aw X scope N C s0 H0 fp) vx tv) (hs:∀x,foldedSetIterable iter X.env x=pure x:=by intro _;rfl) :
  PE X (.DictComp kx vx [⟨tg,iter,ifs,0⟩] scope pos) (xS wi g tt tk tv ix):=by
 intro pins s σ H Q I h
 show wpAny _ X.A (comprehension (.DictComp kx vx [⟨tg,iter,ifs,0⟩] scope pos) scope X.env _ newDict false (eval iter X.env)) _ _ s
 refine wpAny_comprehension_free (use:=none) rfl hs (L.clos I.ok) L.kind L.locals (thn (hi pins s σ H _ I h) fun v s1 h1=>thn h1 fun itv s2 h2=>?_)
 obtain⟨it,fp,tn,J,H2,rfl,I2,T,st2,f2,hW⟩:=h2
 refine vO (RR:=fun acc C=>compPost (model X.prog X.w) X.A X.xe none (EP X pins σ Q) acc C) L hc hg ht hk hv I2 T st2 f2 hW ?_
 intro D C s' m H' hn ho hC hI fin
 exact⟨m,hn,fun h' hs'=>⟨.ref D,_,hI h' hs',rfl,fin⟩⟩
end
structure M1 (X:Cx) (o:Expr) (m:Str) (apos:Pos) (e:Expr) (cpos:Pos):Prop where
 base:attributeBase o m X.env (eval o X.env)=eval o X.env
 few:((backTo cpos (starEach [e] X.env)).all (fun x=>!x.1) && (backToKw cpos (keywordEach [] X.env)).all (fun x=>x.1.isSome)
  && decide (([e]:List Expr).length + ([]:List Keyword).length + (if ([]:List Keyword).isEmpty then 0 else 1) < 30))=true
 line:(apos.endLine == cpos.line)=true
 trees:backTo cpos (starEach [e] X.env)=[(false,eval e X.env)]
structure M2 (X:Cx) (o:Expr) (m:Str) (apos:Pos) (e f:Expr) (cpos:Pos):Prop where
 base:attributeBase o m X.env (eval o X.env)=eval o X.env
 few:((backTo cpos (starEach [e,f] X.env)).all (fun x=>!x.1) && (backToKw cpos (keywordEach [] X.env)).all (fun x=>x.1.isSome)
  && decide (([e,f]:List Expr).length + ([]:List Keyword).length + (if ([]:List Keyword).isEmpty then 0 else 1) < 30))=true
 line:(apos.endLine == cpos.line)=true
 trees:backTo cpos (starEach [e,f] X.env)=[(false,eval e X.env),(false,eval f X.env)]
section
variable {X:Cx}{pins:List (Addr×Obj)}{σ:St}{H:Hp}{s:Shared}{a:Addr}{y d:V}{u r:Value}{o:Option V}{A:Around}{E:Value->Shared->Prop}
end
section
variable {X:Cx}{o e f:Expr}{apos cpos:Pos}{td ty tx:TE}
end
section
variable {X:Cx}{pins:List (Addr×Obj)}{σ:St}{H:Hp}{s:Shared}{a:Addr}{kvs:List (Key×V)}{A:Around}{E:Value->Shared->Prop}
end
section
variable {X:Cx}{pins:List (Addr×Obj)}{σ:St}{H:Hp}{s:Shared}{a:Addr}{y:V}{u:Value}{A:Around}{E:Value->Shared->Prop}
end
section
variable {X:Cx}
end
section
variable {κ:Type} [DecidableEq κ]
end
end L2
namespace L2
open PySem PySem.Spec PyProof.Rows PySem.W PySem.Calls
section
variable {X:Cx}
end
section
variable {prog:Program}{w:World}{A:Around}{E:Value->Shared->Prop}{s:Shared}
end
section
variable {prog:Program}{w:World}{A:Around}{R:Result->Shared->Prop}{K:Type} [DecidableEq K] {knd:PySem.KeyKind prog w K}
end
section
variable {X:Cx}
end
end L2
namespace L2
open PySem PySem.Spec PyProof.Rows
theorem sD:bootBuiltins "enumerate"=some (.type "enumerate"):=by decide +kernel
section
variable {X:Cx}
end
end L2
namespace L2
open PySem PySem.Spec PyProof.Rows PySem.W PySem.Calls
section
variable {X:Cx}
end
noncomputable def jZ:Value->Str
 | .str x _=>x
 | _=>default
structure yB (w:World) (o:Obj) (ss:List Str) (es:Array (Int×Value)) (ep:Nat) (t:SetTable):Prop where
 cls:o.cls=.type "set"
 dic:o.dict=none
 slo:o.slots=#[]
 dat:o.data=.set es ep t
 els:∀e∈es.toList,∃tk,e.2=.str (jZ e.2) tk/\e.1=hashStr w (jZ e.2)
 all:(es.toList.map fun e=>jZ e.2).Perm ss
 one:ss.Nodup
 few:ss.length < 4000
 fit:t.fits es.size=true
 led:t.led=!w.params.followText "set-order"
 pla:es.size=0\/t.plain=false
section
variable {prog:Program}{w:World}{A:Around}{E:Value->Shared->Prop}{s:Shared}
end
section
variable {prog:Program}{w:World}{A:Around}{E:Value->Shared->Prop}{s:Shared}
end
section
variable {prog:Program}{w:World}{A:Around}{E:Value->Shared->Prop}{s:Shared}
end
end L2
set_option maxHeartbeats 8000000
namespace L2
open PySem PySem.Spec PyProof.Rows PySem.W PySem.Calls
section
variable {prog:Program}{w:World}{A:Around}{E:Value->Shared->Prop}{s:Shared}
end
noncomputable def xP (first:Value) (i:Nat) (a:Addr) (n ep:Nat):Array Value:=#[first,rawInt (i:Int),.ref a,rawInt (n:Int),rawInt (ep:Int)]
noncomputable def yL (h:Heap) (I:Addr) (first:Value) (i:Nat) (a:Addr) (n ep:Nat):Prop:=∃o,h.get? I=some o/\o.cls=.type "set_iterator"/\o.data=.fields (xP first i a n ep)
section
variable {prog:Program}{w:World}{A:Around}{E:Value->Shared->Prop}{s:Shared}
end
section
variable {prog:Program}{w:World}{A:Around}{E:Value->Shared->Prop}{s:Shared}
end
section
variable {prog:Program}{w:World}{A:Around}{E:Value->Shared->Prop}{s:Shared}
structure yD (prog:Program) (w:World) (A:Around) (s s₁:Shared) (a I:Addr) (ss:List Str) (fp:List Addr) (ws:List Value) (St:Nat->Heap->Prop):Prop where
 os:s₁.os=s.os
 gens:s₁.gens=s.gens
 toks:s₁.toks=s.toks
 keep:∀b o,s.heap.get? b=some o->s₁.heap.get? b=some o
 new:∀b∈fp,b=a\/s.heap.objs.size<=b
 newI:s.heap.objs.size<=I
 wk:Walks prog w A I fp [I] ss.length (fun i v=>ws[i]?=some v) St
 st:St 0 s₁.heap
 txt:∃ss',StrsAre ws ss'/\ss'.Perm ss
end
section
variable {prog:Program}{w:World}{A:Around}{E:Value->Shared->Prop}{s:Shared}
end
section
variable {prog:Program}{w:World}{A:Around}{E:Value->Shared->Prop}{s:Shared}
end
section
variable {prog:Program}{w:World}{A:Around}{E:Value->Shared->Prop}{s:Shared}
end
section
variable {X:Cx}
end
theorem pairs_at {P:Program}{w:World}:∀{es:List DictEntry}{kvs:List (Key×Value)},Pairs (cN P w) es kvs->∀{i:Nat}{p:Key×Value},kvs[i]?=some p->∃e,es[i]?=some e/\eQ p.1 e.key=true
 | _,_,.cons h1 h2 t,0,p,h=>by
  simp at h
  subst h
  exact⟨_,rfl,h1⟩
 | _,_,.cons h1 h2 t,i + 1,p,h=>by simpa using pairs_at t (by simpa using h)
theorem wR {k:Key}{v:Value} (h:eQ k v=true):RelV (kV k) v:=by
 rcases dM h with ⟨i,t,rfl,rfl⟩ | ⟨x,t,rfl,rfl⟩
 ·exact⟨t,rfl⟩
 ·exact⟨t,rfl⟩
theorem Inv.freezeK {X:Cx}{pins:List (Addr×Obj)}{σ:St}{H:Hp}{s:Shared}{a:Addr}{o:Obj}{kvs:List (Key×V)} (I:Inv X pins σ H s) (e:H a=some (.dK kvs)) (ho:s.heap.get? a=some o):Inv X pins σ (upd H a (.frz o (.dK kvs))) s:=by
 have ne:∀b u,H b=some u->(∀k,u≠.dK k)->b≠a:=fun b u q n z=>by
  rw [z,e] at q
  cases q
  exact n _ rfl
 have st:∀{b:Addr}{u:HO},aJ X.prog X.w H s.heap b u->aJ X.prog X.w (upd H a (.frz o (.dK kvs))) s.heap b u:=fun x=>x.stay (fun _ _ _ q=>q) (fun b q=>by rw [aq (ne b _ q (by intro k z;cases z))];exact q) fun b xs q=>by rw [aq (ne b _ q (by intro k z;cases z))];exact q
 refine I.step (h':=s.heap) (g':=s.gens) (t':=s.toks) (d':=s.drawn) (ch:=[]) (fun _ z=>nomatch z) (fun b o _ _ _ q _=>q) (fun b o _ _ _ q _=>⟨o.slots,q⟩) (fun b o' _ q n=>?_) (fun b o _ q=>⟨o,q⟩) (fun b xs q=>?_) (fun b o u q=>?_) (fun b ps q=>?_) (fun m h=>h) (fun b u q=>?_) I.bare
 ·rw [aq (fun z=>by rw [z,e] at n;cases n)];exact n
 ·rw [aq (ne b _ q (by intro k z;cases z))];exact q
 ·rw [aq (ne b _ q (by intro k z;cases z))];exact q
 ·exact⟨#[],by rw [aq (ne b _ q (by intro k z;cases z)),q];simp⟩
 ·by_cases hb:b=a
  ·subst hb
   rw [ak] at q
   cases q
   exact⟨ho,st (I.hok b _ e)⟩
  ·rw [aq hb] at q
   exact st (I.hok b u q)
noncomputable def Itk (a:Addr) (o:Obj):It :=
 ⟨fun i H=>∃kvs,H a=some (.frz o (.dK kvs))/\i < kvs.length,
  fun i H v H'=>H'=H/\∀kvs,H a=some (.frz o (.dK kvs))->∃p,kvs[i]?=some p/\v=kV p.1,
  fun i H=>∃kvs,H a=some (.frz o (.dK kvs))/\kvs.length<=i⟩
theorem rk {P:Program}{w:World}{K:PySem.W.Frag}{tg:Expr} (a it:Addr) (o:Obj) (es:Array DictEntry) (ep:Nat) (hd:o.data=.dict es ep):Turn P w K tg (Itk a o) [it] it (fun i h=>h.IsKeyIter it a i es.size ep) where
 mem:=by simp
 obj:=fun i h st b hb=>by
  have e:b=it:=by simpa using hb
  subst e
  obtain⟨o,e,c,d⟩:=st
  exact⟨o,e,fun v z=>by rw [d] at z;cases z⟩
 keep:=fun i h h' st k=>st.at fun o e=>k it (by simp) o e
 item:=by
  intro X hP hw hK hc i pins s σ H E I hf st hg
  subst hP hw hK
  obtain⟨kvs,ha,lt⟩:=hg
  obtain⟨ho,_,_,vs,rel,o2,es2,ep2,h1,_,h2,_,h3,_⟩:=(show aJ X.prog X.w H s.heap a (.frz o (.dK kvs)) from I.hok a _ ha)
  rw [ho] at h1
  cases h1
  rw [hd] at h2
  cases h2
  have hl:=Paired.length rel
  have hes:es.size=vs.length:=by rw [<- Array.length_toList];exact h3.length
  have lt2:i < es.size:=by omega
  obtain⟨p,hp⟩:∃p,kvs[i]?=some p:=⟨_,List.getElem?_eq_getElem lt⟩
  obtain⟨y,hy,r1,r2⟩:=Paired.at rel hp
  obtain⟨en,he,hk⟩:=pairs_at h3 hy
  have ek:es[i]=en:=by
   rw [Array.getElem?_toList,Array.getElem?_eq_getElem lt2] at he
   exact Option.some.inj he
  obtain⟨f0,f1,f2,f3,f4,f5⟩:=hf it (by simp)
  refine nh st ho hd lt2 fun h' st' sb=>?_
  rw [ek]
  have I1:Inv X pins σ H { s with heap:=h' }:=I.turned (t':=s.toks) (fun b o hb e=>(sb.2 b hb).trans e) f0 f1 f3 f4 f5
  obtain⟨o',e,c,d⟩:=id st'
  rw [<- r1] at hk
  exact⟨_,rfl,fS (s:={ s with heap:=h' }) e c d (by decide) ⟨kV p.1,H,I1,wR hk,⟨rfl,fun kvs' ha'=>by rw [ha] at ha';cases ha';exact⟨p,hp,rfl⟩⟩,st',fun b hb=>(hf b hb).1⟩⟩
 done:=by
  intro X hP hw hK hc i pins s σ H E I hf st hg
  subst hP hw hK
  obtain⟨kvs,ha,ge⟩:=hg
  obtain⟨ho,_,_,vs,rel,o2,es2,ep2,h1,_,h2,_,h3,_⟩:=(show aJ X.prog X.w H s.heap a (.frz o (.dK kvs)) from I.hok a _ ha)
  rw [ho] at h1
  cases h1
  rw [hd] at h2
  cases h2
  have hl:=Paired.length rel
  have hes:es.size=vs.length:=by rw [<- Array.length_toList];exact h3.length
  obtain⟨f0,f1,f2,f3,f4,f5⟩:=hf it (by simp)
  exact oC (I.ok.hd hc) st ho hd (by omega) fun h' eb=>⟨rfl,I.turned (t':=s.toks) (fun b o hb e=>eb b o hb e) f0 f1 f3 f4 f5⟩
 self:=fun _ _ _ _ _ st h=>wpAny_pyIter_keyiter st h
section
variable {X:Cx}{tg:Expr}
noncomputable def wC (tl:TE):TI:=fun σ H R=>tl σ H fun x H1=>∃a kvs,x=.ref a/\H1 a=some (.dK kvs)/\∀o,R (Itk a o) (upd H1 a (.frz o (.dK kvs)))
theorem vh {l:Expr}{tl:TE} (hl:PE X l tl):PI X tg l (wC tl):=by
 intro pins s σ H R I h
 refine thn (hl pins s σ H _ I h) fun v s1 ⟨x,H1,I1,r1,q1⟩=>?_
 obtain⟨a,kvs,rfl,ha,q⟩:=q1
 cases r1
 obtain⟨_,nd,vs,rel,o,es,ep,ho,ex,hd,_,h3,_⟩:=(show aJ X.prog X.w H1 s1.heap a (.dK kvs) from I1.hok a _ ha)
 refine nH nd ho ex hd ?_
 have I2:=I1.freezeK ha ho
 refine⟨s1.heap.objs.size,[s1.heap.objs.size],_,_,_,rfl,I2.kept (t':=s1.toks) fun b o e=>Heap.get?_push_of_some _ e,rk a _ o es ep hd,⟨_,Heap.get?_push_size _ rfl,rfl,rfl⟩,fun b hb=>?_,q o⟩
 have e:b=s1.heap.objs.size:=by simpa using hb
 subst e
 exact I2.fpOk (Nat.le_refl _) (I2.hok.fresh (Nat.le_refl _))
end
end L2
namespace L2
open PySem
section
variable {X:Cx}{scope:Scope}{N:List Str}{ix:List (Option Nat)}
variable {tg iter kx vx:Expr}{ifs:List Expr}{pos:Pos}{g:TG}{tt:TT}{tk tv:TE}
noncomputable def tDc (wi:TI) (g:TG) (tt:TT) (tk tv:TE) (ix:List (Option Nat)):TE:=fun σ H Q=>wi σ H fun J H1=>∀D,H1 D=none->DcW D J g tt tk tv (emb ix σ) (fun H'=>Q (.ref D) H') (upd H1 D (.dT []))
theorem o9 {wi:TI} (hu:X.A.units < cLine) (L:bR X scope N ix) (hc:X.calm=true) (hi:PI X tg iter wi) (hg:∀C s0 H0 fp,PG (aw X scope N C s0 H0 fp) tg g)
  (ht:∀C s0 H0 fp,PTs (aw X scope N C s0 H0 fp) ifs tt) (hk:∀C s0 H0 fp,PE (aw X scope N C s0 H0 fp) kx tk) (hv:∀C s0 H0 fp,PE (aw X scope N C s0 H0 fp) vx tv) (hs:∀x,foldedSetIterable iter X.env x=pure x:=by intro _;rfl) :
  PE X (.DictComp kx vx [⟨tg,iter,ifs,0⟩] scope pos) (tDc wi g tt tk tv ix):=by
 intro pins s σ H Q I h
 show wpAny _ X.A (comprehension (.DictComp kx vx [⟨tg,iter,ifs,0⟩] scope pos) scope X.env _ newDict false (eval iter X.env)) _ _ s
 refine wpAny_comprehension_free (use:=none) rfl hs (L.clos I.ok) L.kind L.locals (thn (hi pins s σ H _ I h) fun v s1 h1=>thn h1 fun itv s2 h2=>?_)
 obtain⟨it,fp,tn,J,H2,rfl,I2,T,st2,f2,hW⟩:=h2
 refine og (RR:=fun acc C=>compPost (model X.prog X.w) X.A X.xe none (EP X pins σ Q) acc C) L hc hu hg ht hk hv I2 T st2 f2 hW ?_
 intro D C s' m H' hn ho hC hI fin
 exact⟨m,hn,fun h' hs'=>⟨.ref D,_,hI h' hs',rfl,fin⟩⟩
theorem Inv.thaw {pins:List (Addr×Obj)}{σ:St}{H:Hp}{s:Shared}{a:Addr}{o:Obj}{u:HO} (I:Inv X pins σ H s) (e:H a=some (.frz o u)) (h0:∀o u,X.H₀ a≠some (.frz o u)) (hx:∀xs,u≠.tup xs) (hy:∀y,u≠.own y):Inv X pins σ (upd H a u) s:=by
 have ne:∀b v,H b=some v->(∀o u,v≠.frz o u)->b≠a:=fun b v q n z=>by
  rw [z,e] at q
  cases q
  exact n _ _ rfl
 have st:∀{b:Addr}{v:HO},aJ X.prog X.w H s.heap b v->aJ X.prog X.w (upd H a u) s.heap b v:=fun x=>x.stay (fun _ _ _ q=>q) (fun b q=>by rw [aq (ne b _ q (by intro k l z;cases z))];exact q) fun b xs q=>by rw [aq (ne b _ q (by intro k l z;cases z))];exact q
 have hok:HOk X.prog X.w (upd H a u) s.heap:=fun b v q=>by
  by_cases hb:b=a
  ·subst hb
   rw [ak] at q
   cases q
   exact st (I.hok b _ e).2
  ·rw [aq hb] at q
   exact st (I.hok b v q)
 have fr:∀b,H b=none->upd H a u b=none:=fun b n=>by rw [aq (fun z=>by rw [z,e] at n;cases n)];exact n
 exact⟨I.ok,I.os,I.bare,⟨I.base.keep,I.base.slot,fun b o q n hx=>fr b (I.base.free b o q n hx),I.base.there,
  fun b xs q=>by rw [aq (ne b _ (I.base.tups b xs q) (by intro k l z;cases z))];exact I.base.tups b xs q,
  fun b o' v q=>by rw [aq (fun z=>h0 o' v (by rw [<- z];exact q))];exact I.base.frzs b o' v q,
  fun b ps q=>by
   obtain⟨m,e'⟩:=I.base.tbls b ps q
   exact⟨m,by rw [aq (ne b _ e' (by intro k l z;cases z))];exact e'⟩⟩,I.loc,I.cell,fr _ I.free,fun x c q=>fr c (I.freeC x c q),fun p hp=>by
  obtain⟨a1,a2,a3⟩:=I.pin p hp
  exact⟨a1,fr _ a2,a3⟩,hok,I.len⟩
end
noncomputable def iOr (t u:TI):TI:=fun σ H R=>t σ H R\/u σ H R
theorem o7 {X:Cx}{tg l:Expr}{t u:TI} (h1:PI X tg l t) (h2:PI X tg l u):PI X tg l (iOr t u):=fun pins s σ H R I h =>
 h.elim (h1 pins s σ H R I) (h2 pins s σ H R I)
theorem mB {K:PySem.W.Frag}{tl:TE}{g:TG}{tb:TS}{D:Ends}{σ:St}{H Hb:Hp}{a:Addr}{xs:List V} (htl:∀Q:VK,Q (.ref a) H->tl σ H Q) (hb:Hb a=some (.lst xs)\/Hb a=some (.tup xs)) (s0:ai Hb H) (Pv:Nat->St->Hp->Prop) (h0:Pv 0 σ H) (hl:∀i σ' H',i<=xs.length->Pv i σ' H'->ai Hb H')
  (hs:∀i x σ H,xs[i]?=some x->Pv i σ H->g x σ H fun σ2 H2=>tb { D with nx:=Pv (i + 1),ct:=Pv (i + 1),bk:=D.nx } σ2 H2) (hd:∀σ H,Pv xs.length σ H->D.nx σ H):pT (iOr (oZ K tl) (pe K tl)) g tb D σ H:=by
 rcases hb with hb | hb
 ·exact .inl (htl _ ⟨a,rfl,⟨xs,SqL.of (s0 _ _ hb)⟩,gs Pv h0 (fun i σ H' hi p=>SqL.of (hl i σ H' hi p _ _ hb)) hs hd⟩)
 ·exact .inr (htl _ ⟨a,rfl,⟨xs,SqT.of (s0 _ _ hb)⟩,vV Pv h0 (fun i σ H' hi p=>SqT.of (hl i σ H' hi p _ _ hb)) hs hd⟩)
theorem uq {g:TG}{tt:TT}{te:TE}{σ':St}{fin:List V->Hp->Prop}{H1:Hp}{a:Addr}{o:Obj}{kvs:List (List Key×V)} (hn:kvs.length < sizeLine) (Pv:Nat->List V->St->Hp->Prop) (h0:Pv 0 [] σ' H1) (hl:∀i ys σ H,i<=kvs.length->Pv i ys σ H->ys.length<=i/\H a=some (.frz o (.dT kvs)))
  (hs:∀i p b ys σ H,kvs[i]?=some p->H b=some (.tup (p.1.map kV))->Pv i ys σ H->g (.ref b) σ H fun σ2 H2=>tt σ2 H2 fun b H3=>if b=true then te σ2 H3 (fun v H4=>Pv (i + 1) (ys++[v]) σ2 H4) else Pv (i + 1) ys σ2 H3) (hd:∀ys σ H,Pv kvs.length ys σ H->fin ys H) :
  LcW (Itd a o) g tt te σ' fin H1:=by
 refine⟨fun i m ys σ H=>m=kvs.length - i/\i<=kvs.length/\Pv i ys σ H,⟨kvs.length,by simp,Nat.zero_le _,h0⟩,?_⟩
 rintro i m ys σ H ⟨rfl,hi,p⟩
 obtain⟨q0,q1⟩:=hl i ys σ H hi p
 by_cases h:i < kvs.length
 ·refine .inr ⟨⟨kvs,q1,h⟩,by omega,fun ys' σ2 H2=>Pv (i + 1) ys' σ2 H2,fun ys' σ2 H2 q=>⟨kvs.length - (i + 1),by omega,rfl,h,q⟩,fun v H' y=>?_⟩
  obtain⟨rfl,y⟩:=y
  obtain⟨p',b,e1,rfl,e2⟩:=y kvs q1
  exact hs i p' b ys σ H' e1 e2 p
 ·have e:i=kvs.length:=by omega
  subst e
  exact .inl ⟨⟨kvs,q1,Nat.le_refl _⟩,by omega,hd ys σ H p⟩
theorem uo {a:Addr}{o:Obj}{kvs:List (List Key×V)}{g:TG}{tb:TS}{D:Ends}{σ:St}{H:Hp} (Pv:Nat->St->Hp->Prop) (h0:Pv 0 σ H) (hl:∀i σ H,i<=kvs.length->Pv i σ H->H a=some (.frz o (.dT kvs)))
  (hs:∀i p b σ H,kvs[i]?=some p->H b=some (.tup (p.1.map kV))->Pv i σ H->g (.ref b) σ H fun σ2 H2=>tb { D with nx:=Pv (i + 1),ct:=Pv (i + 1),bk:=D.nx } σ2 H2) (hd:∀σ H,Pv kvs.length σ H->D.nx σ H) :
  ∃W:Nat->Nat->St->Hp->Prop,(∃m,W 0 m σ H)/\∀i m σ H,W i m σ H ->
   ((Itd a o).stop i H/\D.nx σ H)\/((Itd a o).go i H/\∃N:St->Hp->Prop,(∀σ' H',N σ' H'->∃m',m' < m/\W (i + 1) m' σ' H')/\∀x H',(Itd a o).yld i H x H'->g x σ H' fun σ2 H2=>tb { D with nx:=N,ct:=N,bk:=D.nx } σ2 H2):=by
 refine⟨fun i m σ H=>m=kvs.length - i/\i<=kvs.length/\Pv i σ H,⟨kvs.length,by simp,Nat.zero_le _,h0⟩,?_⟩
 rintro i m σ H ⟨rfl,hi,p⟩
 have q:=hl i σ H hi p
 by_cases hlt:i < kvs.length
 ·refine .inr ⟨⟨kvs,q,hlt⟩,Pv (i + 1),fun σ' H' p'=>⟨kvs.length - (i + 1),by omega,rfl,hlt,p'⟩,fun x H' y=>?_⟩
  obtain⟨e,y⟩:=y
  subst e
  obtain⟨p',b,e1,rfl,e2⟩:=y kvs q
  exact hs i p' b σ _ e1 e2 p
 ·have e:i=kvs.length:=by omega
  subst e
  exact .inl ⟨⟨kvs,q,Nat.le_refl _⟩,hd σ H p⟩
end L2
namespace L2
open PySem PySem.Spec PyProof.Rows PySem.W PySem.Calls
open Builtin
theorem vI (l:Addr) (items:Array Value) (n:Nat) (o:Obj) (x:Int) (u:Tok) (hc:o.cls=.type "tuple") (hd:o.data=.seq items n) (h1:0<=x) (h2:x<=1000) (h0:items.isEmpty=false) (hz:items.size<=1000) :
  Meets (Builtin.«tuple.__mul__» ⟨[.ref l,.int x u],[]⟩) (fun _ R s=>s.heap.get? l=some o/\(x=1->R (.ok (.ret (Value.ref l))) s)/\(x≠1->R (.ok (.ret (Value.ref s.heap.objs.size))) { s with heap:=s.heap.push { cls:=Value.type "tuple",data:=Data.seq (List.foldl (fun x1 x2=>x1++x2) #[] (List.replicate x.toNat items)) },toks:=s.toks })) :=
 .of_wp fun prog w A R s h=>by
  obtain⟨hp,g,d,tk,os⟩:=s
  obtain⟨hl,k1,k2⟩:=h
  have c1:(decide (x < -(2 ^ 63)) || decide (x ≥ 2 ^ 63))=false:=by simp;omega
  have hT:(⟨hp,g,d,tk,os⟩:Shared).TypeIs (.ref l) "tuple":=⟨o,hl,hc⟩
  unfold Builtin.«tuple.__mul__»
  wp_walk
  rw [if_neg (by rw [c1];exact Bool.false_ne_true)]
  have itm:∀{Q:Array Value->Shared->Prop}{E:Value->Shared->Prop},Q items ⟨hp,g,d,tk,os⟩->wpAny (model prog w) A.in1 (Tuple.tupleItemsOf (.ref l)) Q E ⟨hp,g,d,tk,os⟩:=fun q=>by
   unfold Tuple.tupleItemsOf
   refine wpAny_bind ?_
   unfold seqItems?
   refine wpAny_bind (wpAny_load hl ?_)
   rw [hd]
   exact wpAny_pure (wpAny_pure q)
  refine wpAny_bind (itm ?_)
  rw [h0]
  by_cases c:x=1
  ·subst c
   rw [if_pos (by rfl)]
   wp_walk
   exact⟨_,rfl,k1 rfl⟩
  ·rw [if_neg (by simpa using c)]
   by_cases c0:x=0
   ·subst c0
    rw [if_pos (by rfl)]
    wp_walk
    refine⟨_,rfl,?_⟩
    exact k2 c
   ·have hp1:¬ ((decide (x<=0) || false)=true):=by simp;omega
    have hb:(items.size:Int) * x<=1000 * 1000:=Int.mul_le_mul (by omega) h2 h1 (by decide)
    rw [if_neg hp1,if_neg (by omega),if_neg (by unfold Tuple.tupleTooMany;simp;rw [sizeLine_eq];omega)]
    unfold Tuple.tupleExact
    refine wpAny_bind (wpAny_newObj_type ?_ ?_)
    ·exact wpAny_pure ⟨_,rfl,k2 c⟩
    ·have e:=foldl_rep items.toList x.toNat []
     rw [List.nil_append] at e
     have e':List.foldl (fun x1 x2:Array Value=>x1++x2) #[] (List.replicate x.toNat items)=(List.replicate x.toNat items.toList).flatten.toArray:=by
      rw [<- e]
     rw [e']
     show (List.replicate x.toNat items.toList).flatten.toArray.size<=sizeLine
     have hx:x.toNat<=1000:=by omega
     rw [List.size_toArray,len_rep,sizeLine_eq]
     have:=Nat.mul_le_mul hx (show items.toList.length<=1000 by simpa using hz)
     omega
theorem p6:fillsNumberSlot (.type "tuple") "mul"=pure false :=
 PySem.fillsNumberSlot_seq (id:="tuple.__mul__") (r:=some (.builtin "tuple.__rmul__")) F.slot_tuple_mul.lookup (by decide +kernel) F.slot_tuple_rmul.lookup (by decide +kernel)
theorem qx:seqRepeat? (.type "tuple")=pure (some (.builtin "tuple.__mul__")):=by
 unfold seqRepeat?
 have e1:=PySem.seqSlot_of (T:="tuple") (name:="__mul__") (id:="tuple.__mul__") F.slot_tuple_mul.lookup (by decide +kernel)
 have e2:=PySem.seqSlot_of (T:="tuple") (name:="__rmul__") (id:="tuple.__rmul__") F.slot_tuple_rmul.lookup (by decide +kernel)
 rw [e1,e2];rfl
theorem rL (a:Int) (t:Tok) (l:Addr) (o:Obj) (its:Array Value) (n:Nat) (hc:o.cls=.type "tuple") (hd:o.data=.seq its n) :
  Meets (Builtin.«int.__rmul__» ⟨[.int a t,.ref l],[]⟩) (fun _ R s=>s.heap.get? l=some o/\R (.ok (.ret Value.notImplemented)) s) :=
 .of_wp fun prog w A R s h=>by
  obtain⟨hp,g,d,tk,os⟩:=s
  obtain⟨hl,h⟩:=h
  have hT:(⟨hp,g,d,tk,os⟩:Shared).TypeIs (.ref l) "tuple":=⟨o,hl,hc⟩
  wp_walk
  rw [hd]
  wp_walk
  exact⟨_,rfl,h⟩
noncomputable def xG:R2:=fun x y H Q=>∃l k xs,x=.ref l/\y=.int k/\H l=some (.tup xs)/\xs≠[]/\xs.length<=1000/\0<=k/\k<=1000/\(k=1->Q (.ref l) H)/\(k≠1->∀p,H p=none->Q (.ref p) (upd H p (.tup (List.replicate k.toNat xs).flatten)))
theorem v6 {X:Cx}:OpR X (binaryOp .Mult) xG:=by
 intro pins s σ H x y v u Q I rx ry h
 obtain⟨l,k,xs,rfl,rfl,hH,hne,hz,h1,h2,q1,q2⟩:=h
 cases rx
 obtain⟨t,rfl⟩:=ry
 obtain⟨_,its,r,o,e,hc,n,hd⟩:=(show aJ X.prog X.w H s.heap l (.tup xs) from I.hok l _ hH)
 have hl:=r.length
 have h0:its.toArray.isEmpty=false:=by
  cases its with
  | nil=>cases xs with
   | nil=>exact absurd rfl hne
   | cons _ _=>cases hl
  | cons _ _=>rfl
 have hnew:List.foldl (fun x1 x2:Array Value=>x1++x2) #[] (List.replicate k.toNat its.toArray)=(List.replicate k.toNat its).flatten.toArray:=by
  have:=foldl_rep its k.toNat []
  rw [List.nil_append] at this
  exact this
 refine wpAny_binaryOp_repeat_ref (T:="tuple") (U:="int") (by decide) ⟨_,e,hc⟩ (fun s'=>typeIs_int s' k t) p6 F.fills_int_mul F.slot_int_rmul qx F.slot_int_index.lookup
  (call_meets F.slot_int_rmul (typeIs_int s k t) F.entry_int_rmul (F.args_int_rmul_2 _ _) (rL k t l o _ n hc hd)
   ⟨e,rfl,⟨_,e,hc⟩,call_meets F.slot_tuple_mul ⟨_,e,hc⟩ F.entry_tuple_mul (F.args_tuple_mul_2 _ _) (vI l its.toArray n o k t hc hd h1 h2 h0 (by rw [List.size_toArray];omega)) ⟨e,fun c=>?_,fun c=>?_⟩⟩)
 ·exact⟨.ref l,H,I,rfl,q1 c⟩
 ·rw [hnew]
  have hb:(List.replicate k.toNat xs).flatten.length<=sizeLine:=by
   have hx:k.toNat<=1000:=by omega
   rw [len_rep,sizeLine_eq]
   have:=Nat.mul_le_mul hx hz
   omega
  refine⟨.ref s.heap.objs.size,_,I.laid (a:=s.heap.objs.size) (o:=.tup (List.replicate k.toNat xs).flatten) (t':=s.toks) (fun b u q=>Heap.get?_push_of_some _ q) (Nat.le_refl _) ⟨hb,_,r.rep k.toNat,?_⟩,rfl,q2 c _ (I.hok.fresh (Nat.le_refl _))⟩
  exact⟨_,Heap.get?_push_size _ rfl,rfl,0,rfl⟩
noncomputable def oN:R2:=fun x y H Q=>∃l k xs,x=.ref l/\y=.int k/\H l=some (.tup xs)/\xs≠[]/\xs.length<=1000/\0<=k/\k<=1000/\∀p H',ai H H'->H' p=some (.tup (List.replicate k.toNat xs).flatten)->Q (.ref p) H'
theorem v8 {X:Cx}:OpR X (binaryOp .Mult) oN:=by
 intro pins s σ H x y v u Q I rx ry h
 obtain⟨l,k,xs,h1,h2,hH,hne,hz,h3,h4,q⟩:=h
 refine v6 pins s σ H x y v u Q I rx ry ⟨l,k,xs,h1,h2,hH,hne,hz,h3,h4,fun c=>q l H (ai.refl H) ?_,fun c p hp=>q p _ (fun b o e=>by rw [aq (bu e hp)];exact e) ak⟩
 subst c
 rw [hH]
 simp
end L2
namespace L2
open PySem PySem.Spec PyProof.Rows
open AutoSeq1 (wpAny_loadPart')
section
variable {prog:Program}{w:World}{A:Around}{E:Value->Shared->Prop}{s:Shared}
theorem oE (hh:A.handled=none) (it t:Addr) (ne:t≠it) (its:Array Value):Draws prog w A it [it,t] its.size (fun i v=>its[i]?=some v) (fun i h=>h.IsTupleIter it t i/\h.IsTuple t its) where
 live:=fun _ _ st=>let ⟨o,ho,_⟩:=st.1;⟨o,ho⟩
 frame:=fun _ _ _ st k=>⟨st.1.at fun o e=>k it (by simp) o e,st.2.at fun o e=>k t (by simp) o e⟩
 item:=fun i s Q E hi st q=>vq st.1 st.2 (v:=its[i]) (by simp [hi]) fun G j b=>q _ G s.toks (by simp [hi]) ⟨j,st.2.extBut b.extBut ne⟩ b
 done:=fun s Q E st k=>xc hh st.1 st.2 (by simp) k
theorem uD (t:Addr) (its:Array Value):Meets (Builtin.«enumerate.__new__» ⟨[.type "enumerate",.ref t],[]⟩) (fun _ R s=>s.heap.IsTuple t its /\
   R (.ok (.ret (.ref (s.heap.push { cls:=.type "tuple_iterator",data:=.fields #[.ref t,.int 0 0] }).objs.size)))
    { s with heap:=(s.heap.push { cls:=.type "tuple_iterator",data:=.fields #[.ref t,.int 0 0] }).push { cls:=.type "enumerate",data:=.fields #[.none,.bool false,.ref s.heap.objs.size,rawInt 0,.none,.none] } }) :=
 .of_wp fun prog w A R s h=>by
  obtain⟨hp,g,d,tk,os⟩:=s;obtain⟨hT,h⟩:=h
  have sb:=sub_enumerate;obtain⟨o,ho,_⟩:=id hT
  wp_walk using wpAny_loadPart' ho
  refine wpAny_stack_any fun st=>wpAny_pure ?_
  split
  ·rename_i c _ _ _ _ _
   cases (c == Value.type "enumerate") <;> (wp_walk using wpAny_loadPart' ho,wpAny_pyIter_tuple hT;exact⟨_,rfl,h⟩)
  ·wp_walk using wpAny_loadPart' ho,wpAny_pyIter_tuple hT;exact⟨_,rfl,h⟩
theorem wa {t:Addr}{its:Array Value}{Q:Value->Shared->Prop} (hT:s.heap.IsTuple t its)
  (q:∀G,IsEnum G (s.heap.objs.size + 1) s.heap.objs.size 0 .none->G.IsTupleIter s.heap.objs.size t 0->(∀c o,s.heap.get? c=some o->G.get? c=some o)->Q (.ref (s.heap.objs.size + 1)) { s with heap:=G }) :
  wpAny (model prog w) A (call (.type "enumerate") [.ref t]) Q E s:=by
 refine callType_new F.called_enumerate (by decide) (F.typeCall_enumerate_1 _) (F.newCall_enumerate_1 _) (fun obj=>F.args_object_init_2 obj _) F.entry_enumerate_new (uD t its) ⟨hT,?_⟩
 have z:(s.heap.push { cls:=.type "tuple_iterator",data:=.fields #[.ref t,.int 0 0] }).objs.size=s.heap.objs.size + 1:=Heap.size_push ..
 have g2:=Heap.get?_push_size (s.heap.push { cls:=.type "tuple_iterator",data:=.fields #[.ref t,.int 0 0] }) (o:={ cls:=.type "enumerate",data:=.fields #[.none,.bool false,.ref s.heap.objs.size,rawInt 0,.none,.none] }) rfl
 show _/\_
 rw [z] at g2 ⊢
 exact⟨⟨_,g2,rfl⟩,q _ g2 ⟨_,Heap.get?_push_of_some _ (Heap.get?_push_size _ rfl),rfl,rfl⟩ fun c o e=>Heap.get?_push_of_some _ (Heap.get?_push_of_some _ e)⟩
end
noncomputable def ItT (K:PySem.W.Frag) (a:Addr):It :=
 ⟨fun i H=>∃xs x,SqT K H a xs/\xs[i]?=some x,
  fun i H v H'=>∃T x,v=.ref T/\H T=none/\H'=upd H T (.tup [.int i,x])/\∀xs,SqT K H a xs->xs[i]?=some x,
  fun i H=>∃xs,SqT K H a xs/\xs.length=i⟩
noncomputable def yh (e it l:Addr) (i:Nat) (h:Heap):Prop:=(∃old,IsEnum h e it i old)/\h.IsTupleIter it l i
theorem wj {P:Program}{w:World}{K:PySem.W.Frag}{elts:List Expr}{x1}{pos:Pos} (e it l:Addr) (hei:e≠it) (hle:l≠e) (hli:l≠it) :
  Turn P w K (.Tuple elts x1 pos) (ItT K l) [e,it] e (yh e it l) where
 mem:=by simp
 obj:=fun i h st b hb=>by
  obtain⟨⟨old,he⟩,⟨o1,e1,c1,d1⟩⟩:=st
  simp only [List.mem_cons,List.not_mem_nil,or_false] at hb
  rcases hb with rfl | rfl
  ·exact⟨_,he,fun v q=>by cases q⟩
  ·exact⟨_,e1,fun v q=>by rw [d1] at q;cases q⟩
 keep:=fun i h h' st k=>by
  obtain⟨⟨old,he⟩,h1⟩:=st
  exact⟨⟨old,k e (by simp) _ he⟩,h1.at fun o q=>k it (by simp) o q⟩
 item:=by
  intro X hP hw hK hc i pins s σ H E I hf st hg
  subst hP hw hK
  obtain⟨xs,x,hq1,hx⟩:=hg
  obtain⟨⟨old,he⟩,h1⟩:=id st
  obtain⟨its1,rv1,p1,hz1⟩:=I.tuple hq1
  obtain⟨u1,hu1,ru1⟩:=rv1.get hx
  have hlt:i < its1.toArray.size:=by
   have:=(List.getElem?_eq_some_iff.mp hu1).1
   simpa using this
  refine wpAny_pyNext_enum_itemD (oE (A:=X.A.in1) (I.ok.hd hc) it l hli its1.toArray) he ⟨h1,p1⟩ hlt hei (by simp [hei,hle.symm]) fun x' h' tk hx' a1 a2 a3 a4 a5=>?_
  have ex:x'=u1:=by
   have:its1.toArray[i]?=some u1:=by simpa using hu1
   exact Option.some.inj (hx'.symm.trans this)
  subst ex
  refine⟨_,rfl,wpAny_letOwnedTupleGo_enum (s:={ s with heap:=h',toks:=tk + 1 }) a1 fun h'' z2 sb=>?_⟩
  have sb':=sb.extBut
  generalize hT:s.heap.objs.size=T at *
  have lt:∀{b:Addr}{o:Obj},s.heap.get? b=some o->b≠T:=fun {b o} e=>by rw [<- hT];exact Nat.ne_of_lt (Heap.lt_size e)
  have fresh:H T=none:=by rw [<- hT];exact I.hok.fresh (Nat.le_refl _)
  have hne:∀b∈[e,it],b≠T:=fun b hb=>by
   obtain⟨o1,e1,_⟩:=h1
   simp only [List.mem_cons,List.not_mem_nil,or_false] at hb
   rcases hb with rfl | rfl
   ·exact lt he
   ·exact lt e1
  have I0:Inv X pins σ (upd H T (.tup [.int i,x])) { s with heap:=s.heap.push { cls:=.type "tuple",data:=.seq #[.int i tk,x'] },toks:=s.toks }:=by
   subst hT
   exact I.laid (t':=s.toks) (fun b o q=>Heap.get?_push_of_some _ q) (Nat.le_refl _) ⟨by show 2<=sizeLine;decide,[.int i tk,x'],.cons ⟨_,rfl⟩ (.cons ru1 .nil),_,Heap.get?_push_size _ rfl,rfl,0,rfl⟩
  have up:∀b o,b∉[e,it]->(s.heap.push { cls:=.type "tuple",data:=.seq #[.int i tk,x'] }).get? b=some o->h''.get? b=some o:=fun b o hb q=>by
   simp only [List.mem_cons,List.not_mem_nil,or_false,not_or] at hb
   rcases Heap.get?_push_cases q with ⟨e1,e2⟩ | e1
   ·subst e2
    rw [e1,hT]
    exact sb' _ _ (hne e (by simp)).symm a3
   ·exact sb' _ _ hb.1 (a5 b o hb.1 hb.2 e1)
  have I2:Inv X pins σ (upd H T (.tup [.int i,x])) { s with heap:=h'',toks:=tk + 1 }:=Inv.turnedS (s:={ s with heap:=s.heap.push { cls:=.type "tuple",data:=.seq #[.int i tk,x'] },toks:=s.toks }) (t':=tk + 1) (ch:=[e,it]) I0 up fun b hb=>by
   obtain⟨f0,f1⟩:=hf b hb
   exact⟨by rw [aq (hne b hb)];exact f0,f1⟩
  exact⟨.ref T,upd H T (.tup [.int i,x]),I2,rfl,⟨T,x,rfl,fresh,rfl,fun ws hw=>by rw [I.tuple_inj hw hq1];exact hx⟩,
   ⟨⟨_,by simpa using z2⟩,a2.1.at fun o q=>sb' _ _ hei.symm q⟩,fun b hb=>by rw [aq (hne b hb)];exact (hf b hb).1⟩
 done:=by
  intro X hP hw hK hc i pins s σ H E I hf st hg
  subst hP hw hK
  obtain⟨xs,hq1,hx⟩:=hg
  obtain⟨⟨old,he⟩,h1⟩:=id st
  obtain⟨its1,rv1,p1,hz1⟩:=I.tuple hq1
  have hl1:=rv1.length
  have en:i=its1.toArray.size:=by simp;omega
  subst en
  refine wpAny_pyNext_enum_endD (oE (A:=X.A.in1) (I.ok.hd hc) it l hli its1.toArray) he ⟨h1,p1⟩ fun h' hk=>⟨rfl,I.turnedS (t':=s.toks) (ch:=[e,it]) (fun b o hb q=>?_) hf⟩
  simp only [List.mem_cons,List.not_mem_nil,or_false,not_or] at hb
  exact hk b o hb.2 q
 self:=fun _ _ _ _ _ st h=>by obtain⟨⟨old,he⟩,_⟩:=st;exact wpAny_pyIter_enum he h
section
variable {X:Cx}
noncomputable def yx (K:PySem.W.Frag) (ta:TA):TI:=fun σ H R=>ta σ H fun vs H1=>∃a xs,vs=[.ref a]/\SqT K H1 a xs/\R (ItT K a) H1
theorem wX {a:Expr}{elts:List Expr}{x1}{tpos:Pos}{ta:TA}{p pos:Pos} (hg:Gl X "enumerate") (hm:X.mg "enumerate"=none) (ha:PA X [a] ta) (hs:starEach [a] X.env=[(false,eval a X.env)]:=by rfl) :
  PI X (.Tuple elts x1 tpos) (.Call (.Name "enumerate" p) [a] [] pos) (yx X.K ta):=by
 intro pins s σ H R I h
 refine Call_ (fi I hg hm sD (PyProof.Rows.callWith_type1 (thn (ha pos pins s σ H _ I h) fun us s1 ⟨vs,H1,I1,r1,q1⟩=>?_) (by rw [hs];rfl) rfl))
 obtain⟨a',xs,rfl,hq1,q⟩:=q1
 obtain⟨u1,rfl,ra⟩:=vals1 r1
 cases ra
 obtain⟨its1,rv1,p1,hz1⟩:=I1.tuple hq1
 have hlt:a' < s1.heap.objs.size:=by obtain⟨o,ho,_⟩:=id p1;exact Heap.lt_size ho
 refine wa p1 fun G he hit hk=>wpAny_pyIter_enum he ?_
 refine⟨s1.heap.objs.size + 1,[s1.heap.objs.size + 1,s1.heap.objs.size],_,_,H1,rfl,I1.kept (t':=s1.toks) hk,wj _ _ _ (Nat.succ_ne_self _) (Nat.ne_of_lt (Nat.lt_succ_of_lt hlt)) (Nat.ne_of_lt hlt),⟨⟨_,he⟩,hit⟩,fun b hb=>?_,q⟩
 have hle:s1.heap.objs.size<=b:=by
  simp only [List.mem_cons,List.not_mem_nil,or_false] at hb
  rcases hb with rfl | rfl
  ·exact Nat.le_add_right _ _
  ·exact Nat.le_refl _
 exact I1.fpOk hle (I1.hok.fresh hle)
end
end L2
namespace L2
open PySem
noncomputable def xD (H0:Hp) (t:TS):TS:=fun D σ H=>t { D with nx:=fun σ' H'=>∃a o kvs,H' a=some (.frz o (.dT kvs))/\(∀o u,H0 a≠some (.frz o u))/\D.nx σ' (upd H' a (.dT kvs)) } σ H
theorem vM {X:Cx}{st:Stmt}{t:TS} (h:PS X st t):PS X st (xD X.H₀ t):=fun pins s σ H D I q=>thn (h pins s σ H _ I q) fun f s1 p=>by
 cases f with
 | next =>
  obtain⟨σ',H',I',a,o,kvs,e,h0,d⟩:=p
  exact⟨σ',_,I'.thaw e h0 (fun _ z=>by cases z) (fun _ z=>by cases z),d⟩
 | _=>exact p
theorem vw {K:PySem.W.Frag}{a:Addr}{xs:List V}{g:TG}{tb:TS}{D:Ends}{σ:St}{H:Hp} (Pv:Nat->St->Hp->Prop) (h0:Pv 0 σ H) (hl:∀i σ H,i<=xs.length->Pv i σ H->SqT K H a xs)
  (hs:∀i x σ H T,xs[i]?=some x->Pv i σ H->H T=none->g (.ref T) σ (upd H T (.tup [.int i,x])) fun σ2 H2=>tb { D with nx:=Pv (i + 1),ct:=Pv (i + 1),bk:=D.nx } σ2 H2) (hd:∀σ H,Pv xs.length σ H->D.nx σ H) :
  ∃W:Nat->Nat->St->Hp->Prop,(∃m,W 0 m σ H)/\∀i m σ H,W i m σ H ->
   ((ItT K a).stop i H/\D.nx σ H)\/((ItT K a).go i H/\∃N:St->Hp->Prop,(∀σ' H',N σ' H'->∃m',m' < m/\W (i + 1) m' σ' H')/\∀x H',(ItT K a).yld i H x H'->g x σ H' fun σ2 H2=>tb { D with nx:=N,ct:=N,bk:=D.nx } σ2 H2):=by
 refine⟨fun i m σ H=>m=xs.length - i/\i<=xs.length/\Pv i σ H,⟨xs.length,by simp,Nat.zero_le _,h0⟩,?_⟩
 rintro i m σ H ⟨rfl,hi,p⟩
 have q:=hl i σ H hi p
 by_cases hlt:i < xs.length
 ·refine .inr ⟨⟨xs,xs[i],q,by simp [hlt]⟩,Pv (i + 1),fun σ' H' p'=>⟨xs.length - (i + 1),by omega,rfl,hlt,p'⟩,fun x H' y=>?_⟩
  obtain⟨T,x',rfl,hT,rfl,e1⟩:=y
  exact hs i x' σ H T (e1 xs q) p hT
 ·have e:i=xs.length:=by omega
  subst e
  exact .inl ⟨⟨xs,q,rfl⟩,hd σ H p⟩
end L2
namespace L2
open PySem PySem.Spec PyProof.Rows
section
variable {X:Cx}
noncomputable def nI:V->List V->Hp->VK->Prop:=fun x vs H Q=>∃l xs k y,x=.ref l/\vs=[.int k,y]/\H l=some (.lst xs)/\xs.length < sizeLine/\0<=k/\k<=(xs.length:Int)/\Q .non (upd H l (.lst (xs.take k.toNat++y::xs.drop k.toNat)))
theorem lK:MtM X "list.insert" nI:=by
 intro pins s σ H x vs v us Q I rx rv h
 obtain⟨l,xs,k,y,rfl,rfl,hH,hz,h0,h1,q⟩:=h
 cases rx
 obtain⟨u,w,rfl,ru,rw'⟩:=vals2 rv
 obtain⟨t,rfl⟩:=ru
 obtain⟨z,its,n,r,hl,e⟩:=I.lstM hH
 have hs:=sizeLine_eq
 refine call_meets F.slot_list_insert ⟨_,e,rfl⟩ F.entry_list_insert (F.args_list_insert_3 _ _ _) (AutoSeq1.list_insert_list_int_val_1 l its.toArray n k t w (by rw [fitsIndex_both (k:=k) (by omega) (by omega)];exact Bool.false_ne_true) (by rw [List.size_toArray];omega)) ⟨e,?_⟩
 refine⟨.non,_,I.lset (its':=its.take k.toNat++w::its.drop k.toNat) hH e ?_ ((r.take _).append (.cons rw' (r.drop _))) ?_,rfl,q⟩
 ·have hk:¬ k < 0:=by omega
  have hm:min k.toNat its.length=k.toNat:=by omega
  simp only [List.size_toArray,hk,if_false,hm]
  apply Array.toList_inj.mp
  simp
  exact List.take_of_length_le (by rw [List.length_drop];omega)
 ·rw [List.length_append,List.length_cons,List.length_take,List.length_drop]
  omega
end
end L2
namespace L2
open PySem PySem.Spec PyProof.Rows PySem.W PySem.Calls
noncomputable def Hd0 (vs:Array Value) (a0:Value):Prop:=vs[0]?=some a0/\vs[2]?=some Value.none
noncomputable def gN (fl:Value) (h:Heap) (e T:Addr) (cls a0:Value) (dx:Option Addr):Prop:=∃oe vs oT ts,h.get? e=some oe/\oe.cls=cls/\Hd0 vs a0/\oe.data=Data.fields vs/\vs[1]?=some (Value.ref T)/\T≠e/\h.get? T=some oT/\oT.data=Data.fields ts/\ts[3]?=some fl/\oe.dict=dx
noncomputable abbrev Trc:Heap->Addr->Addr->Value->Value->Option Addr->Prop:=gN .none
noncomputable def CXE (P:Program) (w:World):CXT:=fun outer H s E e s'=>∃(ea T:Addr) (cls a0:Value) (dx:Option Addr) (H':Hp),e=.ref ea/\s'.os=s.os/\AllBare s'.gens/\Un (frs outer) [] H H' s.heap s'.heap/\HOk P w H' s'.heap/\s.heap.get? ea=none/\s.heap.get? T=none/\H' ea=none/\H' T=none/\Trc s'.heap ea T cls a0 dx/\E cls dx H'
theorem fq {h base:Heap}:∀{l:List Env},h.FunFrames base l->∀b∈frs l,∃o,h.get? b=some o/\∀vs:Array Value,o.data≠Data.fields vs
 | [],_,b,hb=>by simp [frs] at hb
 | e::l,k,b,hb=>by
  simp only [Heap.FunFrames] at k
  obtain⟨k1,⟨L,o,k2,k3,k4,k5⟩,k6⟩:=k
  unfold frs at hb
  rw [List.filterMap_cons,k2] at hb
  rcases List.mem_cons.mp hb with z | z
  ·rw [z];exact⟨o,k4,k5⟩
  ·exact fq k6 b z
theorem sr (o:Obj) (f:Array Value->Array Value):(o.mapFields f).dict=o.dict:=by
 obtain⟨c,d,dt,sl⟩:=o
 cases dt <;> rfl
structure Moved (fr:List Addr) (g:List Addr) (h h':Heap):Prop where
 keep:∀b o,h.get? b=some o->b∉fr->b∉g->h'.get? b=some o
 slot:∀b o,h.get? b=some o->b∈fr->∃sl,h'.get? b=some { o with slots:=sl }
section
variable {M:Model}{A:Around}{E:Value->Shared->Prop}{s:Shared}{env:Env}{outer:List Env}{L e T:Addr}{base:Heap}{cls a0:Value}{dx:Option Addr}{Q:Unit->Shared->Prop}
theorem nR {oe:Obj}{vs:Array Value}{head:Value}{had:Bool}
  (hf:A.frames=some (env::outer)) (ff:s.heap.FunFrames base (env::outer)) (hL:env.frame=some L) (he:s.heap.get? e=some oe) (hd:oe.data=Data.fields vs) (hz:1 < vs.size) (h0:Hd0 vs a0)
  (k:∀(h':Heap) (T':Addr),Moved (frs (env::outer)) [e] s.heap h'->s.heap.get? T'=none->gN (rawInt L) h' e T' oe.cls a0 oe.dict->Q () { s with heap:=h' }) :
  wpAny M A (do let a <- frameOf env;let pl <- entryPlaceOf L had;let b <- EntryCells.newEntry head a .none (rawInt L) .none pl;setField (.ref e) 1 b) Q E s:=by
 have efr:e∉frs (env::outer):=fun hm=>by
  obtain⟨o,q,nf⟩:=fq ff e hm
  rw [he] at q;cases q
  exact nf _ hd
 refine wpAny_bind (wpAny_frameOf_fun hf ff hL fun g1 so=>wpAny_bind (wpAny_entryPlaceOf fun pl hpl=>?_))
 unfold EntryCells.newEntry newFields
 refine wpAny_bind (wpAny_newObj_type ?_ (hpl.sizeOk5 _ _ _ _ _))
 generalize hob:({ cls:=.type "traceback",dict:=none,data:=.fields ([head,.ref L,.none,rawInt L,.none]++(if pl.isEmpty then List.replicate 6 Value.none else pl)).toArray }:Obj)=ob
 have obf:ob.isFreed=false:=by rw [<- hob];rfl
 have e1:g1.get? e=some oe:=(so.2.1 e efr).trans he
 have nz:g1.objs.size≠e:=Nat.ne_of_gt (Heap.lt_size e1)
 have e2:=Heap.get?_push_of_some (h:=g1) ob e1
 refine wpAny_setField e2 hd hz ?_
 have hd3:=Obj.data_mapFields hd (fun z=>z.setIfInBounds 1 (Value.ref g1.objs.size))
 have e3:=Heap.get?_update_self (Obj.mapFields fun z=>z.setIfInBounds 1 (Value.ref g1.objs.size)) e2 (Obj.isFreed_of_fields hd3)
 have fresh:s.heap.get? g1.objs.size=none:=by
  cases hc:s.heap.get? g1.objs.size with
  | none=>rfl
  | some o =>
   obtain⟨sl,q⟩:=so.2.2 _ o hc
   exact absurd (Heap.lt_size q) (Nat.lt_irrefl _)
 have up:∀b o,b≠e->g1.get? b=some o->((g1.push ob).update e (Obj.mapFields fun z=>z.setIfInBounds 1 (Value.ref g1.objs.size))).get? b=some o:=fun b o n q=>by
  rw [Heap.get?_update_other _ _ (Ne.symm n)]
  exact Heap.get?_push_of_some _ q
 refine k _ g1.objs.size ⟨fun b o q hb hg=>up b o (fun z=>hg (by simp [z])) ((so.2.1 b hb).trans q),fun b o q hb=>?_⟩ fresh ⟨_,_,ob,_,e3,Obj.cls_mapFields _ _,?_,hd3,?_,nz,?_,by rw [<- hob],?_,sr _ _⟩
 ·obtain⟨sl,q1⟩:=so.2.2 b o q
  exact⟨sl,up b _ (fun z=>efr (z ▸ hb)) q1⟩
 ·exact⟨by rw [Array.getElem?_setIfInBounds_ne (by decide)];exact h0.1,by rw [Array.getElem?_setIfInBounds_ne (by decide)];exact h0.2⟩
 ·simp [hz]
 ·rw [Heap.get?_update_other _ _ (Ne.symm nz)]
  exact Heap.get?_push_size g1 obf
 ·first | (simp;done) | (rcases hpl with rfl | ⟨_,_,_,_,_,_,_,rfl⟩ <;> simp)
theorem ground {fl:Value} (ht:gN fl s.heap e T cls a0 dx)
  (k:∀h':Heap,(∀b,b≠T->h'.get? b=s.heap.get? b)->Trc h' e T cls a0 dx->Q () { s with heap:=h' }) :
  wpAny M A (setFlight (.ref e) none) Q E s:=by
 obtain⟨oe,vs,oT,ts,h1,h2,h3,h4,h5,h6,h7,h8,h9,h10⟩:=ht
 have z3:3 < ts.size:=(Array.getElem?_eq_some_iff.mp h9).1
 unfold setFlight
 refine wpAny_bind (wpAny_field h1 h4 h5 ?_)
 rw [if_pos (show (Value.ref T != Value.none)=true from by simp)]
 refine wpAny_setField h7 h8 z3 (k _ (fun b n=>Heap.get?_update_other _ _ (Ne.symm n)) ?_)
 have d8:=Obj.data_mapFields h8 (fun z=>z.setIfInBounds 3 ((none:Option Addr).elim Value.none fun f=>rawInt f))
 exact⟨oe,vs,_,_,(Heap.get?_update_other _ _ h6).trans h1,h2,h3,h4,h5,h6,Heap.get?_update_self _ h7 (Obj.isFreed_of_fields d8),d8,by simp [z3],h10⟩
theorem uN {oe:Obj}{vs:Array Value} (hf:A.frames=some (env::outer)) (hL:env.frame=some L) (ff:s.heap.FunFrames base (env::outer)) (h1:s.heap.get? e=some oe) (h2:oe.data=Data.fields vs) (h3:vs[1]?=some Value.none) (h4:Hd0 vs a0)
  (k:∀(h':Heap) (T':Addr),Moved (frs (env::outer)) [e] s.heap h'->s.heap.get? T'=none->gN (rawInt L) h' e T' oe.cls a0 oe.dict->Q () { s with heap:=h' }) :
  wpAny M A (noteFrame (.ref e) env) Q E s:=by
 unfold noteFrame
 simp only [hL]
 refine wpAny_bind (wpAny_field h1 h2 h3 ?_)
 rw [if_neg (by decide)]
 exact nR hf ff hL h1 h2 (Array.getElem?_eq_some_iff.mp h3).1 h4 k
theorem lN (hf:A.frames=some (env::outer)) (hL:env.frame=some L) (ff:s.heap.FunFrames base (env::outer)) (ht:Trc s.heap e T cls a0 dx)
  (k:∀(h':Heap) (T':Addr),Moved (frs (env::outer)) [e,T] s.heap h'->s.heap.get? T'=none->gN (rawInt L) h' e T' cls a0 dx->Q () { s with heap:=h' }) :
  wpAny M A (noteFrame (.ref e) env) Q E s:=by
 obtain⟨oe,vs,oT,ts,h1,rfl,h3,h4,h5,h6,h7,h8,h9,rfl⟩:=ht
 unfold noteFrame
 simp only [hL]
 refine wpAny_bind (wpAny_field h1 h4 h5 ?_)
 rw [if_pos (show (Value.ref T != Value.none)=true from by simp)]
 refine wpAny_bind (wpAny_field h7 h8 h9 ?_)
 rw [if_neg (show ¬ ((Value.none == rawInt L)=true) from by simp [rawInt])]
 refine wpAny_bind (wpAny_setField h7 h8 (Array.getElem?_eq_some_iff.mp h9).1 ?_)
 have oth:∀b,b≠T->(s.heap.update T (Obj.mapFields fun z=>z.setIfInBounds 3 Value.none)).get? b=s.heap.get? b:=fun b n=>Heap.get?_update_other _ _ (Ne.symm n)
 have nT:∀b,b∈frs (env::outer)->b≠T:=fun b hb z=>by
  obtain⟨o,q,nf⟩:=fq ff b hb
  rw [z,h7] at q;cases q
  exact nf _ h8
 refine nR (s:={ s with heap:=s.heap.update T (Obj.mapFields fun z=>z.setIfInBounds 3 Value.none) }) hf (ff.of_keeps fun b o q nf=>⟨o,(oth b fun z=>?_).trans q,rfl⟩) hL ((oth e (Ne.symm h6)).trans h1) h4 (Array.getElem?_eq_some_iff.mp h5).1 h3 fun h' T' mv nw tr=>k h' T' ⟨fun b o q hb hg=>?_,fun b o q hb=>?_⟩ ?_ tr
 ·rw [z,h7] at q;cases q
  exact nf _ h8
 ·exact mv.keep b o ((oth b fun z=>hg (by simp [z])).trans q) hb fun z=>hg (by simp at z;simp [z])
 ·exact mv.slot b o ((oth b (nT b hb)).trans q) hb
 ·have z:T'≠T:=fun z=>by
   have d8:=Obj.data_mapFields h8 (fun z=>z.setIfInBounds 3 Value.none)
   have g7:=Heap.get?_update_self (Obj.mapFields fun z=>z.setIfInBounds 3 Value.none) h7 (Obj.isFreed_of_fields d8)
   have nw':(s.heap.update T (Obj.mapFields fun z=>z.setIfInBounds 3 Value.none)).get? T'=none:=nw
   rw [z,g7] at nw'
   cases nw'
  exact (oth T' z).symm.trans nw
theorem Moved.ground {fr g:List Addr}{h h' h'':Heap} (m:Moved fr g h h') (nT:h.get? T=none) (nf:∀b∈fr,∃o,h.get? b=some o) (k:∀b,b≠T->h''.get? b=h'.get? b):Moved fr g h h'' :=
 ⟨fun b o q hb hg=>(k b fun z=>by rw [z,nT] at q;cases q).trans (m.keep b o q hb hg),fun b o q hb=>by
  obtain⟨sl,e⟩:=m.slot b o q hb
  exact⟨sl,(k b fun z=>by rw [z,nT] at q;cases q).trans e⟩⟩
theorem qA (hf:A.frames=some (env::outer)) (hL:env.frame=some L) (ff:s.heap.FunFrames base (env::outer)) (ht:Trc s.heap e T cls a0 dx)
  (k:∀(h':Heap) (T':Addr),Moved (frs (env::outer)) [e,T] s.heap h'->s.heap.get? T'=none->Trc h' e T' cls a0 dx->Q () { s with heap:=h' }) :
  wpAny M A (leaving env (.ref e)) Q E s:=by
 unfold leaving
 refine wpAny_bind (lN hf hL ff ht fun h1 T1 mv nw tr=>ground tr fun h2 same tr2=>k h2 T1 (mv.ground nw (fun b hb=>let ⟨o,q,_⟩:=fq ff b hb;⟨o,q⟩) same) nw tr2)
theorem leave_new {oe:Obj}{vs:Array Value} (hf:A.frames=some (env::outer)) (hL:env.frame=some L) (ff:s.heap.FunFrames base (env::outer)) (h1:s.heap.get? e=some oe) (h2:oe.data=Data.fields vs) (h3:vs[1]?=some Value.none) (h4:Hd0 vs a0)
  (k:∀(h':Heap) (T':Addr),Moved (frs (env::outer)) [e] s.heap h'->s.heap.get? T'=none->Trc h' e T' oe.cls a0 oe.dict->Q () { s with heap:=h' }) :
  wpAny M A (leaving env (.ref e)) Q E s:=by
 unfold leaving
 refine wpAny_bind (uN hf hL ff h1 h2 h3 h4 fun g1 T1 mv nw tr=>ground tr fun g2 same tr2=>k g2 T1 (mv.ground nw (fun b hb=>let ⟨o,q,_⟩:=fq ff b hb;⟨o,q⟩) same) nw tr2)
theorem qE (hf:A.frames=some (env::outer)) (hL:env.frame=some L) (ff:s.heap.FunFrames base (env::outer)) (ht:Trc s.heap e T cls a0 dx)
  (k:∀(h':Heap) (T':Addr),Moved (frs (env::outer)) [e,T] s.heap h'->s.heap.get? T'=none->Trc h' e T' cls a0 dx->Q () { s with heap:=h' }) :
  wpAny M A (noteFrame (.ref e) env) (fun _ s2=>wpAny M A (setFlight (.ref e) none) (fun _ s3=>Q () s3) E s2) E s :=
 lN hf hL ff ht fun h1 T1 mv nw tr=>ground tr fun h2 same tr2=>k h2 T1 (mv.ground nw (fun b hb=>let ⟨o,q,_⟩:=fq ff b hb;⟨o,q⟩) same) nw tr2
end
theorem aJ.got {P:Program}{w:World}{H:Hp}{h:Heap}{a:Addr}{o:HO} (x:aJ P w H h a o):∃ob,h.get? a=some ob:=by
 cases o with
 | lst xs=>obtain⟨_,_,_,_,e⟩:=x;exact⟨_,e⟩
 | tup xs=>obtain⟨_,_,_,o,e,_⟩:=x;exact⟨_,e⟩
 | dK kvs=>obtain⟨_,_,_,_,o,_,_,e,_⟩:=x;exact⟨_,e⟩
 | dT kvs=>obtain⟨_,_,_,_,o,_,_,e,_⟩:=x;exact⟨_,e⟩
 | set S n=>obtain⟨o,_,_,_,e,_⟩:=x;exact⟨_,e⟩
 | ins C dx fs=>obtain⟨_,_,_,e,_⟩:=x;exact⟨_,e⟩
 | own y=>exact x
 | xd fs=>obtain⟨_,⟨_,_,_,e,_⟩,_⟩:=x;exact⟨_,e⟩
 | rng lo hi=>obtain⟨_,_,_,e⟩:=x;exact⟨_,e⟩
 | frz ob u=>obtain⟨e,_⟩:=x;exact⟨_,e⟩
 | tbl ps=>exact⟨_,(show h.get? a=some _ from x)⟩
 | met f y=>exact⟨_,(show h.get? a=some _ from x)⟩
 | ext φ=>obtain⟨_,e,_⟩:=x;exact e
theorem nZ {CX:CXT}{P:Program}{w:World}{K:PySem.W.Frag}{mg:Str->Option Value}{base:Heap}{N:List Str}{qual:Str}{scope:Scope}{f:Addr}{cd:Value}{A:Around}{outer:List Env}{s0:Shared}{H0:Hp}{E0':XK}
  {pins:List (Addr×Obj)}{σ:St}{H':Hp}{s':Shared}{E:XK}{ea T':Addr}{cls a0:Value}{dx:Option Addr}{h':Heap}{G:List Addr}
  (I:Inv (be CX P w K mg base N qual scope f cd A outer s0 H0 E0') pins σ H' s')
  (mv:Moved (frs (envOfC qual scope s0.heap.objs.size f cd::outer)) G s'.heap h')
  (hG:∀b∈G,s0.heap.get? b=none/\H' b=none) (tr:Trc h' ea T' cls a0 dx) (e1:s0.heap.get? ea=none) (e2:H' ea=none) (e3:T'∈G\/s'.heap.get? T'=none) (hE:E cls dx H') :
  CXE P w outer H0 s0 E (.ref ea) { s' with heap:=h' }:=by
 have kp:=mv.keep
 have sl:=mv.slot
 have base':=I.base
 have hok:=I.hok
 have nL:∀b o,s0.heap.get? b=some o->b∉frs outer->b∉frs (envOfC qual scope s0.heap.objs.size f cd::outer):=fun b o q hb hm=>by
  have hm':b∈s0.heap.objs.size::frs outer:=hm
  rcases List.mem_cons.mp hm' with z | z
  ·exact absurd (Heap.lt_size q) (by rw [z];exact Nat.lt_irrefl _)
  ·exact hb z
 have nG:∀b o,s0.heap.get? b=some o->b∉G:=fun b o q hb=>by rw [(hG b hb).1] at q;cases q
 have mO:∀b,b∈frs outer->b∈frs (envOfC qual scope s0.heap.objs.size f cd::outer):=fun b hb=>List.mem_cons_of_mem _ hb
 have T0:s0.heap.get? T'=none:=by
  rcases e3 with z | z
  ·exact (hG _ z).1
  ·cases hc:s0.heap.get? T' with
   | none=>rfl
   | some o =>
    obtain⟨o',q⟩:=base'.there T' o hc (by show T'∉[];simp)
    rw [z] at q;cases q
 have TH:H' T'=none:=by
  rcases e3 with z | z
  ·exact (hG _ z).2
  ·cases hc:H' T' with
   | none=>rfl
   | some o =>
    obtain⟨ob,q⟩:=aJ.got (hok T' o hc)
    rw [z] at q;cases q
 refine⟨ea,T',cls,a0,dx,H',rfl,I.os,I.bare,?_,?_,e1,T0,e2,TH,tr,hE⟩
 ·refine⟨fun b o q n hb hx=>?_,fun b o q n hb hx=>?_,fun b o q n hx=>base'.free b o q n hx,fun b o q hx=>?_,base'.tups,base'.frzs,base'.tbls⟩
  ·exact kp b o (base'.keep b o q n hb hx) (nL b o q hb) (nG b o q)
  ·obtain⟨s1,q1⟩:=base'.slot b o q n hb hx
   obtain⟨s2,q2⟩:=sl b _ q1 (mO b hb)
   exact⟨s2,q2⟩
  ·obtain⟨o',q'⟩:=base'.there b o q hx
   by_cases hb:b∈frs (envOfC qual scope s0.heap.objs.size f cd::outer)
   ·obtain⟨s2,q2⟩:=sl b _ q' hb
    exact⟨_,q2⟩
   ·exact⟨o',kp b o' q' hb (nG b o q)⟩
 ·intro a o hH
  have nf:∀b u,H' b=some u->b∉frs (envOfC qual scope s0.heap.objs.size f cd::outer)/\b∉G:=fun b u q=>⟨fun hm=>(by
   have:=I.stkFree b hm
   rw [q] at this;cases this),fun hm=>(by rw [(hG b hm).2] at q;cases q)⟩
  refine (hok a o hH).stay (fun b u hb q=>?_) (fun _ q=>q) fun _ _ q=>q
  rcases hb with z | z
  ·rw [z] at q ⊢;exact kp a u q (nf a o hH).1 (nf a o hH).2
  ·exact kp b u q (nf b _ z).1 (nf b _ z).2
theorem cq {P:Program}{w:World}{K:PySem.W.Frag}{mg:Str->Option Value}{base:Heap}{N:List Str}{qual:Str}{scope:Scope}{f:Addr}{cd:Value}{A:Around}{outer:List Env}{s0:Shared}{H0:Hp}{E:XK} :
  eM (CXE P w) (be (CXE P w) P w K mg base N qual scope f cd A outer s0 H0 E) E:=by
 intro pins σ H s e s' I h
 obtain⟨ea,T,cls,a0,dx,H',rfl,os,bare,un,hok,n1,n2,m1,m2,trc,hE⟩:=h
 have I':Inv (be (CXE P w) P w K mg base N qual scope f cd A outer s0 H0 E) pins σ H' s':=I.call' (ch:=[]) os un hok bare (by simp)
 have back:∀b,s.heap.get? b=none->s0.heap.get? b=none:=fun b q=>by
  cases hc:s0.heap.get? b with
  | none=>rfl
  | some o =>
   obtain⟨o',q'⟩:=I.base.there b o hc (by show b∉[];simp)
   rw [q] at q';cases q'
 show wpAny (model P w) (A.deeper (envOfC qual scope s0.heap.objs.size f cd)) (leaving (envOfC qual scope s0.heap.objs.size f cd) (.ref ea)) _ _ s'
 refine qA (outer:=outer) (L:=s0.heap.objs.size) I'.ok.frames rfl I'.stack trc fun h' T' mv nw tr'=>?_
 exact nZ (G:=[ea,T]) I' mv (fun b hb=>by
  simp at hb
  rcases hb with z | z
  ·rw [z];exact⟨back _ n1,m1⟩
  ·rw [z];exact⟨back _ n2,m2⟩) tr' (back _ n1) m1 (.inr nw) hE
theorem wG {P:Program}{w:World}{K:PySem.W.Frag}{mg:Str->Option Value}{base:Heap}{N:List Str}{qual:Str}{scope:Scope}{f:Addr}{cd:Value}{A:Around}{outer:List Env}{s0:Shared}{H0:Hp}{E:XK}
  {pins:List (Addr×Obj)}{σ:St}{H:Hp}{s:Shared}{ea:Addr}{oe:Obj}{vs:Array Value}{a0:Value}
  (I:Inv (be (CXE P w) P w K mg base N qual scope f cd A outer s0 H0 E) pins σ H s) (h1:s.heap.get? ea=some oe) (h2:oe.data=Data.fields vs) (h3:vs[1]?=some Value.none) (h4:Hd0 vs a0) (back:s0.heap.get? ea=none) (he:H ea=none) (hE:E oe.cls oe.dict H) :
  (be (CXE P w) P w K mg base N qual scope f cd A outer s0 H0 E).xe (.ref ea) s:=by
 show wpAny (model P w) (A.deeper (envOfC qual scope s0.heap.objs.size f cd)) (leaving (envOfC qual scope s0.heap.objs.size f cd) (.ref ea)) _ _ s
 refine leave_new (outer:=outer) (L:=s0.heap.objs.size) I.ok.frames rfl I.stack h1 h2 h3 h4 fun h'' T' mv nT tr=>?_
 exact nZ (G:=[ea]) I mv (fun b hb=>by
  have z:b=ea:=by simpa using hb
  rw [z];exact⟨back,he⟩) tr back he (.inr nT) hE
theorem fP {P:Program}{w:World}{K:PySem.W.Frag}{mg:Str->Option Value}{base:Heap}{N:List Str}{qual:Str}{scope:Scope}{f:Addr}{cd:Value}{A:Around}{outer:List Env}{s0:Shared}{H0:Hp}{E:XK}
  {pins:List (Addr×Obj)}{σ:St}{H:Hp}{s:Shared}{h':Heap}{ea:Addr}{cls:Value}{args:List Value}
  (I:Inv (be (CXE P w) P w K mg base N qual scope f cd A outer s0 H0 E) pins σ H s) (m:s.heap.MadeExcOf h' ea cls args) (hE:E cls none H) :
  (be (CXE P w) P w K mg base N qual scope f cd A outer s0 H0 E).xe (.ref ea) { s with heap:=h' }:=by
 obtain⟨keeps,new,t,there,tn,tt⟩:=m
 have I':Inv (be (CXE P w) P w K mg base N qual scope f cd A outer s0 H0 E) pins σ H { s with heap:=h' }:=I.kept (t':=s.toks) keeps
 have back:s0.heap.get? ea=none:=by
  cases hc:s0.heap.get? ea with
  | none=>rfl
  | some o =>
   obtain⟨o',q'⟩:=I.base.there ea o hc (by show ea∉[];simp)
   rw [new] at q';cases q'
 have he:H ea=none:=by
  cases hc:H ea with
  | none=>rfl
  | some o =>
   obtain⟨ob,q⟩:=aJ.got (I.hok ea o hc)
   rw [new] at q;cases q
 exact wG I' there rfl rfl ⟨rfl,rfl⟩ back he hE
noncomputable def d9 (h:Heap) (C:Addr):Prop:=∃(nm q:Str) (N:Addr) (bs bm bmB:List Value) (hdct:Bool) (sn:List Str) (sub:List Value) (ab:Bool) (col:Option Bool) (dd:Option Addr) (k0 k1 k2 k3 k5:Option Value) (mN:Str->Option Value) (B Bn newId nid initId inN:String) (bmN:List Value),
 h.get? C=some (excClassObj nm q C N bs bm hdct sn sub ab col dd k0 k1 k2 k3 k5 newId)/\h.Ns N mN/\mN (Str.ofString "__init__")=none/\OwnTail h bmB bm/\bm.contains (Value.type "BaseException")=true/\ExcBaseFacts Bn newId inN bmN/\bmB.contains (Value.type Bn)=true/\ExcBaseFacts B nid initId bmB
theorem OwnTail.stays {h h':Heap} (k:∀b o,h.get? b=some o->h'.get? b=some o) {a b:List Value} (x:OwnTail h a b):OwnTail h' a b:=by
 induction x with
 | base=>exact .base
 | own e n i _ ih=>exact .own (k _ _ e) (n.keeps k) i ih
section
variable {X:Cx}{x:Str}{C:Addr}{e:Expr}{es:List Expr}{t:TA}{np cpos pos:Pos}{W:Hp->Prop}
noncomputable def oB (t:TA) (W:Hp->Prop):TS:=fun _ σ H=>t σ H fun vs H1=>vs.length<=sizeLine/\W H1
theorem fH (hx:X.mg x=some (.ref C)) (hC:d9 X.base C) (hd:X.A.handled=none) (ha:PA X (e::es) t) (xe:∀(pins:List (Addr×Obj)) (σ:St) (H:Hp) (s:Shared) (h':Heap) (ea:Addr) (args:List Value),Inv X pins σ H s->s.heap.MadeExcOf h' ea (.ref C) args->W H->X.xe (.ref ea) { s with heap:=h' })
  (hg:Gl X x:=by rfl) (hdb:(x == ("__debug__":Str))=false:=by decide) (he:starEach (e::es) X.env=(false,eval e X.env)::starEach es X.env:=by rfl) (hpl:(backTo cpos (starEach (e::es) X.env)).any (·.1)=false:=by rfl) :
  PS X (.Raise (some (.Call (.Name x np) (e::es) [] cpos)) none pos) (oB t W):=by
 intro pins s σ H D I h
 obtain⟨nm,q,N,bs,bm,bmB,hdct,sn,sub,ab,col,dd,k0,k1,k2,k3,k5,mN,B,Bn,newId,nid,initId,inN,bmN,a1,a2,a3,a4,a5,a6,a7,a8⟩:=hC
 refine wpAny_Raise_call_subU (nm:=nm) (q:=q) (N:=N) (bs:=bs) (hdct:=hdct) (sn:=sn) (sub:=sub) (ab:=ab) (col:=col) (dd:=dd) (k0:=k0) (k1:=k1) (k2:=k2) (k3:=k3) (k5:=k5) a6 a7 a8 a5 hd hpl a3 (fL I hg hx ⟨rfl,?_⟩ hdb)
 have hpa:=ha cpos pins s σ H _ I h
 have eb:backTo cpos (starEach (e::es) X.env)=(false,eval e X.env)::backTo cpos (starEach es X.env):=by rw [he];rfl
 rw [eb] at hpa ⊢
 refine Calls.evalArgs_plain (thn hpa fun us s2 hq=>?_)
 obtain⟨vs,H1,I1,r1,hl,hw⟩:=hq
 have k:=I1.bk
 exact⟨rfl,by rw [<- r1.length];exact hl,k _ _ a1,a2.keeps k,OwnTail.stays k a4,fun h' ea m=>xe pins σ H1 s2 h' ea _ I1 m hw⟩
end
section
variable {P:Program}{w:World}{K:PySem.W.Frag}{mg:Str->Option Value}{base:Heap}
theorem Fun.okX {x qual:Str}{st:Stmt}{f:Addr}{fd:FuncData}{N ps:List Str}{k:Nat}{sp:Sp} (F:Fun K x qual st f fd) (S:aL N ps (aB st)) (len:∀vs H Q E,sp vs H Q E->vs.length=ps.length)
  (hbody:∀(cdv:Value) (A:Around) (outer:List Env) (s:Shared) (H:Hp) (vs:List V) (Q:VK) (E:XK),aK k (A.deeper (envOfC qual (aB st) s.heap.objs.size f cdv))->sp vs H Q E ->
   ∃t,PSs (be (CXE P w) P w K mg base N qual (aB st) f cdv A outer s H E) (cW st) t/\t { nx:=fun _ H'=>Q .non H',rt:=Q } (start N vs) H):aA P w K mg base (CXE P w) (k + 1) f fd ps sp:=by
 obtain⟨oc,od,kV,doc,pm,an,cdv,ct,osl,rfl,lk,hcd⟩:=F.ex
 exact pb lk hcd S len fun A outer s H vs Q E hr hsp=>hbody cdv A outer s H vs Q E hr hsp
theorem aA.lift {k:Nat}{f:Addr}{fd:FuncData}{ps:List Str}{sp:Sp} (F:aA P w K mg base CX0 k f fd ps sp):aA P w K mg base (CXE P w) k f fd ps sp :=
 ⟨F.len,fun A outer s H args us vs Q E hr he hb hv hs=>codeAny_mono (F.run A outer s H args us vs Q E hr he hb hv hs) fun r s' hq=>by
  cases r with
  | error e=>exact False.elim hq
  | ok fl=>cases fl <;> exact hq⟩
noncomputable def FnX (P:Program) (w:World) (K:PySem.W.Frag) (mg:Str->Option Value) (base:Heap) (k:Nat) (x:Str) (ps:List Str) (sp:Sp):Prop :=
 ∃f fd,mg x=some (.ref f)/\PySem.W.keepIn K (.ref f)=true/\Binds K fd ps []/\aA P w K mg base (CXE P w) k f fd ps sp
end
theorem bT {X:Cx}{k:Nat}{x:Str}{ps:List Str}{sp:Sp}{E:XK}{e:Expr}{es:List Expr}{t:TA}{p pos:Pos} (F:FnX X.prog X.w X.K X.mg X.base k x ps sp) (hr:aK k X.A) (hx:eM (CXE X.prog X.w) X E) (ha:PA X (e::es) t) (hg:Gl X x:=by rfl)
  (hdb:(x == ("__debug__":Str))=false:=by decide) (he:starEach (e::es) X.env=(false,eval e X.env)::starEach es X.env:=by rfl) (hpl:(backTo pos (starEach es X.env)).any (·.1)=false:=by rfl) :
  PE X (.Call (.Name x p) (e::es) [] pos) (eA sp [] E t):=by
 obtain⟨f,fd,h1,h2,h3,h4⟩:=F
 exact nc h4 hr hg h1 h2 h3 .nil hx ha hdb he hpl
noncomputable def XP (X:Cx) (pins:List (Addr×Obj)) (Ex:St->Value->Option Addr->Hp->Prop) (e:Value) (s1:Shared):Prop :=
 ∃(σ:St) (H:Hp) (s:Shared),Inv X pins σ H s/\CXE X.prog X.w X.stack H s (fun cls dx H'=>Ex σ cls dx H') e s1
noncomputable abbrev TEX:=(St->Value->Option Addr->Hp->Prop)->St->Hp->VK->Prop
noncomputable abbrev TSX:=(St->Value->Option Addr->Hp->Prop)->Ends->St->Hp->Prop
noncomputable def PEX (X:Cx) (e:Expr) (t:TEX):Prop:=∀(pins:List (Addr×Obj)) (s:Shared) (σ:St) (H:Hp) (Q:VK) (Ex:St->Value->Option Addr->Hp->Prop),Inv X pins σ H s->t Ex σ H Q->wpAny (model X.prog X.w) X.A (eval e X.env) (EP X pins σ Q) (XP X pins Ex) s
noncomputable def PSX (X:Cx) (st:Stmt) (t:TSX):Prop:=∀(pins:List (Addr×Obj)) (s:Shared) (σ:St) (H:Hp) (D:Ends) (Ex:St->Value->Option Addr->Hp->Prop),Inv X pins σ H s->t Ex D σ H->wpAny (model X.prog X.w) X.A (exec st X.env) (SP X pins D) (XP X pins Ex) s
section
variable {X:Cx}{k:Nat}{x:Str}{ps:List Str}{sp:Sp}{e:Expr}{es:List Expr}{t:TA}{p pos:Pos}
noncomputable def wD (sp:Sp) (t:TA):TEX:=fun Ex σ H Q=>t σ H fun vs H1=>sp vs H1 Q (fun cls dx H'=>Ex σ cls dx H')
theorem jH (F:FnX X.prog X.w X.K X.mg X.base k x ps sp) (hr:aK k X.A) (ha:PA X.nox (e::es) t) (hg:Gl X x:=by rfl)
  (hdb:(x == ("__debug__":Str))=false:=by decide) (he:starEach (e::es) X.env=(false,eval e X.env)::starEach es X.env:=by rfl) (hpl:(backTo pos (starEach es X.env)).any (·.1)=false:=by rfl) :
  PEX X (.Call (.Name x p) (e::es) [] pos) (wD sp t):=by
 obtain⟨f,fd,hm,hk,hb,F⟩:=F
 intro pins s σ H Q Ex I h
 refine wpAny_Call_Name_kw (fL I hg hm ?_ hdb)
 have I0:Inv X.nox pins σ H s:=⟨⟨I.ok.mod,I.ok.kind,I.ok.glob,I.ok.blt,I.ok.above,I.ok.inj,I.ok.has,I.ok.cab,I.ok.hd,I.ok.frames,I.ok.stk,I.ok.exf,I.ok.bs,I.ok.bsz,I.ok.noex,I.ok.exfs,I.ok.funs,I.ok.frf⟩,I.os,I.bare,I.base,I.loc,I.cell,I.free,I.freeC,I.pin,I.hok,I.len⟩
 refine PySem.W.callWith_K (h₀:=X.base) I.ok.mod.kin hk (wpAny_mono (ha pos pins s σ H _ I0 h) (fun us s1 hq=>?_) fun _ _ z=>False.elim z) he hpl
 obtain⟨vs,H1,I1,r,q⟩:=hq
 have I2:Inv X pins σ H1 s1:=⟨⟨I1.ok.mod,I1.ok.kind,I1.ok.glob,I1.ok.blt,I1.ok.above,I1.ok.inj,I1.ok.has,I1.ok.cab,I1.ok.hd,I1.ok.frames,I1.ok.stk,I1.ok.exf,I1.ok.bs,I1.ok.bsz,I1.ok.noex,I1.ok.exfs,I1.ok.funs,I1.ok.frf⟩,I1.os,I1.bare,I1.base,I1.loc,I1.cell,I1.free,I1.freeC,I1.pin,I1.hok,I1.len⟩
 refine⟨I2.kIn,?_⟩
 have hl:us.length=ps.length:=by rw [<- r.length];exact F.len _ _ _ _ q
 have hbb:=hb s1 us I2.kIn (by simpa using hl)
 simp only [List.append_nil] at hbb
 refine wpAny_call (codeAny_mono (F.run X.A X.stack s1 H1 ⟨us,[]⟩ us vs Q (fun cls dx H'=>Ex σ cls dx H') hr I2.env0 hbb r q) fun r s' hq=>?_)
 cases r with
 | error e=>exact⟨σ,H1,s1,I2,hq⟩
 | ok fl =>
  cases fl with
  | ret u=>exact I2.after hq
  | next=>exact False.elim hq
  | brk=>exact False.elim hq
  | cont=>exact False.elim hq
noncomputable def wz (te:TEX):TSX:=fun Ex D σ H=>te Ex σ H fun _ H1=>D.nx σ H1
theorem jE {te:TEX} (he:PEX X e te) (hs:swapsWith e none pos.line X.env=pure false:=by rfl):PSX X (.Expr e pos) (wz te):=by
 intro pins s σ H D Ex I h
 exact wpAny_Expr_any (thn (he pins s σ H _ Ex I h) fun v s1 ⟨x,H1,I1,r1,q1⟩=>⟨σ,H1,I1,q1⟩) I.quiet hs
end
theorem OwnTail.has {h:Heap}{a b:List Value}{v:Value} (x:OwnTail h a b) (hv:a.contains v=true):b.contains v=true:=by
 induction x with
 | base=>exact hv
 | own _ _ _ _ ih=>rw [List.contains_cons,ih,Bool.or_true]
theorem vW {K:Frag}{h:Heap}{C:Addr}{bmB:List Value}{newId initId B:String} (X:K.In h) (hx:excIn K C bmB newId=true) (f:ExcBaseFacts B newId initId bmB):d9 h C:=by
 unfold excIn at hx
 split at hx
 ·rename_i dct cd sl heq
  split at hx
  ·rename_i C' bm k0 k1 k2 k3 n k5 hm hs
   simp only [Bool.and_eq_true,Bool.not_eq_true',beq_iff_eq] at hx
   obtain⟨⟨⟨⟨⟨h1,h2⟩,h3⟩,h4⟩,h5⟩,h6⟩:=hx
   subst h1
   subst h2
   have ho:=X _ _ heq
   have hsl:sl=#[k0,k1,k2,k3,some (.builtin n),k5]:=by
    rw [<- Array.toList_inj];exact hs
   obtain⟨nm,bs,mro,ns,qn,hdct,sn,sub,ab,col,hdel⟩:=cd
   simp only at hm h3 h4 h5 h6
   subst hm
   subst h3
   subst hsl
   refine⟨nm,qn,ns,bs,bm,bmB,hdct,sn,sub,ab,col,dct,k0,k1,k2,k3,k5,h.nsMap ns,B,B,n,n,initId,initId,bmB,ho,?_,nsMap_none_of_in X h5 h6,tail_of_in X h4,OwnTail.has (tail_of_in X h4) f.hasBase,f,f.hasB,f⟩
   exact Heap.Ns.of_isNs (isNs_of_in X h5)
  ·cases hx
 ·cases hx
theorem qb:isSubtype (.type "type") (.type "tuple")=pure false:=by rw [isSubtype_type];kernel_rfl
theorem rh {M:Model}{A:Around}{E:Value->Shared->Prop}{nm q nm' q':Str}{C N R N':Addr}{bs bm bs' bm':List Value}{hdct hdct':Bool}{sn sn':List Str}{sub sub':List Value}{ab ab':Bool}{col col':Option Bool}{dd dd':Option Addr}{k0 k1 k2 k3 k5 l0 l1 l2 l3 l5:Option Value}{newId newId':String}
  {s:Shared}{e:Addr}{oe:Obj}{Q:Bool->Shared->Prop} (hC:s.heap.get? C=some (excClassObj nm q C N bs bm hdct sn sub ab col dd k0 k1 k2 k3 k5 newId)) (hR:s.heap.get? R=some (excClassObj nm' q' R N' bs' bm' hdct' sn' sub' ab' col' dd' l0 l1 l2 l3 l5 newId'))
  (he:s.heap.get? e=some oe) (hc:oe.cls=.ref C) (hb:bm'.contains (.type "BaseException")=true) (k:Q ((Value.ref C::bm).contains (.ref R)) s):wpAny M A (excMatches (.ref e) (.ref R)) Q E s:=by
 unfold excMatches
 refine wpAny_bind (wpAny_isInstance (T:="type") ⟨_,hR,rfl⟩ qb ?_)
 simp only [Bool.false_eq_true,if_false,pure_bind,List.forIn_cons,List.forIn_nil]
 obtain⟨h,g,d,tk,os⟩:=s
 have hex:∀{Q':Bool->Shared->Prop},Q' true ⟨h,g,d,tk,os⟩->wpAny M A (isExcClass (.ref R)) Q' E ⟨h,g,d,tk,os⟩:=fun {Q'} qq=>by
  unfold isExcClass isType
  simp only [bind_assoc,pure_bind]
  refine wpAny_bind (wpAny_loadPart hR ?_)
  simp only [if_true]
  refine wpAny_isSubtype_exc hR ?_
  rw [List.contains_cons,hb,Bool.or_true]
  exact qq
 refine wpAny_bind (wpAny_bind (wpAny_bind (hex ?_)))
 simp only [Bool.not_true,Bool.false_eq_true,if_false]
 refine wpAny_pure (wpAny_pure (wpAny_bind (wpAny_typeOf_ref he ?_)))
 rw [hc]
 refine wpAny_bind (wpAny_bind (wpAny_bind (wpAny_isSubtype_exc hC ?_)))
 cases c:(Value.ref C::bm).contains (Value.ref R) with
 | true =>
  rw [c] at k
  exact wpAny_pure (wpAny_pure (wpAny_pure k))
 | false =>
  rw [c] at k
  exact wpAny_pure (wpAny_pure (wpAny_pure k))
section
variable {X:Cx}{pins:List (Addr×Obj)}{σ:List (Option V)}{H H':Hp}{s:Shared}{h':Heap}
theorem Inv.stepN {g':Array GenState}{t':Nat}{d':Drawn}{ch:List Addr} (I:Inv X pins σ H s)
  (hch:∀b∈ch,X.s₀.heap.get? b=none/\b≠X.env.locals/\(∀x c,X.env.cells.lookup x=some c->c≠b)/\∀p∈X.pn++pins,p.1≠b)
  (keep:∀b o,b≠X.env.locals->b∉X.fs->b∉ch->s.heap.get? b=some o->H b=none->h'.get? b=some o)
  (slot:∀b o,b≠X.env.locals->b∈X.fs->b∉ch->s.heap.get? b=some o->H b=none->∃sl,h'.get? b=some { o with slots:=sl }) (free:∀b o,b∉ch->s.heap.get? b=some o->H b=none->H' b=none)
  (there:∀b o,b∉ch->s.heap.get? b=some o->∃o',h'.get? b=some o')
  (tups:∀b xs,H b=some (.tup xs)->H' b=some (.tup xs)) (frzs:∀b o u,H b=some (.frz o u)->H' b=some (.frz o u)) (tbls:∀b ps,H b=some (.tbl ps)->∃more,H' b=some (.tbl (ps++more)))
  (ns:∀m,s.heap.Ns X.env.locals m->h'.Ns X.env.locals m) (hok:HOk X.prog X.w H' h') (hg:AllBare g') :
  Inv X pins σ H' { s with heap:=h',gens:=g',drawn:=d',toks:=t' }:=by
 have neL:∀b o,X.s₀.heap.get? b=some o->b≠X.env.locals:=fun b o e=>Nat.ne_of_lt (Nat.lt_of_lt_of_le (Heap.lt_size e) I.ok.above)
 have neC:∀b o,X.s₀.heap.get? b=some o->b∉X.ex->b∉ch:=fun b o e hx hb=>by
  rw [(hch b hb).1] at e;cases e
 have cellK:∀x c,X.env.cells.lookup x=some c->∀v,s.heap.IsCell c v->h'.IsCell c v:=fun x c e v ⟨o,ho,hd⟩=>by
  have nch:c∉ch:=fun z=>(hch c z).2.2.1 x c e rfl
  by_cases hc:c∈X.fs
  ·obtain⟨sl,q⟩:=slot c o (I.cne x c e) hc nch ho (I.freeC x c e)
   exact⟨_,q,hd⟩
  ·exact⟨o,keep c o (I.cne x c e) hc nch ho (I.freeC x c e),hd⟩
 refine⟨I.ok,I.os,hg,⟨fun b o e n hb hx=>?_,fun b o e n hb hx=>?_,fun b o e n hx=>?_,fun b o e hx=>?_,fun b xs e=>tups b xs (I.base.tups b xs e),fun b o xs e=>frzs b o xs (I.base.frzs b o xs e),fun b ps e=>?_⟩,?_,fun x c e=>?_,?_,fun x c e=>?_,fun p hp=>?_,hok,I.len⟩
 ·exact keep b o (neL b o e) hb (neC b o e hx) (I.base.keep b o e n hb hx) (I.base.free b o e n hx)
 ·obtain⟨sl,e1⟩:=I.base.slot b o e n hb hx
  obtain⟨sl',e2⟩:=slot b _ (neL b o e) hb (neC b o e hx) e1 (I.base.free b o e n hx)
  exact⟨sl',e2⟩
 ·obtain⟨o',e1⟩:=I.base.there b o e hx
  exact free b o' (neC b o e hx) e1 (I.base.free b o e n hx)
 ·obtain⟨o',e1⟩:=I.base.there b o e hx
  exact there b o' (neC b o e hx) e1
 ·obtain⟨m1,e1⟩:=I.base.tbls b ps e
  obtain⟨m2,e2⟩:=tbls b _ e1
  exact⟨m1++m2,by rw [e2,Array.append_assoc]⟩
 ·obtain⟨m,hn,hl⟩:=I.loc
  refine⟨m,ns m hn,fun i x v e1 e2 e3=>?_⟩
  obtain⟨u,r,l⟩:=hl i x v e1 e2 e3
  refine⟨u,r,?_⟩
  rcases l with l | ⟨k,c,e,z⟩
  ·exact .inl l
  ·exact .inr ⟨k,c,e,cellK x c e _ z⟩
 ·obtain⟨v,z⟩:=I.cell x c e
  exact⟨v,cellK x c e v z⟩
 ·obtain⟨m,⟨o,_,_,ho,_⟩,_⟩:=I.loc
  exact free _ o (fun z=>(hch _ z).2.1 rfl) ho I.free
 ·obtain⟨v,o,ho,hd⟩:=I.cell x c e
  exact free c o (fun z=>(hch c z).2.2.1 x c e rfl) ho (I.freeC x c e)
 ·obtain⟨e,n,ne,nf,d⟩:=I.pin p hp
  have nch:p.1∉ch:=fun z=>(hch p.1 z).2.2.2 p hp rfl
  exact⟨keep p.1 p.2 ne nf nch e n,free p.1 p.2 nch e n,ne,nf,d⟩
theorem Inv.moved {G:List Addr} (I:Inv X pins σ H s) (hG:∀b∈G,X.s₀.heap.get? b=none/\H b=none/\b≠X.env.locals/\(∀x c,X.env.cells.lookup x=some c->c≠b)/\∀p∈X.pn++pins,p.1≠b)
  (kp:∀b o,s.heap.get? b=some o->b∉frs X.stack->b∉G->h'.get? b=some o) (sl:∀b o,s.heap.get? b=some o->b∈frs X.stack->∃sl,h'.get? b=some { o with slots:=sl }) :
  Inv X pins σ H { s with heap:=h' }:=by
 refine I.stepN (g':=s.gens) (d':=s.drawn) (t':=s.toks) (ch:=G) (fun b hb=>⟨(hG b hb).1,(hG b hb).2.2⟩) (fun b o hL hb hc e _=>kp b o e (fun z=>(List.mem_cons.mp (I.stkSub b z)).elim hL hb) hc) (fun b o hL hb hc e _=>?_) (fun _ _ _ _ n=>n) (fun b o hc e=>?_) (fun _ _ e=>e) (fun _ _ _ e=>e) (fun b ps e=>⟨#[],by rw [e];simp⟩) (fun m hm=>?_) (fun b u e=>?_) I.bare
 ·by_cases z:b∈frs X.stack
  ·exact sl b o e z
  ·exact⟨o.slots,kp b o e z hc⟩
 ·by_cases z:b∈frs X.stack
  ·obtain⟨q,q'⟩:=sl b o e z
   exact⟨_,q'⟩
  ·exact⟨o,kp b o e z hc⟩
 ·obtain⟨o,es,ep,ho,r⟩:=hm
  by_cases z:X.env.locals∈frs X.stack
  ·obtain⟨q,q'⟩:=sl _ o ho z
   exact⟨_,es,ep,q',r⟩
  ·exact⟨o,es,ep,kp _ o ho z (fun y=>(hG _ y).2.2.1 rfl),r⟩
 ·have nf:∀c v,H c=some v->c∉frs X.stack/\c∉G:=fun c v q=>⟨fun hm=>(by
   have:=I.stkFree c hm
   rw [q] at this;cases this),fun hm=>(by rw [(hG c hm).2.1] at q;cases q)⟩
  refine (I.hok b u e).stay (fun c v hc q=>?_) (fun _ q=>q) fun _ _ q=>q
  rcases hc with z | z
  ·rw [z] at q ⊢;exact kp b v q (nf b u e).1 (nf b u e).2
  ·exact kp c v q (nf c _ z).1 (nf c _ z).2
end
section
variable {X:Cx}{pins:List (Addr×Obj)}{σ:List (Option V)}{H:Hp}{s:Shared}
theorem rZ {M:Model}{A:Around}{E:Value->Shared->Prop}{i:Nat}{x:Str}{v:V}{Q:Unit->Shared->Prop} (I:Inv X pins σ H s) (hN:X.N.Nodup) (hi:X.N[i]?=some x) (hk:X.env.scope.names.lookup x=some .local) (hv:σ[i]?=some (some v))
  (h:∀s',Inv X pins (σ.set i none) H s'->Q () s'):wpAny M A (unbindName X.env x) Q E s:=by
 obtain⟨m,hn,hl⟩:=id I.loc
 have hcls:(X.env.scope.kind == .class || (X.env.scope.kind == .module && X.env.locals != X.env.globals))=false:=by rw [I.ok.kind];rfl
 have hlen:i < σ.length:=by rw [I.len];exact (List.getElem?_eq_some_iff.mp hi).1
 obtain⟨u,r,lk⟩:=hl i x v hi hv (.inl hk)
 have hm:m x=some u:=by
  rcases lk with ⟨_,e⟩ | ⟨z,_⟩
  ·exact e
  ·have hk':X.env.kindOf x=some .local:=hk
   rcases z with z | z <;> (rw [hk'] at z;cases z)
 refine wpAny_unbindName_local hk hn hm hcls fun h' u' hn' hs=>?_
 have nb:∀b o,X.s₀.heap.get? b=some o->b≠X.env.locals:=fun b o e=>Nat.ne_of_lt (Nat.lt_of_lt_of_le (Heap.lt_size e) I.ok.above)
 have cne:=I.cne
 refine h _ ⟨I.ok,I.os,I.bare,⟨fun b o e n hb hx=>(hs.2 b (nb b o e)).trans (I.base.keep b o e n hb hx),fun b o e n hb hx=>?_,I.base.free,fun b o e hx=>?_,I.base.tups,I.base.frzs,I.base.tbls⟩,⟨_,hn',fun j y w e1 e2 e3=>?_⟩,fun y c e=>?_,I.free,I.freeC,fun p hp=>?_,fun b ob e=>?_,?_⟩
 ·obtain⟨sl,e1⟩:=I.base.slot b o e n hb hx
  exact⟨sl,(hs.2 b (nb b o e)).trans e1⟩
 ·obtain⟨o',e1⟩:=I.base.there b o e hx
  exact⟨o',(hs.2 b (nb b o e)).trans e1⟩
 ·by_cases hj:j=i
  ·subst hj
   rw [List.getElem?_set_self hlen] at e2
   cases e2
  ·rw [List.getElem?_set_ne (Ne.symm hj)] at e2
   obtain⟨u2,r2,q⟩:=hl j y w e1 e2 e3
   refine⟨u2,r2,?_⟩
   rcases q with ⟨k,e⟩ | ⟨k,c,e,z⟩
   ·refine .inl ⟨k,?_⟩
    have:y≠x:=fun e=>hj (jr hN e1 (e ▸ hi))
    simp [this,e]
   ·exact .inr ⟨k,c,e,z.sameBut hs (cne y c e)⟩
 ·obtain⟨w',z⟩:=I.cell y c e
  exact⟨w',z.sameBut hs (cne y c e)⟩
 ·obtain⟨e,n,ne,nf,d⟩:=I.pin p hp
  exact⟨(hs.2 p.1 ne).trans e,n,ne,nf,d⟩
 ·refine (I.hok b ob e).stay (fun c w' hc q=>(hs.2 c ?_).trans q) (fun _ q=>q) fun _ _ q=>q
  rintro rfl
  rcases hc with z | z
  ·have:=I.free
   rw [z] at this;rw [this] at e;cases e
  ·rw [I.free] at z;cases z
 ·rw [List.length_set];exact I.len
end
section
variable {X:Cx}{pins:List (Addr×Obj)}{σ:St}{H:Hp}{s:Shared}{ea C:Addr}{o:HO}
theorem Inv.track (I:Inv X pins σ H s) (hn:H ea=none) (h0:X.s₀.heap.get? ea=none) (hl:ea≠X.env.locals) (hc:∀x c,X.env.cells.lookup x=some c->c≠ea) (hp:∀p∈X.pn++pins,p.1≠ea)
  (new:aJ X.prog X.w (upd H ea o) s.heap ea o):Inv X pins σ (upd H ea o) s:=by
 have J:=I.stepN (h':=s.heap) (H':=upd H ea o) (g':=s.gens) (d':=s.drawn) (t':=s.toks) (ch:=[ea]) (fun b hb=>by
   have z:b=ea:=by simpa using hb
   rw [z];exact⟨h0,hl,hc,hp⟩) (fun b o _ _ _ e _=>e) (fun b o _ _ _ e _=>⟨o.slots,e⟩) (fun b o hb e n=>by rw [aq (fun z=>hb (by simp [z]))];exact n) (fun b o _ e=>⟨o,e⟩)
  (fun b xs e=>by rw [aq (bu e hn)];exact e) (fun b o u e=>by rw [aq (bu e hn)];exact e) (fun b ps e=>⟨#[],by rw [aq (bu e hn),e];simp⟩) (fun m hm=>hm) (fun b u e=>?_) I.bare
 ·exact J
 ·by_cases z:b=ea
  ·rw [z,ak] at e
   cases e
   rw [z];exact new
  ·rw [aq z] at e
   exact (I.hok b u e).stay (fun _ _ _ q=>q) (fun b q=>by rw [aq (bu q hn)];exact q) (fun b xs q=>by rw [aq (bu q hn)];exact q)
noncomputable def c7 (ea C:Addr) (dx:Option Addr):HO:=.ext fun h=>∃oe vs,h.get? ea=some oe/\oe.cls=.ref C/\oe.dict=dx/\oe.data=Data.fields vs/\vs[2]?=some Value.none
theorem vy {P:Program}{w:World}{H:Hp}{h:Heap}{oe:Obj}{dx:Option Addr}{vs:Array Value} (h1:h.get? ea=some oe) (h2:oe.cls=.ref C) (h3:oe.dict=dx) (h4:oe.data=Data.fields vs) (h5:vs[2]?=some Value.none):aJ P w H h ea (c7 ea C dx) :=
 ⟨⟨oe,vs,h1,h2,h3,h4,h5⟩,⟨oe,h1⟩,fun h1' h2' ⟨o,vs',q1,q2⟩ k=>⟨o,vs',k o q1,q2⟩⟩
end
noncomputable def Cx.held (X:Cx) (ea:Addr):Cx:={ X with A:=X.A.mark (some (.ref ea)),calm:=false,xe:=fun _ _=>False }
section
variable {X:Cx}{pins:List (Addr×Obj)}{σ:St}{H:Hp}{s:Shared}{ea:Addr}
theorem Inv.held (I:Inv X pins σ H s) (ea:Addr):Inv (X.held ea) pins σ H s :=
 ⟨⟨I.ok.mod,I.ok.kind,I.ok.glob,I.ok.blt,I.ok.above,I.ok.inj,I.ok.has,I.ok.cab,(fun z=>by cases z),I.ok.frames,I.ok.stk,I.ok.exf,I.ok.bs,I.ok.bsz,I.ok.noex,I.ok.exfs,I.ok.funs,I.ok.frf⟩,I.os,I.bare,I.base,I.loc,I.cell,I.free,I.freeC,I.pin,I.hok,I.len⟩
theorem Inv.unheld (ok:X.Ok) (I:Inv (X.held ea) pins σ H s):Inv X pins σ H s :=
 ⟨ok,I.os,I.bare,I.base,I.loc,I.cell,I.free,I.freeC,I.pin,I.hok,I.len⟩
theorem iq {M:Model}{A:Around}{E:Value->Shared->Prop}{i:Nat}{n:Str}{pos:Pos}{Q:Unit->Shared->Prop} (I:Inv X pins σ H s) (hN:X.N.Nodup) (hi:X.N[i]?=some n) (hk:X.env.scope.names.lookup n=some .local)
  (h:∀s',Inv X pins (σ.set i none) H s'->Q () s'):wpAny M A (do bindName X.env n Value.none;unbindBehindTheSuite X.env n pos) Q E s:=by
 refine wpAny_bind (wpAny_bindName (eg I hN hi (.inl hk) (v:=.non) rfl (fun s' I'=>?_) (.inr hk)))
 have hl:i < σ.length:=by rw [I.len];exact (List.getElem?_eq_some_iff.mp hi).1
 unfold unbindBehindTheSuite
 refine wpAny_onRaise (rZ I' hN hi hk (v:=.non) (List.getElem?_set_self hl) fun s2 I2=>h s2 ?_)
 rw [List.set_set] at I2
 exact I2
noncomputable def Under (h:Heap) (C R:Addr):Prop:=∃(nm q:Str) (N:Addr) (bs bm:List Value) (hdct:Bool) (sn:List Str) (sub:List Value) (ab:Bool) (col:Option Bool) (dd:Option Addr) (k0 k1 k2 k3 k5:Option Value) (newId:String),
 h.get? C=some (excClassObj nm q C N bs bm hdct sn sub ab col dd k0 k1 k2 k3 k5 newId)/\(Value.ref C::bm).contains (.ref R)=true
noncomputable def oX (D:Ends) (j:Nat):Ends:={ nx:=fun σ H=>D.nx (σ.set j none) H,rt:=D.rt,bk:=fun σ H=>D.bk (σ.set j none) H,ct:=fun σ H=>D.ct (σ.set j none) H }
end
section
variable {X:Cx}{st b0:Stmt}{suite:List Stmt}{tx:TSX}{th:TS}{x n:Str}{R:Addr}{j:Nat}{np hpos pos:Pos}
end
section
variable {X:Cx}{pins:List (Addr×Obj)}{σ:St}{H:Hp}{s:Shared}
theorem Inv.toNox (I:Inv X pins σ H s):Inv X.nox pins σ H s:=⟨⟨I.ok.mod,I.ok.kind,I.ok.glob,I.ok.blt,I.ok.above,I.ok.inj,I.ok.has,I.ok.cab,I.ok.hd,I.ok.frames,I.ok.stk,I.ok.exf,I.ok.bs,I.ok.bsz,I.ok.noex,I.ok.exfs,I.ok.funs,I.ok.frf⟩,I.os,I.bare,I.base,I.loc,I.cell,I.free,I.freeC,I.pin,I.hok,I.len⟩
theorem Inv.ofNox (I:Inv X.nox pins σ H s):Inv X pins σ H s:=⟨⟨I.ok.mod,I.ok.kind,I.ok.glob,I.ok.blt,I.ok.above,I.ok.inj,I.ok.has,I.ok.cab,I.ok.hd,I.ok.frames,I.ok.stk,I.ok.exf,I.ok.bs,I.ok.bsz,I.ok.noex,I.ok.exfs,I.ok.funs,I.ok.frf⟩,I.os,I.bare,I.base,I.loc,I.cell,I.free,I.freeC,I.pin,I.hok,I.len⟩
end
noncomputable def ki (X:Cx) (sts:List Stmt) (t:TSX):Prop:=∀(pins:List (Addr×Obj)) (s:Shared) (σ:St) (H:Hp) (D:Ends) (Ex:St->Value->Option Addr->Hp->Prop),Inv X pins σ H s->t Ex D σ H->wpAny (model X.prog X.w) X.A (execs sts X.env) (SP X pins D) (XP X pins Ex) s
section
variable {X:Cx}{st:Stmt}{rest:List Stmt}{t u:TSX}{pos:Pos}
theorem ip (h1:PSX X st t):ki X [st] t:=by
 intro pins s σ H D Ex I h
 refine wpAny_execs_cons (thn (h1 pins s σ H D Ex I h) fun f s1 q=>?_)
 cases f with
 | next=>exact wpAny_execs_nil q
 | ret v=>exact q
 | brk=>exact q
 | cont=>exact q
noncomputable def yb (c:TT) (t u:TSX):TSX:=fun Ex D σ H=>c σ H fun b H1=>if b=true then t Ex D σ H1 else u Ex D σ H1
theorem oW {c:Expr}{a b:List Stmt}{tc:TT} (hc:PT X.nox c tc) (ha:ki X a t) (hb:ki X b u):PSX X (.If c a b pos) (yb tc t u):=by
 intro pins s σ H D Ex I h
 refine wpAny_If (wpAny_mono (hc pins s σ H _ I.toNox h) (fun d s1 hq=>?_) fun _ _ z=>False.elim z)
 obtain⟨H1,I1,q1⟩:=hq
 cases d with
 | true=>exact ha pins s1 σ H1 D Ex I1.ofNox q1
 | false=>exact hb pins s1 σ H1 D Ex I1.ofNox q1
end
open Builtin Builtin.ObjectAttr
inductive iE (h:Heap) (S:List Str) (bmB:List Value):List Value->Prop
 | base:iE h S bmB bmB
 | own {B:Addr}{c0:Value}{dd:Option Addr}{cd:ClassData}{sl:Array (Option Value)}{m:Str->Option Value}{tl:List Value} (e:h.get? B=some ⟨c0,dd,.cls cd,sl⟩) (n:h.Ns cd.ns m) (i:∀x∈S,m x=none) (r:iE h S bmB tl):iE h S bmB (.ref B::tl)
section
variable {h h':Heap}{S:List Str}{bmB tl:List Value}
end
section
variable {M:Model}{A:Around}{E:Value->Shared->Prop}{h:Heap}{g:Array GenState}{d:Drawn}{t:Nat}{os:OsState}{S:List Str}{bmB tl:List Value}{x:Str}{y:Option Value}{Q:Option Value->Shared->Prop}
variable {nm q:Str}{C N:Addr}{bs bm:List Value}{hdct:Bool}{sn:List Str}{sub:List Value}{ab:Bool}{col:Option Bool}{dd:Option Addr}{k0 k1 k2 k3 k5:Option Value}{B newId:String}{mN:Str->Option Value}
end
structure yP (S:List Str) (h:Heap) (C f:Addr) (nm q:Str) (N:Addr) (bs bm bmB:List Value) (sn:List Str) (sub:List Value) (ab:Bool) (col:Option Bool) (dd:Option Addr) (k0 k1 k2 k3 k5:Option Value) (mN:Str->Option Value) (B newId initId sa ow:String):Prop where
 at_:h.get? C=some (excClassObj nm q C N bs bm true sn sub ab col dd k0 k1 k2 k3 k5 newId)
 ns:h.Ns N mN
 init:mN (Str.ofString "__init__")=some (.ref f)
 no:∀x∈S,mN x=none
 tail:iE h (Str.ofString "__init__"::S) bmB bm
 bf:ExcBaseFacts B newId initId bmB
 sf:StoreFacts B bmB sa ow
 af:ExcAttrBase B bmB
section
variable {prog:Program}{w:World}{A:Around}{E:Value->Shared->Prop}{h:Heap}{g:Array GenState}{d:Drawn}{t:Nat}{os:OsState}
 {S:List Str}{C f:Addr}{nm q:Str}{N:Addr}{bs bm bmB:List Value}{sn:List Str}{sub:List Value}{ab:Bool}{col:Option Bool}{dd:Option Addr}{k0 k1 k2 k3 k5:Option Value}{mN:Str->Option Value}{B newId initId sa ow:String}
end
section
variable {X:Cx}{pins:List (Addr×Obj)}{σ:St}{H:Hp}{s:Shared}{ea:Addr}{φ:Heap->Prop}
end
section
variable {M:Model}{A:Around}{E:Value->Shared->Prop}{s:Shared}{env:Env}{x:Sem Value}{Q:Flow->Shared->Prop}
 {nm q:Str}{C N:Addr}{bs bm:List Value}{hdct:Bool}{sn:List Str}{sub:List Value}{ab:Bool}{col:Option Bool}{dd:Option Addr}{k0 k1 k2 k3 k5:Option Value}{newId:String}
end
section
variable {X:Cx}{x:Str}{C f:Addr}{fd:FuncData}{ps:List Str}{sp:Sp}{k:Nat}{e:Expr}{es:List Expr}{t:TA}{np cpos pos:Pos}{W:Value->Option Addr->Hp->Prop}{S:List Str}
end
open Builtin Builtin.ObjectAttr
section
variable {prog:Program}{w:World}{A:Around}{E:Value->Shared->Prop}{h:Heap}{g:Array GenState}{d:Drawn}{t:Nat}{os:OsState}
 {S:List Str}{C f x:Addr}{nm q:Str}{N:Addr}{bs bm bmB:List Value}{sn:List Str}{sub:List Value}{ab:Bool}{col:Option Bool}{dd:Option Addr}{k0 k1 k2 k3 k5:Option Value}{mN:Str->Option Value}{B newId initId sa ow:String}
 {o:Obj}{vs:Array Value}{name:Str}{v:Value}
end
open Builtin Builtin.ObjectAttr
section
variable {prog:Program}{w:World}{A:Around}{E:Value->Shared->Prop}{h:Heap}{g:Array GenState}{d:Drawn}{t:Nat}{os:OsState}
 {S:List Str}{C f x dx:Addr}{nm q:Str}{N:Addr}{bs bm bmB:List Value}{sn:List Str}{sub:List Value}{ab:Bool}{col:Option Bool}{dd:Option Addr}{k0 k1 k2 k3 k5:Option Value}{mN mA:Str->Option Value}{B newId initId sa ow:String}
 {o:Obj}{vs:Array Value}{name:Str}{v:Value}
end
section
variable {X:Cx}{S:List Str}{o e value:Expr}{n:Str}{pos pos':Pos}{ta tv:TE}{C f:Addr}
end
noncomputable abbrev veM:List Value:=[.type "ValueError",.type "Exception",.type "BaseException",.type "object"]
theorem fJ {K:Frag}{h:Heap}{C:Addr} (X:K.In h) (hx:excIn K C veM "ValueError.__new__"=true):d9 h C:=vW X hx F.excBase_ValueError
noncomputable def fc (K:Frag) (C R:Addr):Bool:=match K.lookup C with
 | some ⟨.type "type",_,.cls cd,sl⟩=>(match cd.mro,sl.toList with
  | .ref C'::bm,[_,_,_,_,some (.builtin _),_]=>C' == C && !cd.hasDel && (Value.ref C::bm).contains (.ref R)
  | _,_=>false)
 | _=>false
theorem gj {K:Frag}{h:Heap}{C R:Addr} (X:K.In h) (hx:fc K C R=true):Under h C R:=by
 unfold fc at hx
 split at hx
 ·rename_i dct cd sl heq
  split at hx
  ·rename_i C' bm k0 k1 k2 k3 n k5 hm hs
   simp only [Bool.and_eq_true,Bool.not_eq_true',beq_iff_eq] at hx
   obtain⟨⟨h1,h2⟩,h3⟩:=hx
   subst h1
   have ho:=X _ _ heq
   have hsl:sl=#[k0,k1,k2,k3,some (.builtin n),k5]:=by
    rw [<- Array.toList_inj];exact hs
   obtain⟨nm,bs,mro,ns,qn,hdct,sn,sub,ab,col,hdel⟩:=cd
   simp only at hm h2 h3
   subst hm
   subst h2
   subst hsl
   exact⟨nm,qn,ns,bs,bm,hdct,sn,sub,ab,col,dct,k0,k1,k2,k3,k5,n,ho,h3⟩
  ·cases hx
 ·cases hx
section
variable {X:Cx}{st b0:Stmt}{suite:List Stmt}{tx:TSX}{th:TS}{x n:Str}{R:Addr}{j:Nat}{np hpos pos:Pos}
end
section
variable {X:Cx}{e:Expr}{es:List Expr}{pos:Pos}
end
section
variable {X:Cx}{st b0:Stmt}{suite:List Stmt}{tx:TSX}{th:TS}{x:Str}{R:Addr}{np hpos pos:Pos}
end
open Builtin Builtin.ObjectAttr
section
variable {prog:Program}{w:World}{A:Around}{E:Value->Shared->Prop}{K:Frag}{x D:Addr}{ox:Obj}{odo:Option Obj}{hh:Heap}{g:Array GenState}{d:Drawn}{t:Nat}{os:OsState}
theorem tX {M:Model}{nv:Value}{Q:Unit->Shared->Prop} (L0:Looks M hh (typeOf (.ref x)) (.ref D)) (L1:Looks M hh (isSubtype (.ref D) (.type "BaseException")) true) (hq:Q () ⟨hh,g,d,t,os⟩) :
  wpAny M A (checkBuiltinCall "BaseException.__getattribute__" ⟨[.ref x,nv],[]⟩) Q E ⟨hh,g,d,t,os⟩:=by
 have b1:builtinKind "BaseException.__getattribute__"=some .slot:=by decide +kernel
 have b2:splitId "BaseException.__getattribute__"=some ("BaseException","__getattribute__"):=by decide +kernel
 have ha:=F.args_bexc_ga (.ref x) nv
 simp only [checkBuiltinCall,b1,b2]
 refine wpAny_bind ?_
 unfold isInstance
 repeat (first | with_reducible refine L0.at ?_ | with_reducible refine L1.at ?_ | wp_step)
 exact hq
theorem sm {Q:Option Value->Shared->Prop}{s:Shared} (X:K.In s.heap) (I:InstAt s.heap x ox D odo) (SL:Slot "ValueError" "__getattribute__" "BaseException.__getattribute__") (hc:(clsIn K D).isSome=true) (hga:findIn K (.ref D) "__getattribute__"=some (some (.builtin "BaseException.__getattribute__"))) (hgb:findIn K (.ref D) "__getattr__"=some none)
  (ha:findIn K (.ref D) "__class__"=some (some (.builtin "object.__class__"))) (hn:specialIn K (.builtin "object.__class__") "__get__"=some (some (.builtin "getset_descriptor.__get__"))) (htk:takesIn K (.builtin "object.__class__")=some true)
  (hb:subIn K (.ref D) (.type "BaseException")=some true) (hm:mroIn K D (.type "object")=some true) (h:Q (some (.ref D)) { s with toks:=s.toks + 1 }) :
  wpAny (model prog w) A (getAttr? (.ref x) "__class__") Q E s:=by
 obtain⟨hh,g,d,t,os⟩:=s
 have L0:=I.type (M:=model prog w)
 have L1:=looks_findIn (M:=model prog w) X hga
 have L2:=looks_findIn (M:=model prog w) X hgb
 have L4:Looks (model prog w) hh (isSubtype (.ref D) (.type "BaseException")) true:=looks_subIn X hb
 obtain⟨cd,hc⟩:=Option.isSome_iff_exists.mp hc
 have hf:findObj K D odo "__class__"=some (.bind (.builtin "getset_descriptor.__get__") (.builtin "object.__class__")):=by
  simp only [findObj,hc,ha,hn,htk,Option.bind_some]
 have L3:=looks_find (M:=model prog w) X I hf
 have b3:=SL.bind (.ref x)
 have z2:(Value.builtin "BaseException.__getattribute__" == Value.builtin "object.__getattribute__")=false:=by decide +kernel
 unfold getAttr? getAttrBy? getAttrBy
 refine wpAny_bind (wpAny_mkText (wpAny_bind (wpAny_attempt (wpAny_holding (wpAny_bind (L0.at (wpAny_bind (L1.at ?_))))))))
 dsimp only
 rw [z2,Bool.and_false,if_neg Bool.false_ne_true]
 unfold getAttrByItsOwn hookBefore
 repeat (any_goals (first | assumption | with_reducible refine L2.at ?_ | wp_step))
 refine codeAny_call_builtin SL.plain F.entry_bexc_ga (tX L0 L4 ?_)
 unfold Builtin.«object.__getattribute__»
 repeat (any_goals (first | assumption | with_reducible refine L0.at ?_ | with_reducible refine L3.at ?_ | wp_step))
 refine class_get (s:=⟨hh,g,d,t + 1,os⟩) X I hm (wpAny_pure ?_)
 exact handed_on rfl (wpAny_pure h)
structure gP (K:Frag) (D:Addr):Prop where
 cls:(clsIn K D).isSome=true
 ga:findIn K (.ref D) "__getattribute__"=some (some (.builtin "BaseException.__getattribute__"))
 gb:findIn K (.ref D) "__getattr__"=some none
 kl:findIn K (.ref D) "__class__"=some (some (.builtin "object.__class__"))
 gt:specialIn K (.builtin "object.__class__") "__get__"=some (some (.builtin "getset_descriptor.__get__"))
 tk:takesIn K (.builtin "object.__class__")=some true
 sb:subIn K (.ref D) (.type "BaseException")=some true
 mr:mroIn K D (.type "object")=some true
noncomputable def fh (K:Frag) (D:Addr):Bool:=(clsIn K D).isSome && findIn K (.ref D) "__getattribute__" == some (some (.builtin "BaseException.__getattribute__")) && findIn K (.ref D) "__getattr__" == some none && findIn K (.ref D) "__class__" == some (some (.builtin "object.__class__")) &&
 specialIn K (.builtin "object.__class__") "__get__" == some (some (.builtin "getset_descriptor.__get__")) && takesIn K (.builtin "object.__class__") == some true && subIn K (.ref D) (.type "BaseException") == some true && mroIn K D (.type "object") == some true
theorem gy {K:Frag}{D:Addr} (h:fh K D=true):gP K D:=by
 unfold fh at h
 simp only [Bool.and_eq_true,beq_iff_eq] at h
 obtain⟨⟨⟨⟨⟨⟨⟨h1,h2⟩,h3⟩,h4⟩,h5⟩,h6⟩,h7⟩,h8⟩:=h
 exact⟨h1,h2,h3,h4,h5,h6,h7,h8⟩
theorem mI {K:Frag}{x D:Addr} (k:gP K D):KitX K (.ref x) (.ref D) (fun h=>∃ox odo,InstAt h x ox D odo) where
 ty:=fun _ _ _ ⟨_,_,I⟩=>I.type
 it:=fun _ _ X _=>by
  obtain⟨cd,hc⟩:=Option.isSome_iff_exists.mp k.cls
  unfold clsIn at hc
  split at hc
  ·rename_i ho
   intro A' Q' E' s' kk q
   unfold isType loadHead
   exact wpAny_bind (wpAny_loadPart (kk _ _ (X _ _ ho)) (wpAny_pure q))
  ·cases hc
 ne:=fun h tp dd its n sl X htp=>by
  obtain⟨cd,hc⟩:=Option.isSome_iff_exists.mp k.cls
  refine Bool.eq_false_iff.mpr fun q=>?_
  have e:D=tp:=Value.ref.inj (beq_iff_eq.mp q)
  subst e
  unfold clsIn at hc
  split at hc
  ·rename_i ho
   have z:=(X _ _ ho).symm.trans htp
   cases z
  ·cases hc
 ca:=fun X ⟨_,_,I⟩ h=>sm X I F.attrBase_ValueError.ga k.cls k.ga k.gb k.kl k.gt k.tk k.sb k.mr h
end
section
variable {X:Cx}
theorem lY {pins:List (Addr×Obj)}{σ:St}{H:Hp}{s:Shared}{a C:Addr}{dx:Option Addr} (I:Inv X pins σ H s) (ea:H a=some (c7 a C dx)) (hd:∀d,dx=some d->∃fs,H d=some (.xd fs)):∃ox odo,InstAt s.heap a ox C odo:=by
 obtain⟨⟨oe,vs,o1,o2,o3,o4,_⟩,_⟩:=(show aJ X.prog X.w H s.heap a (c7 a C dx) from I.hok a _ ea)
 cases dx with
 | none=>exact⟨oe,none,o1,o2,by unfold notCls;rw [o4],by rw [o3];exact True.intro⟩
 | some d =>
  obtain⟨fs,hf⟩:=hd d rfl
  obtain⟨mA,nA,rA⟩:=(show aJ X.prog X.w H s.heap d (.xd fs) from I.hok d _ hf)
  obtain⟨o,es,ep,h1,h2⟩:=nA.ns
  exact⟨oe,some o,o1,o2,by unfold notCls;rw [o4],by rw [o3];exact h1⟩
theorem fD {C:Addr}{c:V}{cv:Value}{b:Bool} (k:gP X.K C) (rc:∀u,RelV c u->u=cv) (e:kitOne X.K (.ref C) cv=some b):bX X (.builtin "isinstance") (fun xs H Q=>∃a dx,xs=[.ref a,c]/\H a=some (c7 a C dx)/\(∀d,dx=some d->∃fs,H d=some (.xd fs))/\Q (.bl b) H):=by
 intro pins s σ H xs us Q I r h
 obtain⟨a,dx,rfl,ea,hd,q⟩:=h
 obtain⟨u,w',rfl,rx,ry⟩:=vals2 r
 cases (show u=Value.ref a from rx)
 rw [rc _ ry]
 exact kia_one (mI k) I.kIn (lY I ea hd) e (fun z=>nomatch z) fun tk=>⟨.bl b,H,I.tok tk,rfl,q⟩
theorem qg {C:Addr}{Ds:List Addr}{b:Bool} (k:gP X.K C) (e:kitAny X.K (.ref C) (Ds.map Value.ref)=some b):bX X (.builtin "isinstance") (fun xs H Q=>∃a dx tp,xs=[.ref a,.ref tp]/\H a=some (c7 a C dx)/\(∀d,dx=some d->∃fs,H d=some (.xd fs))/\H tp=some (.tup (Ds.map V.ref))/\Q (.bl b) H):=by
 intro pins s σ H xs us Q I r h
 obtain⟨a,dx,tp,rfl,ea,hd,ht,q⟩:=h
 obtain⟨u,w',rfl,rx,ry⟩:=vals2 r
 cases (show u=Value.ref a from rx)
 cases (show w'=Value.ref tp from ry)
 obtain⟨its,rv,p,hz⟩:=I.tuple (SqT.of ht)
 have ei:its=Ds.map Value.ref:=by
  have hl:∀{vs:List Addr}{us:List Value},av (vs.map V.ref) us->us=vs.map Value.ref:=fun {vs}=>by
   induction vs with
   | nil=>intro us h;cases h;rfl
   | cons v r ih =>
    intro us h
    cases h with
    | cons h1 h2 =>
     rw [ih h2]
     exact congrArg (·::_) h1
  exact hl rv
 subst ei
 obtain⟨o,ho,hc,n,hdt⟩:=id p
 obtain⟨c1,c2,c3,c4⟩:=o
 simp only at hc hdt
 subst hc
 subst hdt
 exact kia_tup (mI k) I.kIn (lY I ea hd) ho e (fun z=>nomatch z) fun tk=>⟨.bl b,H,I.tok tk,rfl,q⟩
end
end L2
namespace L2
open PySem PySem.Spec PyProof.Rows
structure dn (k:Nat) (A:Around):Prop where
 dp:A.depth + 3 * k + 5 < recursionLimit
 un:A.units + 16 * k + 200 < cLine
 gd:A.guards=some []
theorem dn.deeper {k:Nat}{A:Around} (r:dn (k + 1) A) (env:Env):dn k (A.deeper env) :=
 ⟨by have:=r.dp;show A.depth + 1 + 3 * k + 5 < _;omega,by have:=r.un;show A.units + 3 + 16 * k + 200 < _;omega,r.gd⟩
theorem dn.depth {k:Nat}{A:Around} (r:dn k A):A.depth < recursionLimit:=by have:=r.dp;omega
noncomputable def fR (CX:CXT) (P:Program) (w:World) (K:PySem.W.Frag) (mg:Str->Option Value) (base:Heap) (N:List Str) (qual:Str) (scope:Scope) (f:Addr) (cd:Value) (A:Around) (outer:List Env) (s:Shared) (H:Hp) (E:XK):Cx:={ be CX P w K mg base N qual scope f cd A outer s H E with calm:=false }
structure yM (P:Program) (w:World) (K:PySem.W.Frag) (mg:Str->Option Value) (base:Heap) (CX:CXT) (k:Nat) (f:Addr) (fd:FuncData) (ps:List Str) (sp:Sp):Prop where
 len:∀vs H Q E,sp vs H Q E->vs.length=ps.length
 run:∀(A:Around) (outer:List Env) (s:Shared) (H:Hp) (args:Args) (us:List Value) (vs:List V) (Q:VK) (E:XK),dn k A->fw P w K mg base A outer s H->BindsTo s fd args (ps.zip us)->av vs us->sp vs H Q E ->
  codeAny (model P w) A (.call (.ref f) args) (CR CX outer P w H s Q E) s
theorem rS {CX:CXT}{P:Program}{w:World}{K:PySem.W.Frag}{mg:Str->Option Value}{base:Heap}{N ps:List Str}{qual:Str}{scope:Scope}{f:Addr}{cd:Value}{A:Around}{outer:List Env}{s s1:Shared}{H:Hp}{E:XK}{us:List Value}{vs:List V}
  (S:aL N ps scope) (e0:fw P w K mg base A outer s H) (hl:vs.length=ps.length) (r:av vs us)
  (x:InCallC s s.heap.objs.size (bindL (envOfC qual scope s.heap.objs.size f cd).kindOf (ps.zip us) fun _=>none) (cellsFrom (s.heap.objs.size + 1) scope.names []) (bindC (envOfC qual scope s.heap.objs.size f cd).kindOf (ps.zip us) fun _=>none) s1) :
  Inv (fR CX P w K mg base N qual scope f cd A outer s H E) [] (start N vs) H s1:=by
 have hpl:ps.length<=N.length:=by have:=congrArg List.length S.pre;rw [List.length_take] at this;omega
 obtain⟨h1,tk,rfl,hk⟩:=x.done
 have noA:∀b:Addr,b∉(fR CX P w K mg base N qual scope f cd A outer s H E).ex:=fun b z=>absurd (show b∈([]:List Addr) from z) (by simp)
 refine⟨⟨e0.mod,S.kind,rfl,rfl,Nat.le_refl _,fun y z c h1 h2=>?_,fun y hy=>?_,fun y c _ h=>?_,fun z=>(nomatch (show false=true from z)),Around.frames_deeper e0.frames,.inr ⟨rfl,rfl⟩,fun b z=>absurd z (noA b),e0.bs,e0.bsz,fun b _ _=>noA b,fun b z=>absurd z (noA b),e0.funs,e0.frf⟩,
  rfl,e0.bare,Un.kept hk,⟨_,x.toInCall.ns,fun i y v h1 h2 h3=>?_⟩,fun y c h=>⟨_,x.cell y c h⟩,e0.hok.fresh (Nat.le_refl _),fun y c h=>?_,fun p hp=>absurd (show p∈([]:List (Addr×Obj)) from hp) (by simp),e0.hok.kept hk,?_⟩
 ·exact name_of_addr x.apart (PySem.mem_of_lookup h1) (PySem.mem_of_lookup h2)
 ·have hy:scope.names.lookup y=some .cell\/scope.names.lookup y=some .free:=hy
  rcases hy with hy | hy
  ·exact gZ hy
  ·exact absurd rfl (S.nofree _ (PySem.mem_of_lookup hy))
 ·exact Nat.le_of_lt (x.above y c (PySem.mem_of_lookup h))
 ·have hi:i < vs.length:=by
   unfold start at h2
   by_cases hi:i < vs.length
   ·exact hi
   ·rw [List.getElem?_append_right (by simpa using hi)] at h2
    rw [List.getElem?_replicate] at h2
    split at h2 <;> cases h2
  have ha:vs[i]?=some v:=by
   unfold start at h2
   rw [List.getElem?_append_left (by simpa using hi),List.getElem?_map] at h2
   cases e:vs[i]? with
   | none=>rw [e] at h2;cases h2
   | some a=>rw [e] at h2;cases h2;rfl
  obtain⟨u,hu,rv⟩:=r.get ha
  have hp:ps[i]?=some y:=by
   rw [<- S.pre,List.getElem?_take_of_lt (by omega)];exact h1
  have ndP:ps.Nodup:=by rw [<- S.pre];exact S.nd.sublist (List.take_sublist _ _)
  refine⟨u,rv,?_⟩
  rcases S.par y (List.mem_of_getElem? hp) with k | k
  ·exact .inl ⟨k,jd ndP hp hu k⟩
  ·obtain⟨c,e⟩:=gZ (n:=s.heap.objs.size + 1) k
   refine .inr ⟨.inl k,c,e,?_⟩
   have q:=x.cell y c e
   rw [iX ndP hp hu (by show scope.names.lookup y≠_;rw [k];decide)] at q
   exact q
 ·exact e0.hok.fresh (Nat.le_of_lt (x.above y c (PySem.mem_of_lookup h)))
 ·unfold start
  show _=N.length
  rw [List.length_append,List.length_map,List.length_replicate]
  omega
section
variable {X:Cx}{CX:CXT}{k:Nat}{f C:Addr}{fd:FuncData}{ps:List Str}{sp:Sp}{dvs:List V}{ds:List Value}{E:XK}{x m:Str}{p pos apos:Pos}{e o:Expr}{es:List Expr}{ta:TE}{t:TA}
end
section
variable {P:Program}{w:World}{K:PySem.W.Frag}{mg:Str->Option Value}{base:Heap}
end
structure cQ (P:Program) (w:World) (K:PySem.W.Frag) (mg:Str->Option Value) (base:Heap) (CX:CXT) (k:Nat) (f:Addr) (fd:FuncData) (ps:List Str) (sp:Option Value->Sp):Prop where
 len:∀hv vs H Q E,sp hv vs H Q E->vs.length=ps.length
 run:∀(A:Around) (outer:List Env) (s:Shared) (H:Hp) (args:Args) (us:List Value) (vs:List V) (Q:VK) (E:XK),dn k A->fw P w K mg base A outer s H->BindsTo s fd args (ps.zip us)->av vs us->sp A.handled vs H Q E ->
  codeAny (model P w) A (.call (.ref f) args) (CR CX outer P w H s Q E) s
theorem wZ {CX:CXT}{P:Program}{w:World}{K:PySem.W.Frag}{mg:Str->Option Value}{base:Heap}{k:Nat}{f:Addr}{name qual:Str}{params:Arguments}{body:List Stmt}{scope:Scope}{dV kV doc pm cdv ct oc:Value}{an od:Option Addr}
  {osl:Array (Option Value)}{N ps:List Str}{sp:Option Value->Sp} (lk:K.lookup f=some ⟨oc,od,.func (PySem.W.fnOf name qual params body scope dV kV doc pm an cdv ct),osl⟩) (hcd:PySem.W.codeIn K cdv qual=true) (S:aL N ps scope)
  (len:∀hv vs H Q E,sp hv vs H Q E->vs.length=ps.length)
  (hbody:∀(A:Around) (outer:List Env) (s:Shared) (H:Hp) (vs:List V) (Q:VK) (E:XK),dn k (A.deeper (envOfC qual scope s.heap.objs.size f cdv))->sp A.handled vs H Q E ->
   ∃t,PSs (fR CX P w K mg base N qual scope f cdv A outer s H E) body t/\t { nx:=fun _ H'=>Q .non H',rt:=Q } (start N vs) H) :
  cQ P w K mg base CX (k + 1) f (PySem.W.fnOf name qual params body scope dV kV doc pm an cdv ct) ps sp:=by
 refine⟨len,fun A outer s H args us vs Q E hr e0 hb r hsp=>?_⟩
 have hl:=len _ _ _ _ _ hsp
 have KX:K.In s.heap:=e0.mod.kin.keeps fun b o e=>(e0.bs b o e).1
 have lim:s.heap.NoLimit:=e0.mod.nolimit.keeps fun b o e=>(e0.bs b o e).1
 have hkind:∀y∈ps.zip us,scope.names.lookup y.1=some .local\/(scope.names.lookup y.1=some .cell/\((cellsFrom (s.heap.objs.size + 1) scope.names []).lookup y.1).isSome=true):=fun ⟨n,v⟩ hy=>by
  rcases S.par n (List.of_mem_zip hy).1 with q | q
  ·exact .inl q
  ·exact .inr ⟨q,PySem.W.cellsFrom_some _ _ _ (.inl q)⟩
 refine codeAny_call_function hr.depth (KX _ _ lk) rfl S.co S.gen rfl (PySem.W.codeRec_of KX hcd) (hb _ _ _ _ ?_)
 refine wpAny_newFunctionEnv_cells S.kind hkind fun env he s1 x=>?_
 subst he
 refine⟨lim.keeps x.toInCall.keep,codeAny_func ?_⟩
 obtain⟨t,ht,hq⟩:=hbody A outer s H vs Q E (hr.deeper _) hsp
 have I:Inv (fR CX P w K mg base N qual scope f cdv A outer s H E) [] (start N vs) H s1:=rS S e0 hl r x
 refine wpAny_mono (ht [] s1 (start N vs) H _ I hq) (fun fl s' hs=>?_) fun e s' hs=>hs
 have fin:∀{σ':St}{H':Hp}{v:V}{u:Value},Inv (fR CX P w K mg base N qual scope f cdv A outer s H E) [] σ' H' s'->RelV v u->Q v H'->CE outer P w H s Q u s' :=
  fun {σ' H' v u} J rv q=>⟨v,H',J.os,J.bare,J.base,J.hok,rv,q⟩
 cases fl with
 | ret u =>
  obtain⟨v,σ',H',J,rv,q⟩:=hs
  exact fin J rv q
 | next =>
  obtain⟨σ',H',J,q⟩:=hs
  exact fin (v:=V.non) (u:=Value.none) J rfl q
 | brk =>
  obtain⟨_,_,_,q⟩:=hs
  exact False.elim q
 | cont =>
  obtain⟨_,_,_,q⟩:=hs
  exact False.elim q
section
variable {X:Cx}{CX:CXT}{k:Nat}{f C:Addr}{fd:FuncData}{ps:List Str}{sp:Option Value->Sp}{dvs:List V}{ds:List Value}{E:XK}{x m:Str}{p pos apos:Pos}{e o:Expr}{es:List Expr}{ta:TE}{t:TA}
theorem v5 {pins:List (Addr×Obj)}{σ:St}{H:Hp}{s:Shared}{Q:VK}{us:List Value}{vs:List V} (F:cQ X.prog X.w X.K X.mg X.base CX k f fd ps sp) (hr:dn k X.A) (hb:Binds X.K fd ps ds) (hd:av dvs ds) (hx:eM CX X E)
  (I:Inv X pins σ H s) (r:av vs us) (h:sp X.A.handled (vs++dvs) H Q E):wpAny (model X.prog X.w) X.A (call (.ref f) us) (EP X pins σ Q) X.xe s:=by
 have r2:av (vs++dvs) (us++ds):=r.append hd
 have hl:(us++ds).length=ps.length:=by rw [<- r2.length];exact F.len _ _ _ _ _ h
 refine wpAny_call (codeAny_mono (F.run X.A X.stack s H ⟨us,[]⟩ (us++ds) (vs++dvs) Q E hr I.env0 (hb s us I.kIn hl) r2 h) fun r s' hq=>?_)
 cases r with
 | error e=>exact hx pins σ H s e s' I hq
 | ok fl =>
  cases fl with
  | ret u=>exact I.after hq
  | next=>exact False.elim hq
  | brk=>exact False.elim hq
  | cont=>exact False.elim hq
theorem vd (F:cQ X.prog X.w X.K X.mg X.base CX k f fd ps sp) (hr:dn k X.A) (hg:Gl X x) (hm:X.mg x=some (.ref f)) (hk:PySem.W.keepIn X.K (.ref f)=true) (hb:Binds X.K fd ps ds) (hd:av dvs ds) (hx:eM CX X E)
  (ha:PA X (e::es) t) (hdb:(x == ("__debug__":Str))=false:=by decide) (he:starEach (e::es) X.env=(false,eval e X.env)::starEach es X.env:=by rfl) (hpl:(backTo pos (starEach es X.env)).any (·.1)=false:=by rfl) :
  PE X (.Call (.Name x p) (e::es) [] pos) (eA (sp X.A.handled) dvs E t):=by
 intro pins s σ H Q I h
 refine wpAny_Call_Name_kw (fL I hg hm ?_ hdb)
 refine PySem.W.callWith_K (h₀:=X.base) I.ok.mod.kin hk (thn (ha pos pins s σ H _ I h) fun us s1 ⟨vs,H1,I1,r,q⟩=>⟨I1.kIn,?_⟩) he hpl
 exact v5 F hr hb hd hx I1 r q
end
section
variable {P:Program}{w:World}{K:PySem.W.Frag}{mg:Str->Option Value}{base:Heap}
theorem Fun.okG {x qual:Str}{st:Stmt}{f:Addr}{fd:FuncData}{N ps:List Str}{k:Nat}{sp:Option Value->Sp} (F:Fun K x qual st f fd) (S:aL N ps (aB st)) (len:∀hv vs H Q E,sp hv vs H Q E->vs.length=ps.length)
  (hbody:∀(cdv:Value) (A:Around) (outer:List Env) (s:Shared) (H:Hp) (vs:List V) (Q:VK) (E:XK),dn k (A.deeper (envOfC qual (aB st) s.heap.objs.size f cdv))->sp A.handled vs H Q E ->
   ∃t,PSs (fR CX0 P w K mg base N qual (aB st) f cdv A outer s H E).nox (cW st) t/\t { nx:=fun _ H'=>Q .non H',rt:=Q } (start N vs) H):cQ P w K mg base CX0 (k + 1) f fd ps sp:=by
 obtain⟨oc,od,kV,doc,pm,an,cdv,ct,osl,rfl,lk,hcd⟩:=F.ex
 refine wZ lk hcd S len fun A outer s H vs Q E hr hsp=>?_
 obtain⟨t,h,q⟩:=hbody cdv A outer s H vs Q E hr hsp
 exact⟨t,h.nox,q⟩
noncomputable def FnG (P:Program) (w:World) (K:PySem.W.Frag) (mg:Str->Option Value) (base:Heap) (k:Nat) (x:Str) (ps:List Str) (sp:Option Value->Sp):Prop :=
 ∃f fd,mg x=some (.ref f)/\PySem.W.keepIn K (.ref f)=true/\Binds K fd ps []/\cQ P w K mg base CX0 k f fd ps sp
end
theorem wM {X:Cx}{k:Nat}{x:Str}{ps:List Str}{sp:Option Value->Sp}{e:Expr}{es:List Expr}{t:TA}{p pos:Pos} (F:FnG X.prog X.w X.K X.mg X.base k x ps sp) (hr:dn k X.A) (ha:PA X (e::es) t) (hg:Gl X x:=by rfl)
  (hdb:(x == ("__debug__":Str))=false:=by decide) (he:starEach (e::es) X.env=(false,eval e X.env)::starEach es X.env:=by rfl) (hpl:(backTo pos (starEach es X.env)).any (·.1)=false:=by rfl) :
  PE X (.Call (.Name x p) (e::es) [] pos) (eA (sp X.A.handled) [] E0 t):=by
 obtain⟨f,fd,h1,h2,h3,h4⟩:=F
 exact vd h4 hr hg h1 h2 h3 .nil o8 ha hdb he hpl
end L2
namespace L2
open PySem PySem.Spec PyProof.Rows PySem.W PySem.Calls
noncomputable def fu (h:Heap) (ea:Addr):Prop:=∃oe vs,h.get? ea=some oe/\oe.data=Data.fields vs/\vs[2]?=some Value.none
theorem fu.at {h h':Heap}{ea:Addr} (x:fu h ea) (k:∀o,h.get? ea=some o->h'.get? ea=some o):fu h' ea:=by
 obtain⟨oe,vs,h1,h2⟩:=x
 exact⟨oe,vs,k _ h1,h2⟩
theorem qG:entryFor table "proto.unchain"=some Builtin.«proto.unchain»:=entryFor_of_fast (by kernel_rfl)
theorem rM:plainId "proto.unchain"=true:=by decide +kernel
section
variable {prog:Program}{w:World}{A:Around}{E:Value->Shared->Prop}{s:Shared}
theorem qw {ea:Addr}{e:Value}{R:Result->Shared->Prop} (hx:fu s.heap ea) (hR:R (.ok (.ret .none)) s):codeAny (model prog w) A (.builtin "proto.unchain" ⟨[e,.ref ea,.ref ea,.bool false],[]⟩) R s:=by
 obtain⟨oe,vs,h1,h2,h3⟩:=hx
 refine codeAny_builtin qG ?_
 rw [Around.under_plainId rM _]
 show wpAny _ A.in1 (field (.ref ea) 2 >>= _) _ _ s
 refine wpAny_bind (wpAny_field h1 h2 h3 ?_)
 show wpAny _ A.in1 (if (Value.none == Value.none)=true then _ else _) _ _ s
 rw [if_pos (show (Value.none == Value.none)=true from rfl)]
 exact wpAny_pure hR
theorem qR {α:Type}{a ea:Addr}{Q:α->Shared->Prop}{o:Obj}{vs:Array Value} (hh:A.handled=some (.ref ea)) (hx:fu s.heap ea) (ho:s.heap.get? a=some o) (hd:o.data=Data.fields vs) (hz:2 < vs.size) (hn:ea≠a)
  (h:∀h',Heap.ExtBut a s.heap h'->(∃o',h'.get? a=some o'/\o'.cls=o.cls)->E (.ref a) { s with heap:=h' }):wpAny (model prog w) A (raiseNew (.ref a):Sem α) Q E s:=by
 unfold raiseNew
 refine wpAny_bind (wpAny_handled ?_)
 rw [hh]
 show wpAny _ _ (if (Value.ref ea != Value.ref a)=true then _ else _) _ _ s
 rw [if_pos (show (Value.ref ea != Value.ref a)=true from by simp [hn])]
 refine wpAny_bind (wpAny_holding (wpAny_runValue (qw hx ?_)))
 unfold updateField
 refine wpAny_bind (wpAny_bind (wpAny_load ho ?_))
 rw [hd]
 show wpAny _ _ (if 2 < vs.size then _ else _) _ _ s
 rw [if_pos hz]
 have d8:=Obj.data_mapFields hd (fun z=>z.setIfInBounds 2 (Value.ref ea))
 refine wpAny_update ho (wpAny_throw (h _ ((Heap.SameBut.update ..).extBut) ⟨_,Heap.get?_update_self _ ho (Obj.isFreed_of_fields d8),Obj.cls_mapFields _ _⟩))
theorem tw {it l ea:Addr}{i:Nat}{items:Array Value}{Q:Option Value->Shared->Prop} (hh:A.handled=some (.ref ea)) (hx:fu s.heap ea)
  (hit:s.heap.IsListIter it l i) (hl:s.heap.IsList l items) (hi:items[i]?=none) (hne:ea≠it)
  (hQ:∀h',Heap.ExtBut it s.heap h'->Q none { s with heap:=h' }):wpAny (model prog w) A (pyNext (.ref it)) Q E s:=by
 obtain⟨o,ho,hc,hd⟩:=id hit
 obtain⟨ol,hol,_,nl,hdl⟩:=hl
 unfold pyNext
 refine wpAny_bind (wpAny_attempt (wpAny_callSpecial?_slot (name:=Str.ofString "__next__") hit.typeIs slot_listiter_next (wpAny_call_entry slot_listiter_next hit.typeIs entry_listiter_next ?_ (args_listiter_next _))))
 show wpAny _ _ (field (.ref it) 0 >>= _) _ _ s
 refine wpAny_bind (wpAny_field ho hd (x:=.ref l) rfl ?_)
 show wpAny _ _ (if (Value.ref l == Value.none)=true then _ else _) _ _ s
 rw [if_neg (by exact Bool.false_ne_true)]
 show wpAny _ _ (field (.ref it) 1 >>= _) _ _ s
 refine wpAny_bind (wpAny_field ho hd (x:=.int i 0) rfl ?_)
 show wpAny _ _ (seqItems? (.ref l) >>= _) _ _ s
 refine wpAny_bind (wpAny_seqItems hol hdl ?_)
 simp only [Int.toNat_natCast,hi]
 refine wpAny_bind (wpAny_rule (wpAny_bind (wpAny_setField ho hd (by simp) ?_)))
 show wpAny _ _ (newExc (.type "StopIteration") [] >>= _) _ _ _
 refine wpAny_bind ?_
 simp only [newExc,newTuple]
 refine wpAny_bind (wpAny_newObj_type ?_ (by size_fits))
 refine wpAny_bind (m:=firstArgMember _ _) (wpAny_of_eq (a:=Value.none) (by first | rfl | (simp only [firstArgMember];rfl)) ?_)
 refine wpAny_newObj_type ?_ (by size_fits)
 refine qR (A:=A.in1) hh (hx.at fun o e=>Heap.get?_push_of_some _ (Heap.get?_push_of_some _ ((Heap.get?_update_other _ _ (Ne.symm hne)).trans e))) (Heap.get?_push_size _ rfl) rfl (by simp;omega) ?_ fun h' k ⟨o',q1,q2⟩=>?_
 ·obtain⟨oe,vs,z,_⟩:=hx
  have lz:=Heap.lt_size z
  intro z2
  rw [z2] at lz
  simp only [Heap.size_push,Heap.size_update] at lz
  exact Nat.lt_asymm lz (Nat.lt_succ_self _)
 ·refine wpAny_bind (wpAny_isInstance (T:="StopIteration") (b:=true) ⟨_,q1,q2⟩ isSubtype_stop ?_)
  refine wpAny_pure (hQ _ ?_)
  intro b ob hb eb
  refine k b ob (fun z2=>?_) ((((Heap.SameBut.update ..).extBut.push _).push _) b ob hb eb)
  have lz:=Heap.lt_size eb
  rw [z2] at lz
  simp only [Heap.size_push,Heap.size_update] at lz
  exact Nat.lt_asymm lz (Nat.lt_succ_self _)
end
theorem Walks.listH {prog:Program}{w:World}{A:Around}{ea:Addr} (hh:A.handled=some (.ref ea)) (I ax:Addr) (hne:ax≠I) (hna:ea≠I) (items:Array Value) :
  Walks prog w A I [I,ax,ea] [I] items.size (fun i v=>items[i]?=some v) (fun i h=>(h.IsListIter I ax i/\h.IsList ax items)/\fu h ea) where
 sub:=fun b hb=>by simp at hb;simp [hb]
 frame:=fun _ _ _ st hk=>⟨⟨st.1.1.at fun o e=>hk I (by simp) o e,st.1.2.at fun o e=>hk ax (by simp) o e⟩,st.2.at fun o e=>hk ea (by simp) o e⟩
 item:=fun i s Q E hi st hQ=>by
  refine wpAny_pyNext_list_item st.1.1 st.1.2 (x:=items[i]) (by simp [hi]) fun h' q1 q2=>hQ _ h' s.toks (by simp [hi]) ⟨⟨q1,st.1.2.extBut q2.extBut hne⟩,st.2.at fun o e=>q2.extBut _ _ hna e⟩ fun b o hb e=>?_
  exact q2.extBut b o (fun h=>hb (by simp [h])) e
 done:=fun s Q E st hQ=>tw hh st.2 st.1.1 st.1.2 (by simp) hna fun h' q=>hQ h' s.toks fun b o hb e=>q b o (fun h=>hb (by simp [h])) e
 self:=fun _ _ _ _ st hQ=>wpAny_pyIter_listiter st.1.1 hQ
section
variable {prog:Program}{w:World}{A:Around}{E:Value->Shared->Prop}{s:Shared}{R:Result->Shared->Prop}{I:Addr}{fp wr:List Addr}{n:Nat}{P:Nat->Value->Prop}{St:Nat->Heap->Prop}
theorem ite_yes {M:Model}{α:Type}{c:Prop} [Decidable c] {a b:Sem α}{Q:α->Shared->Prop} (hc:c) (h:wpAny M A a Q E s):wpAny M A (if c then a else b) Q E s:=by rw [if_pos hc];exact h
noncomputable def b2i (b:Bool):Int:=if b then 1 else 0
theorem ug (W:Walks prog w A.in1 I fp wr n P St) (bs:Nat->Bool) (hval:∀i v,P i v->v=.bool (bs i)) (hsm:∀i,i<=n->0<=preSum (fun i=>b2i (bs i)) i/\preSum (fun i=>b2i (bs i)) i<=1000) (S:Addr) (hSf:S∉fp) :
  ∀(k i:Nat) (s:Shared) (tA:Tok) (c:Nat),n - i=k->i<=n->St i s.heap->s.heap.get? S=some { cls:=.type "list",dict:=none,data:=.seq #[.int (preSum (fun i=>b2i (bs i)) i) tA] c,slots:=#[] } ->
  (∀h' tk t',(∀b o,b∉wr->b≠S->s.heap.get? b=some o->h'.get? b=some o)->R (.ok (.ret (.int (preSum (fun i=>b2i (bs i)) n) t'))) { s with heap:=h',toks:=tk }) ->
  codeAny (model prog w) A (.builtin "sum.loop" ⟨[.ref I,.ref S,rawInt 0,rawInt 0],[]⟩) R s:=by
 have hSw:S∉wr:=fun h=>hSf (W.sub _ h)
 intro k
 induction k with
 | zero =>
  intro i s tA c hk hi hst hS hR
  obtain rfl:i=n:=by omega
  refine codeAny_builtin F.entry_sum_loop ?_
  rw [Around.under_plainId F.plain_sum_loop _]
  show wpAny _ A.in1 (seqItems? (.ref S) >>= _) _ _ s
  refine wpAny_bind (wpAny_seqItems hS rfl ?_)
  show wpAny _ A.in1 (tryCatch (pyNext (.ref I)) _ >>= _) _ _ s
  exact wpAny_bind (wpAny_tryCatch (W.done s _ _ hst fun h' tk hk'=>wpAny_pure (hR h' tk tA fun b o hbw _ e=>hk' b o hbw e)))
 | succ k ih =>
  intro i s tA c hk hi hst hS hR
  have hlt:i < n:=by omega
  refine codeAny_builtin F.entry_sum_loop ?_
  rw [Around.under_plainId F.plain_sum_loop _]
  show wpAny _ A.in1 (seqItems? (.ref S) >>= _) _ _ s
  refine wpAny_bind (wpAny_seqItems hS rfl ?_)
  show wpAny _ A.in1 (tryCatch (pyNext (.ref I)) _ >>= _) _ _ s
  refine wpAny_bind (wpAny_tryCatch (W.item i s _ _ hlt hst fun v h' tk hP hst' hk'=>?_))
  obtain rfl:=hval i v hP
  have hS':=hk' S _ hSw hS
  have eN:preSum (fun i=>b2i (bs i)) i + b2i (bs i)=preSum (fun i=>b2i (bs i)) (i + 1):=rfl
  have hb:=hsm (i + 1) hlt
  rw [<- eN] at hb
  show wpAny _ A.in1 (if (_:Bool)=true then (mkInt (preSum (fun i=>b2i (bs i)) i + b2i (bs i)) >>= _) else _) _ _ _
  refine ite_yes ?_ (wpAny_bind (wpAny_mkInt ?_))
  ·show ((decide (-(2 ^ 63)<=b2i (bs i)) && decide (b2i (bs i) < 2 ^ 63)) && (decide (-(2 ^ 63)<=preSum (fun i=>b2i (bs i)) i + b2i (bs i)) && decide (preSum (fun i=>b2i (bs i)) i + b2i (bs i) < 2 ^ 63)))=true
   have h0:0<=b2i (bs i)/\b2i (bs i)<=1:=by unfold b2i;split <;> omega
   simp only [Bool.and_eq_true,decide_eq_true_eq]
   omega
  ·rw [eN]
   show wpAny _ A.in1 (updateSeq S (fun _=>#[.int (preSum (fun i=>b2i (bs i)) (i + 1)) tk]) >>= _) _ _ _
   refine wpAny_bind (wpAny_updateSeq hS' rfl (wpAny_pure ⟨plainId_quiet F.plain_sum_loop _,ih (i + 1) _ tk _ (by omega) hlt (W.frame _ _ _ hst' fun b hb o e=>?_) (Heap.get?_update_self _ hS' rfl) fun h'' tk'' t'' hk''=>?_⟩))
   ·exact (Heap.get?_update_other _ _ (fun h:S=b=>hSf (by rw [h];exact hb))).trans e
   ·exact hR h'' tk'' t'' fun b o hbw hbS e=>hk'' b o hbw hbS ((Heap.get?_update_other _ _ (Ne.symm hbS)).trans (hk' b o hbw e))
theorem sy {x:Value}{Q:Value->Shared->Prop}
  (h:wpAny (model prog w) A.in1 (pyIter x) (fun it s₂=>∃I fp wr n P St,∃bs:Nat->Bool,it=.ref I/\Walks prog w A.in1 I fp wr n P St/\St 0 s₂.heap/\(∀b∈fp,b < s₂.heap.objs.size) /\
   (∀i v,P i v->v=.bool (bs i))/\(∀i,i<=n->0<=preSum (fun i=>b2i (bs i)) i/\preSum (fun i=>b2i (bs i)) i<=1000) /\
   ∀h' tk t',(∀b o,b∉wr->s₂.heap.get? b=some o->h'.get? b=some o)->Q (.int (preSum (fun i=>b2i (bs i)) n) t') { s₂ with heap:=h',toks:=tk }) E s) :
  wpAny (model prog w) A (call (.builtin "sum") [x]) Q E s:=by
 refine call_function_tree F.kind_sum F.plain_sum F.entry_sum (F.args_sum1 _) ?_
 unfold Builtin.«sum»
 simp only [List.length_cons,List.length_nil]
 rw [if_neg (by decide)]
 refine wpAny_bind (wpAny_of_eq (show Builtin.Builtins.bindParams "sum" ["start"] 0 { }=pure [none] from rfl) (wpAny_bind (wpAny_mono h (fun it s₂ h₂=>?_) fun _ _ e=>e)))
 obtain⟨I,fp,wr,n,P,St,bs,rfl,W,hst,hfp,hval,hsm,hQ⟩:=h₂
 refine wpAny_bind (wpAny_mkInt (wpAny_bind (wpAny_pure ?_)))
 simp only [List.forIn_cons,List.forIn_nil]
 refine wpAny_bind (wpAny_bind (wpAny_bind (wpAny_isInstance (T:="int") (b:=false) (typeIs_int _ _ _) PySem.sub_int_str ?_)))
 simp only [Bool.false_eq_true,if_false]
 refine wpAny_pure (wpAny_bind (wpAny_bind (wpAny_isInstance (T:="int") (b:=false) (typeIs_int _ _ _) sub_int_bytes ?_)))
 simp only [Bool.false_eq_true,if_false]
 refine wpAny_pure (wpAny_bind (wpAny_bind (wpAny_isInstance (T:="int") (b:=false) (typeIs_int _ _ _) sub_int_bytearray ?_)))
 simp only [Bool.false_eq_true,if_false]
 refine wpAny_pure (wpAny_pure (wpAny_bind (wpAny_newObj_type ?_)))
 have hSf:s₂.heap.objs.size∉fp:=fun hm=>Nat.lt_irrefl _ (hfp _ hm)
 refine wpAny_pure ⟨plainId_quiet F.plain_sum_loop _,ug W bs hval hsm s₂.heap.objs.size hSf n 0 _ s₂.toks 0 rfl (Nat.zero_le _) (W.frame _ _ _ hst fun b _ o e=>Heap.get?_push_of_some _ e) (Heap.get?_push_size _ rfl) fun h' tk t' hk=>hQ h' tk t' fun b o hbw e=>hk b o hbw (Nat.ne_of_lt (Heap.lt_size e)) (Heap.get?_push_of_some _ e)⟩
end
section
variable {X:Cx}
theorem uJ {ns:List Bool}{us:List Value} (r:av (ns.map V.bl) us) {i:Nat}{v:Value} (h:us[i]?=some v):v=.bool ((ns[i]?).getD false):=by
 have hl:=r.length
 rw [List.length_map] at hl
 have hi:i < ns.length:=by rw [hl];exact (List.getElem?_eq_some_iff.mp h).1
 obtain⟨u,hu,ru⟩:=r.get (i:=i) (x:=.bl ns[i]) (by rw [List.getElem?_map,List.getElem?_eq_getElem hi];rfl)
 rw [h] at hu
 cases hu
 rw [List.getElem?_eq_getElem hi]
 exact ru
theorem kJ (bs:List Bool):∀i,0<=preSum (fun i=>b2i ((bs[i]?).getD false)) i/\preSum (fun i=>b2i ((bs[i]?).getD false)) i<=i
 | 0=>by simp [preSum]
 | i + 1=>by
  have:=kJ bs i
  have h0:0<=b2i ((bs[i]?).getD false)/\b2i ((bs[i]?).getD false)<=1:=by unfold b2i;split <;> omega
  rw [preSum]
  omega
theorem rT {ea C:Addr}{dx:Option Addr} (hh:X.A.handled=some (.ref ea)):bX X (.builtin "sum") (fun xs H Q=>∃(p:Addr) (bs:List Bool),xs=[.ref p]/\SqL X.K H p (bs.map V.bl)/\bs.length<=1000/\H ea=some (c7 ea C dx)/\Q (.int (bs.map b2i).sum) H):=by
 intro pins s σ H xs us Q I r h
 obtain⟨p,bs,rfl,hq,hz,he,q⟩:=h
 obtain⟨u,rfl,ru⟩:=vals1 r
 cases ru
 obtain⟨⟨oe,vs,o1,o2,o3,o4,o5⟩,_⟩:=(show aJ X.prog X.w H s.heap ea (c7 ea C dx) from I.hok ea _ he)
 obtain⟨its,rv,pl,hz'⟩:=I.list hq
 have hl:=rv.length
 rw [List.length_map] at hl
 have il:=pl.isList
 have hlt:p < s.heap.objs.size:=by obtain⟨_,e,_⟩:=il;exact Heap.lt_size e
 have hle:ea < s.heap.objs.size:=Heap.lt_size o1
 refine sy (wpAny_pyIter_list il ⟨s.heap.objs.size,[s.heap.objs.size,p,ea],[s.heap.objs.size],its.toArray.size,_,_,fun i=>(bs[i]?).getD false,rfl,Walks.listH (A:=X.A.in1) hh _ p (Nat.ne_of_lt hlt) (Nat.ne_of_lt hle) its.toArray,
  ⟨⟨⟨_,Heap.get?_push_size _ rfl,rfl,rfl⟩,il.push _⟩,⟨oe,vs,Heap.get?_push_of_some _ o1,o4,o5⟩⟩,fun b hb=>?_,fun i v hv=>uJ rv (by simpa using hv),fun i hi=>⟨(kJ bs i).1,Int.le_trans (kJ bs i).2 ?_⟩,fun h' tk t' hk=>?_⟩)
 ·show b < (s.heap.push _).objs.size
  rw [Heap.size_push]
  simp only [List.mem_cons,List.not_mem_nil,or_false] at hb
  rcases hb with rfl | rfl | rfl
  ·exact Nat.lt_succ_self _
  ·exact Nat.lt_succ_of_lt hlt
  ·exact Nat.lt_succ_of_lt hle
 ·rw [List.size_toArray] at hi;omega
 ·have e:preSum (fun i=>b2i ((bs[i]?).getD false)) its.toArray.size=(bs.map b2i).sum:=by
   rw [List.size_toArray,<- hl,jg (bs.map b2i) bs.length (by simp) fun i n e=>?_]
   ·rw [List.take_of_length_le (by simp)]
   ·rw [List.getElem?_map] at e
    cases c:bs[i]? with
    | none=>rw [c] at e;cases e
    | some b=>rw [c] at e;cases e;rfl
  rw [e]
  exact⟨.int (bs.map b2i).sum,H,I.kept (t':=tk) fun b o e=>hk b o (fun z=>absurd (Heap.lt_size e) (by rw [List.mem_singleton.mp z];exact Nat.lt_irrefl _)) (Heap.get?_push_of_some _ e),⟨_,rfl⟩,q⟩
theorem uc:MtR X "list.index" (fun x xs H Q=>∃(p:Addr) (ss:List Bool) (j:Nat) (y:Bool),x=.ref p/\xs=[.bl y]/\SqL X.K H p (ss.map V.bl)/\ss.length<=1000/\ss[j]?=some y/\(∀m,m < j->ss[m]?≠some y)/\Q (.int j) H):=by
 intro pins s σ H x xs v us Q I rx rs h
 obtain⟨p,ss,j,y,rfl,rfl,hq,hz,hj,hno,q⟩:=h
 cases rx
 obtain⟨u,rfl,ry⟩:=vals1 rs
 obtain⟨its,rv,pl,_⟩:=I.list hq
 obtain⟨⟨cl,dc,da,sl⟩,n,ho,hcl,hdc,hda⟩:=pl
 simp only at hcl hdc hda
 subst hcl hdc hda
 have hl:=rv.length
 rw [List.length_map] at hl
 have fl:(ss.map V.bl).all dH=true:=by rw [List.all_map];simp [dH,Function.comp_def]
 have hjl:j < ss.length:=(List.getElem?_eq_some_iff.mp hj).1
 have eq:∀m (hm:m < its.length),eqU (.bl y) its[m]=decide (ss[m]?=some y):=fun m hm=>by
  have hm':m < ss.length:=by omega
  obtain⟨w',hw,rw'⟩:=rv.get (i:=m) (x:=.bl ss[m]) (by rw [List.getElem?_map,List.getElem?_eq_getElem hm'];rfl)
  rw [List.getElem?_eq_getElem hm] at hw
  cases hw
  rw [jN rw' rfl,List.getElem?_eq_getElem hm']
  cases y <;> cases ss[m] <;> simp [eqV]
 refine call_meets F.slot_list_index ⟨_,ho,rfl⟩ F.entry_list_index (F.args_list_index_2 _ _)
  (SeqAt.list_indexAt p its.toArray n none sl u (eqU (.bl y)) j (by simpa [<- hl] using hjl) (by omega) ?_ ?_) ⟨ho,fun w' hw=>fE ry rfl rv fl w' (by simpa using hw),⟨.int j,H,I.tok _,⟨_,rfl⟩,q⟩⟩
 ·show eqU (.bl y) its[j]=true
  rw [eq j (by omega),hj]
  simp
 ·intro m hm hlt
  show eqU (.bl y) its[m]=false
  rw [eq m (by simpa using hm)]
  exact decide_eq_false (hno m hlt)
end
noncomputable def xH (tx:TSX) (th:Addr->TS) (j:Nat) (U:Addr->Prop):TS:=fun D σ H=>tx (fun σ1 cls dx H'=>∃C,cls=.ref C/\U C/\∀ea,H' ea=none->th ea (oX D j) (σ1.set j (some (.ref ea))) (upd H' ea (c7 ea C dx))) D σ H
section
variable {X:Cx}{st b0:Stmt}{suite:List Stmt}{tx:TSX}{th:Addr->TS}{x n:Str}{R:Addr}{j:Nat}{np hpos pos:Pos}
theorem vF (hst:PSX X st tx) (hx:X.mg x=some (.ref R)) (hR:d9 X.base R) (hth:∀ea,PSs (X.held ea) (b0::suite) (th ea)) (hN:X.N.Nodup) (hj:X.N[j]?=some n) (hn:X.env.scope.names.lookup n=some .local) (hstk:X.stack=X.env::X.outer) (hfr:X.env.frame=some X.env.locals) (hex:X.ex=[])
  (hg:Gl X x:=by rfl) (hdb:(x == ("__debug__":Str))=false:=by decide) :
  PS X (.Try [st] [.ExceptHandler (some (.Name x np)) (some n) (b0::suite) hpos] [] [] pos) (xH tx th j fun C=>Under X.base C R):=by
 intro pins s σ H D I h
 refine wpAny_Try_except (wpAny_execs_cons (wpAny_mono (hst pins s σ H D _ I h) (fun f s1 q=>?_) (fun e s1 q=>?_)))
 ·cases f with
  | next=>exact wpAny_execs_nil (wpAny_execs_nil q)
  | ret v=>exact q
  | brk=>exact q
  | cont=>exact q
 ·obtain⟨σ1,H1,s2,I1,ea,T,cls,a0,dx,H',rfl,os,bare,un,hok,n1,n2,m1,m2,trc,C,rfl,hu,hth'⟩:=q
  have I':Inv X pins σ1 H' s1:=I1.call' (ch:=[]) os un hok bare (by simp)
  have ffs:=I'.stack
  rw [hstk] at ffs
  have afr:X.A.frames=some (X.env::X.outer):=by rw [<- hstk];exact I'.ok.frames
  have there:∀b o,s2.heap.get? b=some o->∃o',s1.heap.get? b=some o':=fun b o q=>un.there b o q (by simp)
  have newAt:∀b,s2.heap.get? b=none->X.s₀.heap.get? b=none/\b≠X.env.locals/\(∀x c,X.env.cells.lookup x=some c->c≠b)/\∀p∈X.pn++pins,p.1≠b:=fun b q=>by
   refine⟨?_,fun z=>?_,fun y c e z=>?_,fun p hp z=>?_⟩
   ·cases hc:X.s₀.heap.get? b with
    | none=>rfl
    | some o =>
     obtain⟨o',q'⟩:=I1.base.there b o hc (by rw [hex];simp)
     rw [q] at q';cases q'
   ·obtain⟨m,⟨o,_,_,ho,_⟩,_⟩:=I1.loc
    rw [<- z,q] at ho;cases ho
   ·obtain⟨v,o,ho,_⟩:=I1.cell y c e
    rw [z,q] at ho;cases ho
   ·have:=(I1.pin p hp).1
    rw [z,q] at this;cases this
  have noH:∀b,s1.heap.get? b=none->H' b=none:=fun b q=>by
   cases hc:H' b with
   | none=>rfl
   | some o =>
    obtain⟨ob,q'⟩:=aJ.got (hok b o hc)
    rw [q] at q';cases q'
  have mk:∀b,s2.heap.get? b=none->H' b=none->X.s₀.heap.get? b=none/\H' b=none/\b≠X.env.locals/\(∀x c,X.env.cells.lookup x=some c->c≠b)/\∀p∈X.pn++pins,p.1≠b:=fun b q1 q2=>⟨(newAt b q1).1,q2,(newAt b q1).2⟩
  refine qE (Q:=fun _ s3=>wpAny (model X.prog X.w) X.A (handleBy (Value.ref ea) X.env [ExceptHandler.ExceptHandler (some (Expr.Name x np)) (some n) (b0::suite) hpos]) (SP X pins D) X.xe s3) (base:=X.base) afr hfr ffs trc fun h3 T3 mv3 nw3 tr3=>?_
  have nT3:s2.heap.get? T3=none/\H' T3=none:=by
   refine⟨?_,noH T3 nw3⟩
   cases hc:s2.heap.get? T3 with
   | none=>rfl
   | some o =>
    obtain⟨o',q'⟩:=there T3 o hc
    rw [nw3] at q';cases q'
  have I3:Inv X pins σ1 H' { s1 with heap:=h3 }:=I'.moved (G:=[ea,T]) (fun b hb=>by
   simp at hb
   rcases hb with z | z
   ·rw [z];exact mk ea n1 m1
   ·rw [z];exact mk T n2 m2) (fun b o q hb hg=>mv3.keep b o q (by rw [<- hstk];exact hb) hg) (fun b o q hb=>mv3.slot b o q (by rw [<- hstk];exact hb))
  refine wpAny_handleBy_cons (codeAny_handlers_test ?_) (by intro z;cases z)
  refine fL (X:=X.held ea) (I3.held ea) hg hx ?_ hdb
  obtain⟨nm,q,N,bs,bm,bmB,hdct,sn,sub,ab,col,dd,k0,k1,k2,k3,k5,mN,B,Bn,newId,nid,initId,inN,bmN,a1,a2,a3,a4,a5,a6,a7,a8⟩:=hR
  obtain⟨nm',q',N',bs',bm',hdct',sn',sub',ab',col',dd',l0,l1,l2,l3,l5,newId',c1,c2⟩:=hu
  obtain⟨oe,vs,oT,ts,g1,g2,g3,g4,g5,g6,g7,g8,g9,g10⟩:=id tr3
  refine rh (I3.bk _ _ c1) (I3.bk _ _ a1) g1 g2 a5 ?_
  rw [c2]
  show codeAny _ _ (Code.handlers (.ref ea) [ExceptHandler.ExceptHandler none (some n) (b0::suite) hpos] X.env) _ _
  refine codeAny_handlers_suite_as (ground tr3 fun h4 same4 tr4=>?_)
  have I4:Inv X pins σ1 H' { s1 with heap:=h4 }:=Inv.moved (s:={ s1 with heap:=h3 }) (h':=h4) (G:=[T3]) I3 (fun b hb=>by
   have z:b=T3:=by simpa using hb
   rw [z];exact mk T3 nT3.1 nT3.2) (fun b o q hb hg=>(same4 b fun z=>hg (by simp [z])).trans q) (fun b o q hb=>⟨o.slots,(same4 b fun z=>by
    obtain⟨o2,q2,nf⟩:=fq I3.stack b hb
    rw [z,g7] at q2;cases q2;exact nf _ g8).trans q⟩)
  obtain⟨oe4,vs4,oT4,ts4,f1,f2,f3,f4,_,_,_,_,_,f10⟩:=id tr4
  have I4t:Inv X pins σ1 (upd H' ea (c7 ea C dx)) { s1 with heap:=h4 }:=I4.track m1 (newAt ea n1).1 (newAt ea n1).2.1 (newAt ea n1).2.2.1 (newAt ea n1).2.2.2 (vy f1 f2 f10 f4 f3.2)
  refine eg (X:=X.held ea) (I4t.held ea) hN hj (.inl hn) (v:=.ref ea) rfl (fun s5 I5=>?_) (.inr hn)
  refine wpAny_mono (hth ea pins s5 (σ1.set j (some (.ref ea))) (upd H' ea (c7 ea C dx)) (oX D j) I5 (hth' ea m1)) (fun f s6 q6=>?_) (fun _ _ z=>False.elim z)
  cases f with
  | next =>
   obtain⟨σ2,H2,J,q⟩:=q6
   exact iq (J.unheld I.ok) hN hj hn fun s7 I7=>⟨σ2.set j none,H2,I7,q⟩
  | brk =>
   obtain⟨σ2,H2,J,q⟩:=q6
   exact iq (J.unheld I.ok) hN hj hn fun s7 I7=>⟨σ2.set j none,H2,I7,q⟩
  | cont =>
   obtain⟨σ2,H2,J,q⟩:=q6
   exact iq (J.unheld I.ok) hN hj hn fun s7 I7=>⟨σ2.set j none,H2,I7,q⟩
  | ret u =>
   obtain⟨v,σ2,H2,J,rv,q⟩:=q6
   exact iq (J.unheld I.ok) hN hj hn fun s7 I7=>⟨v,σ2.set j none,H2,I7,rv,q⟩
end
end L2
namespace K45
open PySem L2
noncomputable def top (i:Nat):Stmt:=PySem.Challenge.pw_rootshares_k45_roots_refused.main.body.getD i (.Pass ⟨0,0,0,0⟩)
theorem bG:bootBuiltins "isinstance"=some (.builtin "isinstance"):=by decide +kernel
theorem dF:bootBuiltins "all"=some (.builtin "all"):=by decide +kernel
theorem mh:bootBuiltins "sorted"=some (.builtin "sorted"):=by decide +kernel
theorem j8:bootBuiltins "max"=some (.builtin "max"):=by decide +kernel
theorem o6:bootBuiltins "min"=some (.builtin "min"):=by decide +kernel
theorem eS:bootBuiltins "str"=some (.type "str"):=by decide +kernel
theorem cM:bootBuiltins "tuple"=some (.type "tuple"):=by decide +kernel
theorem jT:bootBuiltins "list"=some (.type "list"):=by decide +kernel
theorem jX:bootBuiltins "int"=some (.type "int"):=by decide +kernel
theorem ou:bootBuiltins "bool"=some (.type "bool"):=by decide +kernel
theorem uE:bootBuiltins "divmod"=some (.builtin "divmod"):=by decide +kernel
structure Bl (mg:Str->Option Value):Prop where
 len:mg "len"=none
 isinstance:mg "isinstance"=none
 all:mg "all"=none
 range:mg "range"=none
 sorted:mg "sorted"=none
 repr:mg "repr"=none
 max:mg "max"=none
 min:mg "min"=none
 str:mg "str"=none
 tuple:mg "tuple"=none
 list:mg "list"=none
 int:mg "int"=none
 bool:mg "bool"=none
 zip:mg "zip"=none
 divmod:mg "divmod"=none
 abs:mg "abs"=none
 set:mg "set"=none
 enumerate:mg "enumerate"=none
 most:∃t,mg "MOST_TREES"=some (.int 6 t)
 lng:∃t,mg "LONGEST_NAME"=some (.int 8 t)
noncomputable def Fn (P:Program) (w:World) (K:PySem.W.Frag) (mg:Str->Option Value) (base:Heap) (k:Nat) (x:Str) (ps:List Str) (sp:Sp):Prop :=
 ∃f fd,mg x=some (.ref f)/\PySem.W.keepIn K (.ref f)=true/\Binds K fd ps []/\aA P w K mg base CX0 k f fd ps sp
theorem ar {X:Cx}{k:Nat}{x:Str}{ps:List Str}{sp:Sp}{e:Expr}{es:List Expr}{t:TA}{p pos:Pos} (F:Fn X.prog X.w X.K X.mg X.base k x ps sp) (hr:aK k X.A) (ha:PA X (e::es) t) (hg:Gl X x:=by rfl)
  (hdb:(x == ("__debug__":Str))=false:=by decide) (he:starEach (e::es) X.env=(false,eval e X.env)::starEach es X.env:=by rfl) (hpl:(backTo pos (starEach es X.env)).any (·.1)=false:=by rfl) :
  PE X (.Call (.Name x p) (e::es) [] pos) (eA sp [] E0 t):=by
 obtain⟨f,fd,h1,h2,h3,h4⟩:=F
 exact nc h4 hr hg h1 h2 h3 .nil o8 ha hdb he hpl
theorem bo {X:Cx}{scope:Scope}{N:List Str}{C:Addr}{s0:Shared}{H0:Hp}{fp:List Addr}{x:Str}{pos:Pos} (i:Nat) (hN:N.Nodup) (hi:N[i]?=some x) (hx:scope.names.lookup x=some .local) :
  PG (aw X scope N C s0 H0 fp) (.Name x pos) (cy i) :=
 br (X:=aw X scope N C s0 H0 fp) hN hi (.inl (lookup_relabel_local hx)) (.inr (lookup_relabel_local hx))
theorem fB {c A B:Prop} [Decidable c] (hc:c) (h:A):if decide c=true then A else B:=by
 rw [decide_eq_true hc];exact ao h
theorem fQ {c A B:Prop} [Decidable c] (hc:¬ c) (h:B):if decide c=true then A else B:=by
 rw [decide_eq_false hc];exact aH h
theorem xy {c A B:Prop} [Decidable c] (hc:¬ c) (h:A):if (!decide c)=true then A else B:=by
 rw [decide_eq_false hc];exact ao h
theorem lt1 (a b:Nat):([a] < [b]) ↔ a < b:=by rw [List.cons_lt_cons_iff];simp
structure aP (x:Str):Prop where
 lo:1<=x.length
 hi:x.length<=8
 az:∀c∈x.cps.toList,97<=c/\c<=122
theorem aP.fits {x:Str} (h:aP x):x.length < sizeLine:=by have:=h.hi;rw [sizeLine_eq];omega
theorem aP.ascii {x:Str} (h:aP x):x.cps.all (· < 128)=true:=by
 rw [Array.all_eq_true']
 intro c hc
 have:=h.az c (by simpa using hc)
 simp;omega
section
variable {P:Program}{w:World}{K:PySem.W.Frag}{mg:Str->Option Value}{base:Heap}
noncomputable def jQ:Sp:=fun vs H Q _=>∃x,vs=[.str x]/\aP x/\∀H',ai H H'->Q (.bl true) H'
theorem kC:aL ["thing"] ["thing"] (aB (top 15)):=⟨rfl,rfl,rfl,by decide +kernel,rfl,by decide +kernel,by decide +kernel⟩
theorem au {H H':Hp}{p:Addr}{o:HO} (h:ai H H') (hp:H' p=none):ai H (upd H' p o):=fun b ob e=>by
 rw [aq (bu (h b ob e) hp)];exact h b ob e
theorem rB {f:Addr}{fd:FuncData} (F:Fun K "is_name" "is_name" (top 15) f fd) (B:Bl mg):aA P w K mg base CX0 1 f fd ["thing"] jQ:=by
 refine F.ok kC (fun vs H Q E h=>?_) (fun cdv A outer s H vs Q E hr h=>?_)
 ·obtain⟨x,rfl,_⟩:=h
  rfl
 ·obtain⟨x,rfl,hx,k⟩:=h
  obtain⟨tl,hl⟩:=B.lng
  refine⟨_,am (aY (PW.pt (bS (bw (bE (aC (cb (T:="str")) rfl B.isinstance bG (ae (pv 0) (ae (bV (v:=.ty "str") rfl B.str eS rfl) ag)))))
    (cc (bw (fF dX dX aj (aC gR rfl B.len PySem.boot_len (ae (pv 0) ag)) (cG (v:=.int 8) rfl hl ⟨_,rfl⟩)))))) (ay (aD bW)) aX)
   (ay (aD (aC (dz rfl) rfl B.all dF (ae (bY (N:=["letter"]) (ix:=[none]) ⟨rfl,rfl,rfl,by decide⟩ rfl (oy (pv 0)) (fun _ _ _ _=>bo 0 (by decide) rfl rfl) (fun _ _ _ _=>bK)
    (fun _ _ _ _=>mF gT gT aM (pv 0) aM)) ag)))),?_⟩
  refine⟨_,rfl,_,_,true,rfl,.str x,?kit,true,rfl,aH ?_⟩
  case kit=>rfl
  refine⟨_,rfl,x,rfl,Nat.le_of_lt hx.fits,_,_,rfl,rfl,_,rfl,fB (by have:=hx.lo;omega) ⟨_,_,rfl,rfl,_,rfl,?_⟩⟩
  refine ez (by have:=hx.hi;omega) ?_
  refine⟨_,rfl,x,rfl,hx.ascii,mM hx.fits (fun i ys σ H1=>ys=List.replicate i (.bl true)/\ai H H1/\∃v,σ=[v]) ⟨rfl,ai.refl _,_,rfl⟩ (fun i ys σ H1 _ q=>by rw [q.1];simp) ?_ ?_⟩
  ·rintro i c ys σ H1 hc ⟨rfl,hs,v,rfl⟩
   have hcm:=hx.az c (Array.mem_toList_iff.mpr (Array.mem_of_getElem? hc))
   refine⟨_,rfl,_,_,rfl,rfl,_,rfl,xy ?_ ⟨_,_,rfl,rfl,?_,hs,_,rfl⟩⟩
   ·show ¬ ([c] < [97])
    rw [lt1];omega
   ·have e:(!decide ([122] < [c]))=true:=by rw [decide_eq_false (by rw [lt1];omega)];rfl
    show _++[V.bl (!decide ([122] < [c]))]=_
    rw [e,List.replicate_succ']
  ·rintro ys σ H1 ⟨rfl,hs,v,rfl⟩ p hp
   refine⟨p,List.replicate x.length true,rfl,SqL.of (by rw [ak,List.map_replicate]),?_⟩
   have e:(List.replicate x.length true).all id=true:=by simp
   rw [e]
   exact k _ (au hs hp)
end
theorem cF (K:PySem.W.Frag) {X:Cx} (h:X.K=K:=by rfl):IxR X (rIx K):=by subst h;exact aO
theorem mY (K:PySem.W.Frag) {X:Cx} (h:X.K=K:=by rfl):OpR X (compareOp .In) (rIn K false):=by subst h;exact gi
theorem kZ (K:PySem.W.Frag) {X:Cx} (h:X.K=K:=by rfl):OpR X (compareOp .NotIn) (rIn K true):=by subst h;exact kN
theorem gH {α:Type}{xs:List α}{z:Int}{j:Nat}{v:α} (hz:z=(j:Int)) (h:xs[j]?=some v):atI xs z=some v:=by subst hz;exact vo h
noncomputable def Sq (K:PySem.W.Frag) (H:Hp) (p:Addr) (xs:List V):Prop:=SqL K H p xs\/SqT K H p xs
theorem dB {K:PySem.W.Frag}{H H':Hp}{a:Addr}{xs:List V} (e:ai H H') (h:SqT K H a xs):SqT K H' a xs:=by
 rcases h with (h | ⟨o,h⟩) | h
 ·exact .inl (.inl (e _ _ h))
 ·exact .inl (.inr ⟨o,e _ _ h⟩)
 ·exact .inr h
theorem Sq.same {K:PySem.W.Frag}{H H':Hp}{a:Addr}{xs:List V} (h:Sq K H a xs) (e:ai H H'):Sq K H' a xs:=h.imp (fun z=>e.seq z) fun z=>dB e z
theorem aI {K:PySem.W.Frag}{H:Hp}{p:Addr}{xs:List V}{z:Int}{j:Nat}{v:V}{Q:VK} (h:Sq K H p xs) (hz:z=(j:Int)) (hx:xs[j]?=some v) (q:Q v H):rIx K (.ref p) (.int z) H Q :=
 h.elim (fun h=>.inl ⟨p,xs,z,v,rfl,rfl,h,gH hz hx,q⟩) fun h=>.inr (.inl ⟨p,xs,z,v,rfl,rfl,h,gH hz hx,q⟩)
theorem fits {n:Nat} (h:n<=1000):n < sizeLine:=rV h
theorem strAt {ss:List Str}{i:Nat} (h:i < ss.length):(ss.map V.str)[i]?=some (.str ss[i]):=by rw [List.getElem?_map,List.getElem?_eq_getElem h];rfl
theorem eE (x:Str) (ss:List Str):inV (.str x) (ss.map V.str)=decide (x∈ss):=by
 unfold inV
 rw [List.any_map]
 rw [Bool.eq_iff_iff,List.any_eq_true,decide_eq_true_iff]
 constructor
 ·rintro⟨y,hy,e⟩
  have e':y=x:=by simpa [eqV] using e
  exact e' ▸ hy
 ·intro h
  exact⟨x,h,by simp [eqV]⟩
theorem ef (ss:List Str):(ss.map V.str).all dH=true:=by
 rw [List.all_map,List.all_eq_true]
 intro y _
 rfl
noncomputable abbrev Row:=Str×Str×Str
noncomputable def eu (H:Hp) (p:Addr) (r:Row):Prop:=H p=some (.tup [.str r.1,.str r.2.1,.str r.2.2])
noncomputable abbrev bL (rs:List (Addr×Row)):List V:=rs.map fun r=>V.ref r.1
structure bg (H:Hp) (v pa ra:Addr) (ps:List Str) (rs:List (Addr×Row)):Prop where
 tp:H v=some (.tup [.ref pa,.ref ra])
 pl:H pa=some (.tup (ps.map V.str))
 rl:H ra=some (.tup (bL rs))
 rows:∀r∈rs,eu H r.1 r.2
structure Good (ps:List Str) (rs:List Row):Prop where
 ne:ps≠[]
 nm:∀x∈ps,aP x
 so:ps.Pairwise nlt
 rn:∀r∈rs,aP r.1/\r.2.1∈ps/\r.2.2∈ps/\r.2.1≠r.2.2
 rso:(rs.map (·.1)).Pairwise nlt
 pz:ps.length<=100
 rz:rs.length<=60
theorem bg.same {H H':Hp}{v pa ra:Addr}{ps:List Str}{rs:List (Addr×Row)} (h:bg H v pa ra ps rs) (e:ai H H'):bg H' v pa ra ps rs :=
 ⟨e _ _ h.tp,e _ _ h.pl,e _ _ h.rl,fun r hr=>e _ _ (h.rows r hr)⟩
section
variable {P:Program}{w:World}{K:PySem.W.Frag}{mg:Str->Option Value}{base:Heap}
noncomputable def ji (K:PySem.W.Frag):Sp:=fun vs H Q _=>∃(p:Addr) (ss:List Str),vs=[.ref p]/\Sq K H p (ss.map V.str)/\ss.Pairwise nlt/\ss.length<=1000/\∀H',ai H H'->Q (.bl true) H'
theorem pH:aL ["names"] ["names"] (aB (top 17)):=⟨rfl,rfl,rfl,by decide +kernel,rfl,by decide +kernel,by decide +kernel⟩
theorem kO {f:Addr}{fd:FuncData} (F:Fun K "is_rising" "is_rising" (top 17) f fd) (B:Bl mg):aA P w K mg base CX0 1 f fd ["names"] (ji K):=by
 refine F.ok pH (fun vs H Q E h=>?_) (fun cdv A outer s H vs Q E hr h=>?_)
 ·obtain⟨p,ss,rfl,_⟩:=h
  rfl
 ·obtain⟨p,ss,rfl,hq,hp,hz,k⟩:=h
  refine⟨_,ay (aD (aC (dz rfl) rfl B.all dF (ae (bY (N:=["at","names"]) (ix:=[none,some 0]) ⟨rfl,rfl,rfl,by decide⟩ rfl
   (je rfl B.range (ae aj (ae (aC bB rfl B.len PySem.boot_len (ae (pv 0) ag)) ag))) (fun _ _ _ _=>bo 0 (by decide) rfl rfl) (fun _ _ _ _=>bK)
   (fun _ _ _ _=>dC lC (aG (cF K) (pv 1) (aF dS (pv 0) aj) (fun _ _=>rfl)) (aG (cF K) (pv 1) (pv 0) (fun _ _=>rfl)) (aT _))) ag))),?_⟩
  have hz':(ss.map V.str).length<=1000:=by simpa using hz
  refine⟨_,rfl,p,ss.map V.str,rfl,hq,1,_,rfl,⟨by decide,by decide,by omega,by omega⟩,gf (fits (by omega)) (fun i ys σ H1=>ys=List.replicate i (.bl true)/\ai H H1/\∃v,σ=[v,some (.ref p)])
   ⟨rfl,ai.refl _,_,rfl⟩ (fun i ys σ H1 _ q=>by rw [q.1];simp) ?_ ?_⟩
  ·rintro i ys σ H1 hi ⟨rfl,hs,v,rfl⟩
   have hl:i + 1 < ss.length:=by rw [List.length_map] at hi;omega
   refine⟨_,rfl,_,rfl,_,_,rfl,rfl,aI (j:=i) (hq.same hs) (by omega) (strAt (by omega)) ⟨_,rfl,_,rfl,aI (j:=i + 1) (hq.same hs) (by push_cast;omega) (strAt hl) ⟨_,_,rfl,rfl,?_,hs,_,rfl⟩⟩⟩
   have e:ss[i].cps.toList < ss[i + 1].cps.toList:=List.pairwise_iff_getElem.mp hp i (i + 1) (by omega) hl (by omega)
   show _++[V.bl (decide (ss[i].cps.toList < ss[i + 1].cps.toList))]=_
   rw [decide_eq_true e,List.replicate_succ']
  ·rintro ys σ H1 ⟨rfl,hs,v,rfl⟩ q hqn
   refine⟨q,List.replicate _ true,rfl,SqL.of (by rw [ak,List.map_replicate]),?_⟩
   have e:∀n:Nat,(List.replicate n true).all id=true:=by simp
   rw [e]
   exact k _ (au hs hqn)
noncomputable def mS:Sp:=fun vs H Q _=>∃(p:Addr) (ss:List Str),vs=[.ref p]/\H p=some (.tup (ss.map V.str))/\(∀x∈ss,aP x)/\ss.Pairwise nlt/\ss.length<=1000/\∀H',ai H H'->Q (.bl true) H'
theorem ku:aL ["thing"] ["thing"] (aB (top 18)):=⟨rfl,rfl,rfl,by decide +kernel,rfl,by decide +kernel,by decide +kernel⟩
theorem qt {f:Addr}{fd:FuncData} (F:Fun K "is_sorted_names" "is_sorted_names" (top 18) f fd) (B:Bl mg) (F1:Fn P w K mg base 1 "is_name" ["thing"] jQ) (F2:Fn P w K mg base 1 "is_rising" ["names"] (ji K)) :
  aA P w K mg base CX0 2 f fd ["thing"] mS:=by
 refine F.ok ku (fun vs H Q E h=>?_) (fun cdv A outer s H vs Q E hr h=>?_)
 ·obtain⟨p,ss,rfl,_⟩:=h
  rfl
 ·obtain⟨p,ss,rfl,hp,hn,hs,hz,k⟩:=h
  refine⟨_,am (aY (bw (bE (aC (cb (T:="tuple")) rfl B.isinstance bG (ae (pv 0) (ae (bV (v:=.ty "tuple") rfl B.tuple cM rfl) ag))))) (ay (aD bW)) aX)
   (ay (aD (cH (aC (dz rfl) rfl B.all dF (ae (bY (N:=["name"]) (ix:=[none]) ⟨rfl,rfl,rfl,by decide⟩ rfl (cJ (pv 0)) (fun _ _ _ _=>bo 0 (by decide) rfl rfl) (fun _ _ _ _=>bK)
    (fun _ _ _ _=>ar F1 hr (ae (pv 0) ag))) ag)) (cZ (ar F2 hr (ae (pv 0) ag)))))),?_⟩
  refine⟨_,rfl,_,_,true,rfl,.tup hp,rfl,true,rfl,aH ?_⟩
  refine⟨_,rfl,p,rfl,⟨_,SqT.of hp⟩,dN (xs:=ss.map V.str) (fits (by simpa using hz)) (fun i ys σ H1=>ys=List.replicate i (.bl true)/\ai H H1/\∃v,σ=[v]) ⟨rfl,ai.refl _,_,rfl⟩
   (fun i ys σ H1 _ q=>⟨by rw [q.1];simp,dB q.2.1 (SqT.of hp)⟩) ?_ ?_⟩
  ·rintro i x ys σ H1 hx ⟨rfl,hs1,v,rfl⟩
   obtain⟨y,hy,rfl⟩:∃y∈ss,x=V.str y:=by
    obtain⟨y,e1,e2⟩:=List.mem_map.mp (List.mem_of_getElem? hx)
    exact⟨y,e1,e2.symm⟩
   exact⟨_,rfl,y,rfl,hn y hy,fun H2 hs2=>⟨by rw [List.replicate_succ'],hs1.trans hs2,_,rfl⟩⟩
  ·rintro ys σ H1 ⟨rfl,hs1,v,rfl⟩ q hqn
   refine⟨q,List.replicate _ true,rfl,SqL.of (by rw [ak,List.map_replicate]),_,rfl,?_⟩
   have e:∀n:Nat,(List.replicate n true).all id=true:=by simp
   rw [e]
   have hs2:=au (o:=.lst (List.replicate (ss.map V.str).length (.bl true))) hs1 hqn
   exact ao ⟨_,rfl,p,ss,rfl,.inr (dB hs2 (SqT.of hp)),hs,hz,fun H3 hs3=>k _ (hs2.trans hs3)⟩
noncomputable def jF (K:PySem.W.Frag):Sp:=fun vs H Q _=>∃(x:Str) (p:Addr) (ss:List Str),vs=[.str x,.ref p]/\Sq K H p (ss.map V.str)/\Q (.bl (decide (x∈ss))) H
theorem kj:aL ["thing","names"] ["thing","names"] (aB (top 19)):=⟨rfl,rfl,rfl,by decide +kernel,rfl,by decide +kernel,by decide +kernel⟩
theorem qU {f:Addr}{fd:FuncData} (F:Fun K "is_among" "is_among" (top 19) f fd) (B:Bl mg):aA P w K mg base CX0 1 f fd ["thing","names"] (jF K):=by
 refine F.ok kj (fun vs H Q E h=>?_) (fun cdv A outer s H vs Q E hr h=>?_)
 ·obtain⟨x,p,ss,rfl,_⟩:=h
  rfl
 ·obtain⟨x,p,ss,rfl,hp,k⟩:=h
  refine⟨_,ay (aD (cH (aC (cb (T:="str")) rfl B.isinstance bG (ae (pv 0) (ae (bV (v:=.ty "str") rfl B.str eS rfl) ag)))
   (cZ (dC gi (pv 0) (pv 1) (by with_unfolding_all rfl))))),?_⟩
  refine⟨_,rfl,_,_,true,rfl,.str x,rfl,true,rfl,ao ⟨_,rfl,_,rfl,p,ss.map V.str,rfl,hp,rfl,ef ss,?_⟩⟩
  show Q (.bl (inV (.str x) (ss.map V.str))) H
  rw [eE]
  exact k
noncomputable def lX:Sp:=fun vs H Q _=>∃(p q:Addr) (r:Row) (ps:List Str),vs=[.ref p,.ref q]/\eu H p r/\H q=some (.tup (ps.map V.str))/\aP r.1/\r.2.1∈ps/\r.2.2∈ps/\r.2.1≠r.2.2/\∀H',ai H H'->Q (.bl true) H'
theorem eV:aL ["thing","places","name","start","end"] ["thing","places"] (aB (top 20)):=⟨rfl,rfl,rfl,by decide +kernel,rfl,by decide +kernel,by decide +kernel⟩
theorem qk {f:Addr}{fd:FuncData} (F:Fun K "is_tie_row" "is_tie_row" (top 20) f fd) (B:Bl mg) (F1:Fn P w K mg base 1 "is_name" ["thing"] jQ) (F2:Fn P w K mg base 1 "is_among" ["thing","names"] (jF K)) :
  aA P w K mg base CX0 2 f fd ["thing","places"] lX:=by
 refine F.ok eV (fun vs H Q E h=>?_) (fun cdv A outer s H vs Q E hr h=>?_)
 ·obtain⟨p,q,r,ps,rfl,_⟩:=h
  rfl
 ·obtain⟨p,q,r,ps,rfl,hp,hq,h1,h2,h3,h4,k⟩:=h
  have hp':H p=some (.tup [.str r.1,.str r.2.1,.str r.2.2]):=hp
  refine⟨_,am (aY (PW.pt (bS (bw (bE (aC (cb (T:="tuple")) rfl B.isinstance bG (ae (pv 0) (ae (bV (v:=.ty "tuple") rfl B.tuple cM rfl) ag)))))
    (cc (aV cf (aC bB rfl B.len PySem.boot_len (ae (pv 0) ag)) aj (aT _))))) (ay (aD bW)) aX)
   (am (dR (pv 0) (dj rfl (n:=3) (bC (br (i:=2) eV.nd rfl (Or.inl rfl)) (bC (br (i:=3) eV.nd rfl (Or.inl rfl)) (bC (br (i:=4) eV.nd rfl (Or.inl rfl)) cX)))))
   (ay (aD (cH (ar F1 hr (ae (pv 2) ag)) (cH (ar F2 hr (ae (pv 3) (ae (pv 1) ag))) (cH (ar F2 hr (ae (pv 4) (ae (pv 1) ag))) (cZ (dC cf (pv 3) (pv 4) (aT _))))))))),?_⟩
  refine⟨_,rfl,_,_,true,rfl,.tup hp',rfl,true,rfl,aH ⟨_,rfl,p,_,rfl,.inr (SqT.of hp'),rfl,_,rfl,ez rfl ?_⟩⟩
  refine⟨_,rfl,p,_,rfl,SqT.of hp',rfl,_,_,rfl,_,_,rfl,_,_,rfl,rfl,?_⟩
  refine⟨_,rfl,r.1,rfl,h1,fun H1 s1=>⟨true,rfl,ao ⟨_,rfl,_,rfl,r.2.1,q,ps,rfl,.inr (dB s1 (SqT.of hq)),_,rfl,fB h2 ⟨_,rfl,_,rfl,r.2.2,q,ps,rfl,.inr (dB s1 (SqT.of hq)),_,rfl,fB h3 ⟨_,rfl,_,rfl,rfl,?_⟩⟩⟩⟩⟩
  have e:(!decide (V.str r.2.1=V.str r.2.2))=true:=by
   rw [decide_eq_false (fun z=>h4 (V.str.inj z))];rfl
  rw [e]
  exact k H1 s1
end
theorem ee {α β:Type} (f:α->β) (l:List α) (i:Nat) (x:α) (h:l[i]?=some x):(l.take (i + 1)).map f=(l.take i).map f++[f x]:=by
 rw [List.take_add_one,h];simp
theorem iV {rs:List (Addr×Row)}{i:Nat}{x:V} (h:(bL rs)[i]?=some x):∃r,rs[i]?=some r/\x=.ref r.1:=by
 unfold bL at h
 rw [List.getElem?_map] at h
 cases e:rs[i]? with
 | none=>rw [e] at h;cases h
 | some r=>rw [e] at h;exact⟨r,rfl,(Option.some.inj h).symm⟩
section
variable {P:Program}{w:World}{K:PySem.W.Frag}{mg:Str->Option Value}{base:Heap}
noncomputable def dY (r:V):Sp:=fun vs H Q _=>∃(v pa ra:Addr) (ps:List Str) (rs:List (Addr×Row)),vs=[.ref v]/\bg H v pa ra ps rs/\Good ps (rs.map (·.2))/\∀H',ai H H'->Q r H'
theorem fV:aL ["thing","places","rows"] ["thing"] (aB (top 21)):=⟨rfl,rfl,rfl,by decide +kernel,rfl,by decide +kernel,by decide +kernel⟩
theorem sE {f:Addr}{fd:FuncData} (F:Fun K "is_web" "is_web" (top 21) f fd) (B:Bl mg) (F1:Fn P w K mg base 2 "is_sorted_names" ["thing"] mS) (F2:Fn P w K mg base 2 "is_tie_row" ["thing","places"] lX)
  (F3:Fn P w K mg base 1 "is_rising" ["names"] (ji K)):aA P w K mg base CX0 3 f fd ["thing"] (dY (.bl true)):=by
 refine F.ok fV (fun vs H Q E h=>?_) (fun cdv A outer s H vs Q E hr h=>?_)
 ·obtain⟨v,pa,ra,ps,rs,rfl,_⟩:=h
  rfl
 ·obtain⟨v,pa,ra,ps,rs,rfl,W,G,k⟩:=h
  have hr1:aK 1 _:=hr.mono (by decide)
  refine⟨_,am (aY (PW.pt (bS (bw (bE (aC (cb (T:="tuple")) rfl B.isinstance bG (ae (pv 0) (ae (bV (v:=.ty "tuple") rfl B.tuple cM rfl) ag)))))
    (cc (aV cf (aC bB rfl B.len PySem.boot_len (ae (pv 0) ag)) aj (aT _))))) (ay (aD bW)) aX)
   (am (dR (pv 0) (dj rfl (n:=2) (bC (br (i:=1) fV.nd rfl (Or.inr rfl)) (bC (br (i:=2) fV.nd rfl (Or.inl rfl)) cX))))
   (am (aY (PW.pt (bS (bw (bE (ar F1 hr (ae (pv 1) ag)))) (bS (aV dG (aC bB rfl B.len PySem.boot_len (ae (pv 1) ag)) aj (aT _))
    (cc (bw (bE (aC (cb (T:="tuple")) rfl B.isinstance bG (ae (pv 2) (ae (bV (v:=.ty "tuple") rfl B.tuple cM rfl) ag))))))))) (ay (aD bW)) aX)
   (ay (aD (cH (aC (dz rfl) rfl B.all dF (ae (bY (N:=["row","places"]) (ix:=[none,some 1]) ⟨rfl,rfl,rfl,by decide⟩ rfl (cJ (pv 2)) (fun _ _ _ _=>bo 0 (by decide) rfl rfl) (fun _ _ _ _=>bK)
    (fun _ _ _ _=>ar F2 hr (ae (pv 0) (ae (pv 1) ag)))) ag))
    (cZ (ar F3 hr1 (ae (bY (N:=["row"]) (ix:=[none]) ⟨rfl,rfl,rfl,by decide⟩ rfl (cJ (pv 2)) (fun _ _ _ _=>bo 0 (by decide) rfl rfl) (fun _ _ _ _=>bK)
     (fun _ _ _ _=>aG (cF K) (pv 0) aj (fun _ _=>rfl))) ag)))))))),?_⟩
  have hlen:(bL rs).length<=1000:=by have:=G.rz;simp at this ⊢;omega
  refine⟨_,rfl,_,_,true,rfl,.tup W.tp,rfl,true,rfl,aH ⟨_,rfl,v,_,rfl,.inr (SqT.of W.tp),rfl,_,rfl,ez rfl ?_⟩⟩
  refine⟨_,rfl,v,_,rfl,SqT.of W.tp,rfl,_,_,rfl,_,_,rfl,rfl,?_⟩
  refine⟨_,rfl,pa,ps,rfl,W.pl,G.nm,G.so,by have:=G.pz;omega,fun H1 s1=>⟨true,rfl,aH ?_⟩⟩
  refine⟨_,rfl,pa,_,rfl,.inr (SqT.of (s1 _ _ W.pl)),rfl,_,rfl,fQ ?_ ?_⟩
  ·intro z
   have z':((ps.map V.str).length:Int)=0:=V.int.inj z
   have:ps.length≠0:=fun q=>G.ne (List.length_eq_zero_iff.mp q)
   rw [List.length_map] at z'
   omega
  refine⟨_,rfl,_,_,true,rfl,.tup (s1 _ _ W.rl),rfl,true,rfl,aH ?_⟩
  refine⟨_,rfl,ra,rfl,⟨_,SqT.of (s1 _ _ W.rl)⟩,dN (xs:=bL rs) (fits hlen) (fun i ys σ H2=>ys=List.replicate i (.bl true)/\ai H H2/\∃x,σ=[x,some (.ref pa)]) ⟨rfl,s1,_,rfl⟩
   (fun i ys σ H2 _ q=>⟨by rw [q.1];simp,SqT.of (q.2.1 _ _ W.rl)⟩) ?_ ?_⟩
  ·rintro i x ys σ H2 hx ⟨rfl,s2,y,rfl⟩
   obtain⟨r,hr',rfl⟩:=iV hx
   have hm:=List.mem_of_getElem? hr'
   obtain⟨g1,g2,g3,g4⟩:=G.rn r.2 (List.mem_map_of_mem hm)
   exact⟨_,rfl,_,rfl,r.1,pa,r.2,ps,rfl,s2 _ _ (W.rows r hm),s2 _ _ W.pl,g1,g2,g3,g4,fun H3 s3=>⟨by rw [List.replicate_succ'],s2.trans s3,_,rfl⟩⟩
  ·rintro ys σ H2 ⟨rfl,s2,y,rfl⟩ q hqn
   have s3:=au (o:=.lst (List.replicate (bL rs).length (.bl true))) s2 hqn
   refine⟨q,List.replicate _ true,rfl,SqL.of (by rw [ak,List.map_replicate]),_,rfl,?_⟩
   have e:∀n:Nat,(List.replicate n true).all id=true:=by simp
   rw [e]
   refine ao ⟨_,rfl,ra,rfl,⟨_,SqT.of (s3 _ _ W.rl)⟩,dN (xs:=bL rs) (fits hlen) (fun i ys σ H4=>ys=((rs.take i).map fun r=>V.str r.2.1)/\ai H H4/\∃x,σ=[x]) ⟨rfl,s3,_,rfl⟩
    (fun i ys σ H4 _ q=>⟨by rw [q.1];simp;omega,SqT.of (q.2.1 _ _ W.rl)⟩) ?_ ?_⟩
   ·rintro i x ys σ H4 hx ⟨rfl,s4,z,rfl⟩
    obtain⟨r,hr',rfl⟩:=iV hx
    have hm:=List.mem_of_getElem? hr'
    exact⟨_,rfl,aI (j:=0) (.inr (SqT.of (s4 _ _ (W.rows r hm)))) rfl rfl ⟨(ee _ _ _ _ hr').symm,s4,_,rfl⟩⟩
   ·rintro ys σ H4 ⟨rfl,s4,z,rfl⟩ q2 hq2
    refine⟨q2,rs.map (·.2.1),rfl,.inl (SqL.of (by rw [ak];simp)),?_,by simpa using hlen,fun H5 s5=>k _ ((au s4 hq2).trans s5)⟩
    have:=G.rso
    rw [List.map_map] at this
    exact this
end
theorem gQ {α:Type} (p:α->Bool) (l:List α) (i:Nat) (x:α) (h:l[i]?=some x):(l.take (i + 1)).filter p=(l.take i).filter p++(if p x then [x] else []):=by
 rw [List.take_add_one,h,List.filter_append]
 simp only [Option.toList_some,List.filter_cons,List.filter_nil]
theorem take_all {α:Type} (l:List α) {n:Nat} (h:n=l.length):l.take n=l:=by subst h;exact List.take_length
noncomputable abbrev nms (rs:List (Addr×Row)):List Str:=rs.map (·.2.1)
theorem lO {α β:Type} (f:α->β):∀(l':List β) (l:List α),l'.Perm (l.map f)->∃l'':List α,l''.Perm l/\l''.map f=l'
 | [],l,h=>by
  have:l=[]:=by simpa using h.length_eq.symm
  subst this
  exact⟨[],.refl _,rfl⟩
 | b::t,l,h=>by
  obtain⟨a,ha,rfl⟩:=List.mem_map.mp (h.mem_iff.mp List.mem_cons_self)
  obtain⟨u,v,rfl⟩:=List.append_of_mem ha
  have h2:(f a::t).Perm (f a::(u++v).map f):=by
   refine h.trans ?_
   rw [List.map_append,List.map_cons,List.map_append]
   exact List.perm_middle
  obtain⟨w,hw,e⟩:=lO f t (u++v) h2.cons_inv
  exact⟨a::w,(hw.cons a).trans List.perm_middle.symm,by rw [List.map_cons,e]⟩
structure yO (ps ls:List Str):Prop where
 ne:ls≠[]
 nm:∀x∈ls,aP x
 so:ls.Pairwise nlt
 sub:∀x∈ls,x∈ps
 z:ls.length<=100
theorem mL {ss:List Str} (h:ss.Pairwise nlt):ss.Nodup:=h.imp fun {a b} hab e=>by
 subst e;exact absurd hab (List.lt_irrefl _)
theorem mP (rs:List (Addr×Row)):refs (rs.map fun r=>(r.1,r.2.1))=bL rs:=by
 unfold refs bL
 rw [List.map_map]
 rfl
theorem ni (K:PySem.W.Frag) {X:Cx}{es:List Expr}{k:Nat}{t:TGs}{n:Nat}{pos:Pos} (hc:X.calm=true) (h:PGs X es t) (hK:X.K=K:=by rfl) (hn:(assignEach es X.env).length=n:=by rfl) (hst:(assignEach es X.env).findIdx? (·.1)=none:=by rfl) :
  PG X (.Tuple es k pos) (pX K n t):=by subst hK;exact dj hc h hn hst
section
variable {P:Program}{w:World}{K:PySem.W.Frag}{mg:Str->Option Value}{base:Heap}
theorem pU:aL ["thing"] ["thing"] (aB (top 22)):=⟨rfl,rfl,rfl,by decide +kernel,rfl,by decide +kernel,by decide +kernel⟩
theorem qT {f:Addr}{fd:FuncData} (F:Fun K "need_web" "need_web" (top 22) f fd) (F1:Fn P w K mg base 3 "is_web" ["thing"] (dY (.bl true))):aA P w K mg base CX0 4 f fd ["thing"] (dY .non):=by
 refine F.ok pU (fun vs H Q E h=>?_) (fun cdv A outer s H vs Q E hr h=>?_)
 ·obtain⟨v,pa,ra,ps,rs,rfl,_⟩:=h
  rfl
 ·obtain⟨v,pa,ra,ps,rs,rfl,W,G,k⟩:=h
  refine⟨_,ay (aY (bw (bE (ar F1 hr (ae (pv 0) ag)))) cx aX),?_⟩
  exact⟨_,rfl,v,pa,ra,ps,rs,rfl,W,G,fun H1 s1=>⟨true,rfl,aH (k H1 s1)⟩⟩
noncomputable def lead (ls:List Str) (r:Addr×Row):Bool:=decide (r.2.2.2∈ls) && !decide (r.2.2.1∈ls)
noncomputable def jV:Sp:=fun vs H Q _=>∃(l:Addr) (r:Addr×Row) (ls:List Str),vs=[.ref r.1,.ref l]/\eu H r.1 r.2/\H l=some (.tup (ls.map V.str))/\Q (.bl (lead ls r)) H
theorem xX:aL ["row","lot"] ["row","lot"] (aB (top 27)):=⟨rfl,rfl,rfl,by decide +kernel,rfl,by decide +kernel,by decide +kernel⟩
theorem qm {f:Addr}{fd:FuncData} (F:Fun K "leads_into" "leads_into" (top 27) f fd):aA P w K mg base CX0 1 f fd ["row","lot"] jV:=by
 refine F.ok xX (fun vs H Q E h=>?_) (fun cdv A outer s H vs Q E hr h=>?_)
 ·obtain⟨l,r,ls,rfl,_⟩:=h
  rfl
 ·obtain⟨l,r,ls,rfl,hrow,hl,k⟩:=h
  refine⟨_,ay (aD (cH (dC gi (aG aO (pv 0) aj (fun _ _=>rfl)) (pv 1) (by with_unfolding_all rfl)) (cZ (dC kN (aG aO (pv 0) aj (fun _ _=>rfl)) (pv 1) (by with_unfolding_all rfl))))),?_⟩
  have hS:Sq K H l (ls.map V.str):=.inr (SqT.of hl)
  refine⟨_,rfl,aI (j:=2) (.inr (SqT.of hrow)) rfl rfl ⟨_,rfl,l,ls.map V.str,rfl,hS,rfl,ef ls,?_⟩⟩
  have e1:(inV (.str r.2.2.2) (ls.map V.str))=decide (r.2.2.2∈ls):=eE _ _
  have e2:(inV (.str r.2.2.1) (ls.map V.str))=decide (r.2.2.1∈ls):=eE _ _
  refine⟨inV (.str r.2.2.2) (ls.map V.str),rfl,?_⟩
  rw [e1]
  refine bA (fun c=>⟨_,rfl,aI (j:=1) (.inr (SqT.of hrow)) rfl rfl ⟨_,rfl,l,ls.map V.str,rfl,hS,rfl,ef ls,?_⟩⟩) (fun c=>?_)
  ·show Q (.bl (!inV (.str r.2.2.1) (ls.map V.str))) H
   rw [e2]
   have:lead ls r=!decide (r.2.2.1∈ls):=by unfold lead;rw [c];rfl
   rw [<- this];exact k
  ·simp only [Bool.not_eq_true] at c
   have:lead ls r=false:=by unfold lead;rw [c];rfl
   rw [this] at k
   first | exact k | (rw [c];exact k) | skip
noncomputable def iO:Sp:=fun vs H Q _=>∃(v pa ra:Addr) (ps:List Str) (rs:List (Addr×Row)) (x:Str),vs=[.ref v,.str x]/\bg H v pa ra ps rs/\x∈ps/\Q .non H
theorem pS:aL ["web","thing"] ["web","thing"] (aB (top 24)):=⟨rfl,rfl,rfl,by decide +kernel,rfl,by decide +kernel,by decide +kernel⟩
theorem qj {f:Addr}{fd:FuncData} (F:Fun K "need_place" "need_place" (top 24) f fd) (F1:Fn P w K mg base 1 "is_among" ["thing","names"] (jF K)):aA P w K mg base CX0 2 f fd ["web","thing"] iO:=by
 refine F.ok pS (fun vs H Q E h=>?_) (fun cdv A outer s H vs Q E hr h=>?_)
 ·obtain⟨v,pa,ra,ps,rs,x,rfl,_⟩:=h
  rfl
 ·obtain⟨v,pa,ra,ps,rs,x,rfl,W,hx,k⟩:=h
  refine⟨_,ay (aY (bw (bE (ar F1 hr (ae (pv 1) (ae (aG aO (pv 0) aj (fun _ _=>rfl)) ag))))) cx aX),?_⟩
  exact⟨_,rfl,_,rfl,aI (j:=0) (.inr (SqT.of W.tp)) rfl rfl ⟨x,pa,ps,rfl,.inr (SqT.of W.pl),_,rfl,ez hx k⟩⟩
end
theorem ai.upd0 {H H':Hp}{q:Addr}{o:HO} (h:ai H H') (hq:H q=none):ai H (upd H' q o):=fun b ob e=>by
 rw [aq (bu e hq)];exact h b ob e
theorem lt0 {k:Nat}{A:Around} (r:aK k A):A.units < cLine:=by have:=r.un;omega
theorem dZ {k:Nat}{A:Around} (r:aK k A):A.units + 1 < cLine:=by have:=r.un;omega
noncomputable def Pot (H:Hp) (p:Addr):Prop:=∃a b,H p=some (.lst [.int a,.int b])/\0<=b/\b < 2147483629
noncomputable def Kp (P:List Addr) (H H':Hp):Prop:=∀b o,H b=some o->b∉P->H' b=some o
theorem Kp.refl (P:List Addr) (H:Hp):Kp P H H:=fun _ _ h _=>h
theorem Kp.trans {P:List Addr}{H H1 H2:Hp} (a:Kp P H H1) (b:Kp P H1 H2):Kp P H H2:=fun c o h n=>b c o (a c o h n) n
theorem Kp.same {P:List Addr}{H H':Hp} (a:ai H H'):Kp P H H':=fun c o h _=>a c o h
theorem Kp.of_same {P:List Addr}{H H1 H2:Hp} (a:Kp P H H1) (b:ai H1 H2):Kp P H H2:=fun c o h n=>b c o (a c o h n)
theorem Kp.inn {P:List Addr}{H H1:Hp}{p:Addr}{o:HO} (a:Kp P H H1) (hp:p∈P):Kp P H (upd H1 p o):=fun c ob h n=>by rw [aq (show c≠p from fun z=>n (by rw [z];exact hp))];exact a c ob h n
theorem Kp.new {P:List Addr}{H H1:Hp}{p:Addr}{o:HO} (a:Kp P H H1) (hp:H1 p=none):Kp P H (upd H1 p o):=fun c ob h n=>by rw [aq (bu (a c ob h n) hp)];exact a c ob h n
noncomputable def eF:Str:=Str.ofString "abcdefghijklmnopqrstuvwxyz"
theorem qN:∀r:_root_.Fin 26,eF.cps.toList[r.val]?=some (97 + r.val):=by decide +kernel
theorem iT {r:Nat} (h:r < 26):eF.cps.toList[r]?=some (97 + r):=qN ⟨r,h⟩
theorem iM:eF.length<=sizeLine:=by decide
theorem join_one (cs:List Nat):(Txt.join (Str.ofString "") (cs.map fun c=>(⟨#[c]⟩:Str))).cps.toList=cs:=by
 have e0:(Str.ofString "").cps=#[]:=by decide
 show (Builtin.Str.glued (Str.ofString "") _).cps.toList=cs
 rw [StrLaws.glued_eq_join]
 induction cs with
 | nil=>rfl
 | cons c t ih =>
  cases t with
  | nil=>rfl
  | cons d r =>
   show (((⟨#[c]⟩:Str)++Str.ofString ""++Str.join (Str.ofString "") ((d::r).map fun c=>(⟨#[c]⟩:Str))).cps).toList=_
   rw [Str.cps_append,Str.cps_append,e0,Array.toList_append,Array.toList_append,ih]
   rfl
theorem aP.of_codes {x:Str}{l:List Nat} (e:x.cps.toList=l) (h1:1<=l.length) (h8:l.length<=8) (h:∀c∈l,97<=c/\c<=122):aP x:=by
 have hl:x.length=l.length:=by rw [<- e];simp [Str.length]
 exact⟨by omega,by omega,by rw [e];exact h⟩
theorem fO {H:Hp}{p t:Addr}{ss:List Str} (h1:Pot H p) (h2:H t=some (.lst (ss.map V.str))):t≠p:=by
 rintro rfl
 obtain⟨a,b,e,_⟩:=h1
 rw [e] at h2
 have h3:=HO.lst.inj (Option.some.inj h2)
 cases ss with
 | nil=>cases h3
 | cons x r=>rw [List.map_cons] at h3;cases List.cons.inj h3 |>.1
theorem lH:∀(r:List Str) (x:Str),PyProof.Rows.risingS x r=true->(x::r).Nodup->(x::r).Pairwise nlt
 | [],x,_,_=>by simp
 | y::r,x,h,hn=>by
  have h':(!PySem.Spec.ltCps y.cps.toList x.cps.toList && PyProof.Rows.risingS y r)=true:=h
  rw [Bool.and_eq_true,PyProof.Rows.ltCps_eq] at h'
  have hn':=List.nodup_cons.mp hn
  have ih:=lH r y h'.2 hn'.2
  have hxy:nlt x y:=by
   rcases nC (fun e=>hn'.1 (e ▸ List.mem_cons_self):x≠y) with z | z
   ·exact z
   ·rw [decide_eq_true z] at h'
    exact absurd h'.1 (by simp)
  refine List.pairwise_cons.mpr ⟨fun z hz=>?_,ih⟩
  rcases List.mem_cons.mp hz with rfl | hz
  ·exact hxy
  ·exact List.lt_trans hxy ((List.pairwise_cons.mp ih).1 z hz)
theorem sT {ss:List Str} (h:PyProof.Rows.sortedS ss=true) (hn:ss.Nodup):ss.Pairwise nlt:=by
 cases ss with
 | nil=>exact .nil
 | cons x r=>exact lH r x h hn
theorem Kp.free {P:List Addr}{H H':Hp} (k:Kp P H H') (hP:∀b∈P,∃o,H' b=some o) {q:Addr} (hq:H' q=none):H q=none:=by
 cases e:H q with
 | none=>rfl
 | some o =>
  by_cases hm:q∈P
  ·obtain⟨o',e'⟩:=hP q hm
   rw [hq] at e';cases e'
  ·rw [k q o e hm] at hq;cases hq
theorem Pot.some {H:Hp}{p:Addr} (h:Pot H p):∃o,H p=some o:=let ⟨a,b,e,_⟩:=h;⟨_,e⟩
theorem Pot.keep {H H':Hp}{p:Addr} (h:Pot H p) (e:∀o,H p=Option.some o->H' p=Option.some o):Pot H' p:=let ⟨a,b,q,r⟩:=h;⟨a,b,e _ q,r⟩
theorem tup_ne {H:Hp}{a b:Addr}{xs ys:List V} (h1:H a=some (.tup xs)) (h2:H b=some (.lst ys)):a≠b:=j3 h1 h2 (by intro z;cases z)
theorem xf {H H':Hp}{P:List Addr}{b:Addr}{xs:List V} (k:Kp P H H') (hP:∀c∈P,∃ys,H c=some (.lst ys)) (e:H b=some (.tup xs)):H' b=some (.tup xs) :=
 k b _ e fun hb=>by
  obtain⟨ys,e'⟩:=hP b hb
  exact tup_ne e e' rfl
theorem Pot.lst {H:Hp}{p:Addr} (h:Pot H p):∃ys,H p=Option.some (HO.lst ys):=let ⟨a,b,e,_⟩:=h;⟨_,e⟩
theorem Pot.ne_new {H:Hp}{p q:Addr} (h:Pot H p) (hq:H q=none):q≠p:=fun z=>by obtain⟨o,e⟩:=h.some;rw [<- z,hq] at e;cases e
theorem Pot.upd {H:Hp}{p q:Addr}{o:HO} (h:Pot H p) (hq:q≠p):Pot (upd H q o) p:=h.keep fun ob e=>by rw [aq hq.symm];exact e
theorem Pot.new {H:Hp}{p q:Addr}{o:HO} (h:Pot H p) (hq:H q=none):Pot (L2.upd H q o) p:=h.upd (h.ne_new hq)
theorem Kp.free1 {p q:Addr}{H H1:Hp} (k:Kp [p] H H1) (hp:Pot H1 p) (hq:H1 q=none):H q=none:=k.free (fun b hb=>by
 have e:b=p:=by simpa using hb
 subst e;exact hp.some) hq
theorem Kp.tup {p b:Addr}{H H1:Hp}{xs:List V} (k:Kp [p] H H1) (hp:Pot H p) (e:H b=some (.tup xs)):H1 b=some (.tup xs):=xf k (fun c hc=>by
 have e:c=p:=by simpa using hc
 subst e;exact hp.lst) e
theorem Kp.at {p b:Addr}{H H1:Hp}{o:HO} (k:Kp [p] H H1) (hb:b≠p) (e:H b=some o):H1 b=some o:=k _ _ e (by simpa using hb)
section
variable {P:Program}{w:World}{K:PySem.W.Frag}{mg:Str->Option Value}{base:Heap}
noncomputable def oS (K:PySem.W.Frag):Sp:=fun vs H Q _=>∃(a:Addr) (ns:List Int) (k:Int),vs=[.ref a,.int k]/\SqL K H a (ns.map V.int)/\0<=k/\k<=100/\∀q H',ai H H'->H q=none->Pot H' q->Q (.ref q) H'
theorem pN:aL ["_law_script","_law_k","_law_cell"] ["_law_script","_law_k"] (aB (top 50)):=⟨rfl,rfl,rfl,by decide +kernel,rfl,by decide +kernel,by decide +kernel⟩
theorem wN {f:Addr}{fd:FuncData} (F:Fun K "_law_pot" "_law_pot" (top 50) f fd) (B:Bl mg):aA P w K mg base CX0 1 f fd ["_law_script","_law_k"] (oS K):=by
 refine F.ok pN (fun vs H Q E h=>?_) (fun cdv A outer s H vs Q E hr h=>?_)
 ·obtain⟨a,ns,k,rfl,_⟩:=h
  rfl
 ·obtain⟨a,ns,k,rfl,ha,hk,hk2,q⟩:=h
  refine⟨_,am (aU (i:=2) pN.nd rfl (Or.inl rfl) (mR (aV oY (pv 1) (aC bB rfl B.len PySem.boot_len (ae (pv 0) ag)) (aT _)) (aG aO (pv 0) (pv 1) (fun _ _=>rfl)) aj))
   (ay (aD (ba (ae (aC (lS rfl) rfl B.max j8 (ae aj (ae (aF dS (pv 2) (aF jS aj aj)) ag)))
    (ae (aF fg (aF cO (aF cO (aF gE (pv 2) aj) (aF gE aj (pv 1))) aj) aj) ag))))),?_⟩
  refine⟨_,rfl,_,rfl,a,_,rfl,.inl ha,_,_,rfl,rfl,_,rfl,?_⟩
  have tail:∀c:Int,∀(σ:St),σ=[some (.ref a),some (.int k),some (.int c)]->True:=fun _ _ _=>trivial
  refine bA (fun c=>?_) (fun c=>?_)
  ·have c':k < ((ns.map V.int).length:Int):=of_decide_eq_true c
   rw [List.length_map] at c'
   have hl:k.toNat < ns.length:=by omega
   refine⟨_,rfl,_,rfl,aI (j:=k.toNat) (v:=.int ns[k.toNat]) (.inl ha) (by omega) (by rw [List.getElem?_map,List.getElem?_eq_getElem hl];rfl) ?_⟩
   refine⟨_,rfl,_,_,rfl,rfl,⟨by decide,by decide,by decide⟩,_,_,rfl,rfl,_,_,rfl,?_⟩
   refine⟨_,rfl,_,_,rfl,rfl,.inr ⟨by decide,by decide⟩,_,rfl,_,_,rfl,rfl,.inl ⟨by decide,by decide⟩,_,_,rfl,rfl,_,_,rfl,rfl,_,_,rfl,rfl,by show (0:Int) < 2147483629;decide,by show 2<=sizeLine;decide,fun l hl=>?_⟩
   exact q l _ (au (ai.refl _) hl) hl ⟨_,_,ak,Int.emod_nonneg _ (by decide),Int.emod_lt_of_pos _ (by decide)⟩
  ·refine⟨_,rfl,_,_,rfl,rfl,⟨by decide,by decide,by decide⟩,_,_,rfl,rfl,_,_,rfl,?_⟩
   refine⟨_,rfl,_,_,rfl,rfl,.inr ⟨by decide,by decide⟩,_,rfl,_,_,rfl,rfl,.inl ⟨by decide,by decide⟩,_,_,rfl,rfl,_,_,rfl,rfl,_,_,rfl,rfl,by show (0:Int) < 2147483629;decide,by show 2<=sizeLine;decide,fun l hl=>?_⟩
   exact q l _ (au (ai.refl _) hl) hl ⟨_,_,ak,Int.emod_nonneg _ (by decide),Int.emod_lt_of_pos _ (by decide)⟩
noncomputable def cK:Sp:=fun vs H Q _=>∃(p:Addr) (n:Int),vs=[.ref p,.int n]/\Pot H p/\0 < n/\n < 1000/\∀r H',0<=r->r < n->Pot H' p->Kp [p] H H'->Q (.int r) H'
theorem pP:aL ["_law_pot_here","_law_many","_law_digit"] ["_law_pot_here","_law_many"] (aB (top 51)):=⟨rfl,rfl,rfl,by decide +kernel,rfl,by decide +kernel,by decide +kernel⟩
theorem wf {f:Addr}{fd:FuncData} (F:Fun K "_law_take" "_law_take" (top 51) f fd) (B:Bl mg):aA P w K mg base CX0 1 f fd ["_law_pot_here","_law_many"] cK:=by
 refine F.ok pP (fun vs H Q E h=>?_) (fun cdv A outer s H vs Q E hr h=>?_)
 ·obtain⟨p,n,rfl,_⟩:=h
  rfl
 ·obtain⟨p,n,rfl,⟨a,b,hp,hb0,hb1⟩,hn,hn2,k⟩:=h
  refine⟨_,am (aY (aV eP (aG aO (pv 0) aj (fun _ _=>rfl)) aj (aT _))
    (am (dR (aC qJ rfl B.divmod uE (ae (aG aO (pv 0) aj (fun _ _=>rfl)) (ae (pv 1) ag))) (dj rfl (n:=2) (bC (iu (pv 0) aj set_list) (bC (br (i:=2) pP.nd rfl (Or.inl rfl)) cX))))
     (ay (aD (pv 2)))) aX)
   (am (dR (aF fg (aF cO (aF gE (aG aO (pv 0) aj (fun _ _=>rfl)) aj) aj) aj) (iu (pv 0) aj set_list))
   (ay (aD (aF fg (aF jA (aF fg (aF gE (aG aO (pv 0) aj (fun _ _=>rfl)) (aG aO (pv 0) aj (fun _ _=>rfl))) aj) aj) (pv 1))))),?_⟩
  have hS:Sq K H p [.int a,.int b]:=.inl (SqL.of hp)
  refine⟨_,rfl,aI (j:=0) hS rfl rfl ⟨_,_,rfl,rfl,_,rfl,?_⟩⟩
  refine bA (fun c=>?_) (fun c=>?_)
  ·refine⟨_,rfl,aI (j:=0) hS rfl rfl ⟨_,rfl,_,_,rfl,⟨hn,by omega⟩,fun t ht=>?_⟩⟩
   have ntp:p≠t:=bu hp ht
   refine⟨t,_,rfl,SqT.of ak,rfl,_,_,rfl,_,rfl,p,[.int a,.int b],_,0,rfl,rfl,by rw [aq ntp];exact hp,rfl,?_⟩
   refine⟨_,_,rfl,rfl,_,rfl,k _ _ (Int.emod_nonneg _ (by omega)) (Int.emod_lt_of_pos _ hn) ⟨_,_,ak,hb0,hb1⟩ (((Kp.refl _ _).new ht).inn (by simp))⟩
  ·refine⟨_,rfl,aI (j:=1) hS rfl rfl ⟨_,_,rfl,rfl,.inl ⟨by omega,by omega⟩,_,_,rfl,rfl,_,_,rfl,rfl,by show (0:Int) < 2147483587;decide,_,rfl,p,[.int a,.int b],_,1,rfl,rfl,hp,rfl,?_⟩⟩
   have m0:0<=(b * 39373 + 6007) % 2147483587:=Int.emod_nonneg _ (by decide)
   have m1:(b * 39373 + 6007) % 2147483587 < 2147483587:=Int.emod_lt_of_pos _ (by decide)
   have hS2:Sq K (upd H p (.lst ([V.int a,V.int b].set 1 (.int ((b * 39373 + 6007) % 2147483587))))) p [.int a,.int ((b * 39373 + 6007) % 2147483587)]:=.inl (SqL.of ak)
   refine⟨_,rfl,aI (j:=1) hS2 rfl rfl ⟨_,rfl,aI (j:=1) hS2 rfl rfl ⟨_,_,rfl,rfl,.inl ⟨by omega,by omega⟩,_,_,rfl,rfl,by show (0:Int) < 2147483563;decide,_,_,rfl,rfl,⟨by decide,by decide⟩,_,rfl,_,_,rfl,rfl,hn,?_⟩⟩⟩
   exact k _ _ (Int.emod_nonneg _ (by omega)) (Int.emod_lt_of_pos _ hn) ⟨_,_,ak,m0,by omega⟩ ((Kp.refl _ _).inn (by simp))
end
theorem tF (x:Str) (j:Int):∀c∈(Txt.slice x none (some j)).cps.toList,c∈x.cps.toList:=by
 intro c hc
 unfold Txt.slice at hc
 split at hc
 ·exact hc
 ·simp only [List.mem_filterMap] at hc
  obtain⟨i,_,e⟩:=hc
  simpa using Array.mem_of_getElem? e
noncomputable def tlc (f w:Nat) (big:Bool) (j:Nat):List Nat:=if big=true then [97 + (f + w * j) % 26,97 + (f + j / 26) % 26] else [97 + (f + w * j) % 26]
theorem ij (f w:Nat) (big:Bool) (j:Nat):(tlc f w big j).length=if big=true then 2 else 1:=by unfold tlc;split <;> rfl
theorem vD (f w:Nat) (big:Bool) (j:Nat):∀c∈tlc f w big j,97<=c/\c<=122:=by
 intro c hc
 unfold tlc at hc
 split at hc
 ·simp at hc;omega
 ·simp at hc;omega
theorem mH {f w i j:Nat} (hw:w∈[1,3,5,7,9,11]) (h:(f + w * i) % 26=(f + w * j) % 26):i % 26=j % 26:=by
 simp only [List.mem_cons,List.not_mem_nil,or_false] at hw
 rcases hw with rfl | rfl | rfl | rfl | rfl | rfl <;> omega
theorem vN {f w:Nat}{big:Bool}{i j:Nat} (hw:w∈[1,3,5,7,9,11]) (hi:i < 60) (hj:j < 60) (hb:big=false->i < 26/\j < 26) (h:tlc f w big i=tlc f w big j):i=j:=by
 unfold tlc at h
 cases big with
 | true =>
  simp at h
  have:=mH hw h.1
  omega
 | false =>
  simp at h
  have:=mH hw h
  obtain⟨a,b⟩:=hb rfl
  omega
structure Drawn (f w:Nat) (big:Bool) (ns:List Str):Prop where
 at':∀(j:Nat) (x:Str),ns[j]?=some x->∃u:List Nat,x.cps.toList=u++tlc f w big j/\u.length<=6/\∀c∈u,97<=c/\c<=122
theorem Drawn.name {f w:Nat}{big:Bool}{ns:List Str} (D:Drawn f w big ns):∀x∈ns,aP x:=fun x hx=>by
 obtain⟨j,hj⟩:=List.getElem?_of_mem hx
 obtain⟨u,e,hu,hc⟩:=D.at' j x hj
 have hl:=ij f w big j
 refine aP.of_codes e ?_ ?_ fun c hm=>?_
 ·rw [List.length_append,hl];split <;> omega
 ·rw [List.length_append,hl];split <;> omega
 ·rcases List.mem_append.mp hm with z | z
  ·exact hc c z
  ·exact vD f w big j c z
theorem Drawn.short {f w:Nat}{ns:List Str} (D:Drawn f w false ns):∀x∈ns,x.length<=7:=fun x hx=>by
 obtain⟨j,hj⟩:=List.getElem?_of_mem hx
 obtain⟨u,e,hu,hc⟩:=D.at' j x hj
 have hl:=ij f w false j
 have h:=congrArg List.length e
 rw [List.length_append,hl] at h
 have e2:x.length=x.cps.toList.length:=by simp [Str.length]
 simp at h
 rw [e2,Array.length_toList]
 omega
theorem Drawn.nodup {f w:Nat}{big:Bool}{ns:List Str} (D:Drawn f w big ns) (hw:w∈[1,3,5,7,9,11]) (hz:ns.length < 60) (hb:big=false->ns.length<=26):ns.Nodup:=by
 refine List.pairwise_iff_getElem.mpr fun i j hi hj hij e=>?_
 obtain⟨u,e1,_,_⟩:=D.at' i ns[i] (List.getElem?_eq_getElem hi)
 obtain⟨u',e2,_,_⟩:=D.at' j ns[j] (List.getElem?_eq_getElem hj)
 rw [e,e2] at e1
 have hl:(tlc f w big j).length=(tlc f w big i).length:=by rw [ij,ij]
 have q:=(List.append_inj' e1 hl).2
 have:=vN hw (by omega) (by omega) (fun c=>by have:=hb c;omega) q
 omega
theorem Drawn.add {f w:Nat}{big:Bool}{ns:List Str}{x:Str}{u:List Nat} (D:Drawn f w big ns) (e:x.cps.toList=u++tlc f w big ns.length) (hu:u.length<=6) (hc:∀c∈u,97<=c/\c<=122):Drawn f w big (ns++[x]):=by
 refine⟨fun j y hj=>?_⟩
 by_cases h:j < ns.length
 ·rw [List.getElem?_append_left h] at hj
  exact D.at' j y hj
 ·rw [List.getElem?_append_right (by omega)] at hj
  have hj0:j - ns.length=0:=by
   have:=(List.getElem?_eq_some_iff.mp hj).1
   simp at this
   omega
  rw [hj0] at hj
  have ey:x=y:=by simpa using hj
  subst ey
  have ej:j=ns.length:=by omega
  subst ej
  exact⟨u,e,hu,hc⟩
theorem iS (x:Str) (c:Nat):(x++(⟨#[c]⟩:Str)).cps.toList=x.cps.toList++[c]:=by
 rw [Str.cps_append,Array.toList_append]
section
variable {P:Program}{w:World}{K:PySem.W.Frag}{mg:Str->Option Value}{base:Heap}
noncomputable def nV:Sp:=fun vs H Q _=>∃(p:Addr) (m:Nat),vs=[.ref p,.int m]/\Pot H p/\m<=40 /\
 ∀(q:Addr) (ns:List Str) (H':Hp),Pot H' p->H' q=some (.lst (ns.map V.str))->H q=none->(∀x∈ns,aP x)->ns.Nodup->ns.length=m->(m<=26->∀x∈ns,x.length<=7)->Kp [p] H H'->Q (.ref q) H'
noncomputable abbrev N52:List Str:=["_law_pot_here","_law_many","_law_letters","_law_ahead","_law_first","_law_wide","_law_found","_law_k","_law_name"]
theorem eW:aL N52 ["_law_pot_here","_law_many"] (aB (top 52)):=⟨rfl,rfl,rfl,by decide +kernel,rfl,by decide +kernel,by decide +kernel⟩
theorem uO {f:Addr}{fd:FuncData} (F:Fun K "_law_names" "_law_names" (top 52) f fd) (B:Bl mg) (Ft:Fn P w K mg base 1 "_law_take" ["_law_pot_here","_law_many"] cK):aA P w K mg base CX0 2 f fd ["_law_pot_here","_law_many"] nV:=by
 refine F.ok eW (fun vs H Q E h=>?_) (fun cdv A outer s H vs Q E hr h=>?_)
 ·obtain⟨p,m,rfl,_⟩:=h
  rfl
 ·obtain⟨p,m,rfl,hp,hm,k⟩:=h
  refine⟨_,am (aU (i:=2) eW.nd rfl (Or.inr rfl) aM)
   (am (aU (i:=3) eW.nd rfl (Or.inl rfl) (eU PySem.F.plainAttrs_str PySem.F.slot_str_join PySem.F.type_str_join vJ aM (ae (bY (N:=["_law_k","_law_letters","_law_pot_here"]) (ix:=[none,some 2,some 0]) ⟨rfl,rfl,rfl,by decide⟩ rfl
    (eY rfl B.range (ae (aG aO (ba (ae aj (ae aj (ae aj (ae aj ag))))) (ar Ft hr (ae (pv 0) (ae aj ag))) (fun _ _=>rfl)) ag)) (fun _ _ _ _=>bo 0 (by decide) rfl rfl) (fun _ _ _ _=>bK)
    (fun _ _ _ _=>aG (cF K) (pv 1) (ar Ft hr (ae (pv 2) (ae aj ag))) (fun _ _=>rfl))) ag)))
   (am (oz (i:=4) (j:=5) rfl eW.nd rfl rfl (by decide) rfl rfl (ae (ar Ft hr (ae (pv 0) (ae aj ag))) (ae (aG aO (ba (ae aj (ae aj (ae aj (ae aj (ae aj (ae aj ag))))))) (ar Ft hr (ae (pv 0) (ae aj ag))) (fun _ _=>rfl)) ag)) rfl)
   (am (aU (i:=6) eW.nd rfl (Or.inl rfl) (ba ag))
   (am (dm PassesOwn.never rfl (eY rfl B.range (ae (pv 1) ag)) (br (i:=7) eW.nd rfl (Or.inl rfl))
    (am (aU (i:=8) eW.nd rfl (Or.inl rfl) (aF eD (gk wO (pv 3) gA (fK (ar Ft hr (ae (pv 0) (ae (aF cO (aC gR rfl B.len PySem.boot_len (ae (pv 3) ag)) aj) ag)))))
     (aG aO (pv 2) (aF fg (aF cO (pv 4) (aF gE (pv 5) (pv 7))) aj) (fun _ _=>rfl))))
    (am (aY (aV eP (pv 1) aj (aT _)) (ay (aU (i:=8) eW.nd rfl (Or.inl rfl) (aF eD (pv 8) (aG aO (pv 2) (aF fg (aF cO (pv 4) (aF jA (pv 7) aj)) aj) (fun _ _=>rfl))))) aX)
    (ay (bN (eU PySem.F.plainAttrs_list PySem.F.slot_list_append PySem.F.type_list_append iY (pv 6) (ae (pv 8) ag)))))))
   (ay (aD (pv 6))))))),?_⟩
  refine⟨rfl,by show 4<=sizeLine;decide,fun l4 hl4=>?_⟩
  have P0:=hp.new (o:=.lst [.int 0,.int 0,.int 1,.int 6]) hl4
  have K0:=(Kp.refl [p] H).new (o:=.lst [.int 0,.int 0,.int 1,.int 6]) hl4
  have L0:upd H l4 (.lst [.int 0,.int 0,.int 1,.int 6]) l4=some (.lst [.int 0,.int 0,.int 1,.int 6]):=ak
  have nl4:=hp.ne_new hl4
  generalize upd H l4 (.lst [.int 0,.int 0,.int 1,.int 6])=H0 at P0 K0 L0 ⊢
  refine⟨_,rfl,p,4,rfl,P0,by decide,by decide,fun r1 H1 a0 a1 P1 K1=>?_⟩
  have L1:=K1.at nl4 L0
  have hm1:∃c:Int,([V.int 0,V.int 0,V.int 1,V.int 6]:List V)[r1.toNat]?=some (.int c)/\0<=c/\c<=6:=by
   have:r1=0\/r1=1\/r1=2\/r1=3:=by omega
   rcases this with rfl | rfl | rfl | rfl
   ·exact⟨0,rfl,by decide,by decide⟩
   ·exact⟨0,rfl,by decide,by decide⟩
   ·exact⟨1,rfl,by decide,by decide⟩
   ·exact⟨6,rfl,by decide,by decide⟩
  obtain⟨c,hc,c0,c6⟩:=hm1
  refine aI (j:=r1.toNat) (.inl (SqL.of L1)) (by omega) hc ⟨_,rfl,by omega,by omega,?_⟩
  have K01:=K0.trans K1
  refine gf (fits (by omega)) (fun i ys σ H3=>(∃cs:List Nat,cs.length=i/\(∀c∈cs,97<=c/\c<=122)/\ys=cs.map fun c=>V.str ⟨#[c]⟩)/\Pot H3 p/\Kp [p] H H3/\∃x,σ=[x,some (.str eF),some (.ref p)])
   ⟨⟨[],rfl,by simp,rfl⟩,P1,K01,_,rfl⟩ (fun i ys σ H3 _ q=>by obtain⟨⟨cs,rfl,_,rfl⟩,_⟩:=q;simp) ?_ ?_
  ·rintro i ys σ H3 hi ⟨⟨cs,rfl,hcs,rfl⟩,P3,K3,v,rfl⟩
   refine⟨_,rfl,_,rfl,p,26,rfl,P3,by decide,by decide,fun r H4 r0 r1 P4 K4=>.inr (.inr ⟨eF,r,97 + r.toNat,rfl,rfl,iM,gH (j:=r.toNat) (by omega) (iT (by omega)),⟨cs++[97 + r.toNat],by simp,fun c hc=>?_,by simp⟩,P4,K3.trans K4,_,rfl⟩)⟩
   rcases List.mem_append.mp hc with z | z
   ·exact hcs c z
   ·simp at z
    omega
  rintro ys σ H3 ⟨⟨cs,hlen,hcs,rfl⟩,P3,K3,v,rfl⟩ q hq
  have hx:(Txt.join (Str.ofString "") (cs.map fun c=>(⟨#[c]⟩:Str))).cps.toList=cs:=join_one cs
  have hmap:(cs.map fun c=>V.str ⟨#[c]⟩)=(cs.map fun c=>(⟨#[c]⟩:Str)).map V.str:=by rw [List.map_map];rfl
  refine⟨Str.ofString "",q,cs.map fun c=>(⟨#[c]⟩:Str),rfl,rfl,SqL.of (by rw [ak,hmap]),?_,?_⟩
  ·have hs:∀l:List Nat,((l.map fun c=>(⟨#[c]⟩:Str)).map (·.length)).sum=l.length:=fun l=>by
    induction l with
    | nil=>rfl
    | cons c r ih=>simp only [List.map_cons,List.sum_cons,ih,List.length_cons];show 1 + r.length=_;omega
   have e0:(Str.ofString "").length=0:=by decide
   rw [hs,e0]
   omega
  have hah:(Txt.join (Str.ofString "") (cs.map fun c=>(⟨#[c]⟩:Str))).length<=6:=by
   have:(Txt.join (Str.ofString "") (cs.map fun c=>(⟨#[c]⟩:Str))).length=cs.length:=by rw [<- congrArg List.length hx];simp [Str.length]
   omega
  have hac:∀d∈(Txt.join (Str.ofString "") (cs.map fun c=>(⟨#[c]⟩:Str))).cps.toList,97<=d/\d<=122:=by rw [hx];exact hcs
  generalize Txt.join (Str.ofString "") (cs.map fun c=>(⟨#[c]⟩:Str))=ah at hah hac ⊢
  have P4:=P3.new (o:=.lst (cs.map fun c=>V.str ⟨#[c]⟩)) hq
  have K4:=K3.new (o:=.lst (cs.map fun c=>V.str ⟨#[c]⟩)) hq
  generalize upd H3 q (.lst (cs.map fun c=>V.str ⟨#[c]⟩))=H4 at P4 K4 ⊢
  refine⟨_,rfl,p,26,rfl,P4,by decide,by decide,fun ft H5 f0 f1 P5 K5=>?_⟩
  refine⟨by show 6<=sizeLine;decide,fun l6 hl6=>?_⟩
  have P6:=P5.new (o:=.lst [.int 1,.int 3,.int 5,.int 7,.int 9,.int 11]) hl6
  have K6:=(K4.trans K5).new (o:=.lst [.int 1,.int 3,.int 5,.int 7,.int 9,.int 11]) hl6
  have L6:upd H5 l6 (.lst [.int 1,.int 3,.int 5,.int 7,.int 9,.int 11]) l6=some (.lst [.int 1,.int 3,.int 5,.int 7,.int 9,.int 11]):=ak
  have nl6:=P5.ne_new hl6
  generalize upd H5 l6 (.lst [.int 1,.int 3,.int 5,.int 7,.int 9,.int 11])=H6 at P6 K6 L6 ⊢
  refine⟨_,rfl,p,6,rfl,P6,by decide,by decide,fun r6 H7 g0 g1 P7 K7=>?_⟩
  have L7:=K7.at nl6 L6
  have hw:∃c:Nat,([V.int 1,V.int 3,V.int 5,V.int 7,V.int 9,V.int 11]:List V)[r6.toNat]?=some (.int c)/\c∈[1,3,5,7,9,11]:=by
   have:r6=0\/r6=1\/r6=2\/r6=3\/r6=4\/r6=5:=by omega
   rcases this with rfl | rfl | rfl | rfl | rfl | rfl
   ·exact⟨1,rfl,by decide⟩
   ·exact⟨3,rfl,by decide⟩
   ·exact⟨5,rfl,by decide⟩
   ·exact⟨7,rfl,by decide⟩
   ·exact⟨9,rfl,by decide⟩
   ·exact⟨11,rfl,by decide⟩
  obtain⟨wd,hwd,hwm⟩:=hw
  have hw11:wd<=11:=by
   simp only [List.mem_cons,List.not_mem_nil,or_false] at hwm
   omega
  refine aI (j:=r6.toNat) (.inl (SqL.of L7)) (by omega) hwd ⟨_,_,rfl,?_⟩
  have P8:=P7
  have K8:=K6.trans K7
  clear P7 K7 L7 P6 K6 L6
  revert H7
  intro H8 P8 K8
  obtain⟨fn,rfl⟩:=Int.eq_ofNat_of_zero_le f0
  have hfn:fn < 26:=by omega
  refine⟨Nat.zero_le _,fun fo hfo=>?_⟩
  have fo0:H fo=none:=K8.free1 P8 hfo
  have nfp:=P8.ne_new hfo
  have P9:=P8.new (o:=.lst []) hfo
  have K9:=K8.new (o:=.lst []) hfo
  have F9:upd H8 fo (.lst []) fo=some (.lst ((([]:List Str)).map V.str)):=ak
  generalize upd H8 fo (.lst [])=H9 at P9 K9 F9 ⊢
  refine⟨_,rfl,_,rfl,by omega,by omega,gW (fun i σ H1=>∃(ns:List Str) (g1 g2:Option V),σ=[some (.ref p),some (.int m),some (.str eF),some (.str ah),some (.int fn),some (.int wd),some (.ref fo),g1,g2]/\Pot H1 p/\H1 fo=some (.lst (ns.map V.str))/\ns.length=i/\Drawn fn wd (decide (26 < m)) ns/\Kp [p] H H1)
   ⟨[],none,none,rfl,P9,F9,rfl,⟨fun j x hj=>by simp at hj⟩,K9⟩ ?_ ?_⟩
  ·rintro i σ H1 hi ⟨ns,g1,g2,rfl,P1,F1,hl,D,K1⟩
   have him:i < m:=by omega
   refine⟨_,rfl,_,rfl,_,rfl,ah,rfl,by rw [sizeLine_eq];omega,_,_,rfl,rfl,p,_,rfl,P1,by omega,by omega,fun r H2 r0 r1 P2 K2=>?_⟩
   have F2:=K2.at nfp F1
   have K12:=K1.trans K2
   have hsl:(Txt.slice ah none (some r)).length<=6:=Nat.le_trans (Txt.slice_le ah _ _) hah
   have hsc:∀d∈(Txt.slice ah none (some r)).cps.toList,97<=d/\d<=122:=fun d hd=>hac d (tF ah r d hd)
   have hsn:(Txt.slice ah none (some r)).cps.toList.length<=6:=by simpa [Str.length] using hsl
   refine⟨_,rfl,ah,rfl,by rw [sizeLine_eq];omega,?_⟩
   generalize Txt.slice ah none (some r)=sl at hsl hsc hsn ⊢
   have hidx:(((fn:Nat):Int) + ((wd:Nat):Int) * (0 + (i:Int))) % 26=(((fn + wd * i) % 26:Nat):Int):=by push_cast;rw [Int.zero_add]
   have hidx2:(((fn:Nat):Int) + (0 + (i:Int)) / 26) % 26=(((fn + i / 26) % 26:Nat):Int):=by push_cast;rw [Int.zero_add]
   refine⟨_,rfl,_,rfl,_,rfl,_,rfl,_,_,rfl,rfl,.inl ⟨by omega,by omega⟩,_,_,rfl,rfl,_,_,rfl,rfl,by show (0:Int) < 26;decide,?_⟩
   refine .inr (.inr ⟨eF,_,97 + (fn + wd * i) % 26,rfl,rfl,iM,gH (j:=(fn + wd * i) % 26) hidx (iT (Nat.mod_lt _ (by decide))),_,_,rfl,rfl,by rw [sizeLine_eq];show sl.length + 1<=_;omega,?_⟩)
   have hlen1:(sl++(⟨#[97 + (fn + wd * i) % 26]⟩:Str)).length=sl.length + 1:=by rw [Str.length_append];rfl
   refine⟨_,rfl,_,_,rfl,rfl,_,rfl,?_⟩
   refine bA (fun c=>?_) (fun c=>?_)
   ·have c':26 < m:=by have:=of_decide_eq_true c;omega
    refine⟨_,rfl,_,rfl,_,rfl,_,rfl,_,_,rfl,rfl,⟨by decide,by decide⟩,_,_,rfl,rfl,_,_,rfl,rfl,by show (0:Int) < 26;decide,?_⟩
    refine .inr (.inr ⟨eF,_,97 + (fn + i / 26) % 26,rfl,rfl,iM,gH (j:=(fn + i / 26) % 26) hidx2 (iT (Nat.mod_lt _ (by decide))),_,_,rfl,rfl,by rw [hlen1,sizeLine_eq];show sl.length + 1 + 1<=_;omega,?_⟩)
    refine⟨_,rfl,.inl ⟨rfl,_,SqL.of F2⟩,_,rfl,fo,ns.map V.str,_,rfl,rfl,F2,by rw [List.length_map];exact fits (by omega),?_⟩
    refine⟨ns++[sl++(⟨#[97 + (fn + wd * i) % 26]⟩:Str)++(⟨#[97 + (fn + i / 26) % 26]⟩:Str)],_,_,rfl,P2.upd nfp,by rw [ak,List.map_append];rfl,by simp [hl],?_,fun b o e nb=>by rw [aq (bu e fo0)];exact K12 b o e nb⟩
    refine D.add (u:=sl.cps.toList) ?_ hsn hsc
    rw [iS,iS,hl]
    unfold tlc
    rw [if_pos (decide_eq_true c')]
    simp
   ·have c':¬ 26 < m:=by simp only [decide_eq_true_eq] at c;omega
    refine⟨_,rfl,.inl ⟨rfl,_,SqL.of F2⟩,_,rfl,fo,ns.map V.str,_,rfl,rfl,F2,by rw [List.length_map];exact fits (by omega),?_⟩
    refine⟨ns++[sl++(⟨#[97 + (fn + wd * i) % 26]⟩:Str)],_,_,rfl,P2.upd nfp,by rw [ak,List.map_append];rfl,by simp [hl],?_,fun b o e nb=>by rw [aq (bu e fo0)];exact K12 b o e nb⟩
    refine D.add (u:=sl.cps.toList) ?_ hsn hsc
    rw [iS,hl]
    unfold tlc
    rw [if_neg (by simpa using c')]
  ·rintro σ H1 ⟨ns,g1,g2,rfl,P1,F1,hl,D,K1⟩
   have hl':ns.length=m:=by omega
   exact⟨_,rfl,k fo ns H1 P1 F1 fo0 D.name (D.nodup hwm (by omega) (fun c=>by have:=of_decide_eq_false c;omega)) hl' (fun z=>by rw [decide_eq_false (by omega)] at D;exact D.short) K1⟩
end
end K45
namespace K45
open PySem L2 PySem.Spec PyProof.Rows
theorem snoc_ind {P:List Str->Prop} (h0:P []) (hs:∀l x,P l->P (l++[x])):∀l,P l:=by
 have q:∀(l pre:List Str),P pre->P (pre++l):=by
  intro l
  induction l with
  | nil=>intro pre hp;simpa using hp
  | cons x r ih =>
   intro pre hp
   have:=ih (pre++[x]) (hs pre x hp)
   simpa using this
 intro l
 simpa using q l [] h0
noncomputable def subs (ps:List Str):List (List Str):=ps.foldl (fun f p=>f++f.map fun l=>l++[p]) [[]]
theorem gg (ps:List Str) (p:Str):subs (ps++[p])=subs ps++(subs ps).map fun l=>l++[p]:=by
 unfold subs
 rw [List.foldl_append]
 rfl
theorem uh:∀ps:List Str,∃r,subs ps=[]::r:=snoc_ind ⟨[],rfl⟩ fun l x h=>by
 obtain⟨r,e⟩:=h
 rw [gg,e]
 exact⟨_,rfl⟩
theorem mC:∀ps:List Str,(subs ps).length=2 ^ ps.length:=snoc_ind rfl fun l x h=>by
 rw [gg,List.length_append,List.length_map,h,List.length_append,List.length_singleton,Nat.pow_succ]
 omega
theorem jh:∀ps:List Str,∀l∈subs ps,l.Sublist ps:=snoc_ind (fun l h=>by
  have e:l=[]:=by simpa [subs] using h
  subst e;exact List.Sublist.refl _) fun ps x h l hl=>by
 rw [gg] at hl
 rcases List.mem_append.mp hl with z | z
 ·exact (h l z).trans (List.sublist_append_left _ _)
 ·obtain⟨m,hm,rfl⟩:=List.mem_map.mp z
  exact (h m hm).append (List.Sublist.refl _)
theorem qX:∀ps:List Str,ps.Nodup->(subs ps).Nodup:=snoc_ind (fun _=>by simp [subs]) fun ps x h hn=>by
 have hn':=List.nodup_append.mp hn
 have hx:x∉ps:=fun z=>hn'.2.2 x z x (by simp) rfl
 have ih:=h hn'.1
 rw [gg]
 refine List.nodup_append.mpr ⟨ih,?_,fun a ha b hb=>?_⟩
 ·exact List.pairwise_map.mpr (ih.imp fun {a b} hab z=>hab (List.append_cancel_right z))
 ·obtain⟨m,hm,rfl⟩:=List.mem_map.mp hb
  intro z
  exact hx ((jh ps a ha).subset (by rw [z];simp))
noncomputable def cP (ps:List Str):List (List Str):=(subs ps).tail
theorem ie (ps:List Str):subs ps=[]::cP ps:=by
 obtain⟨r,e⟩:=uh ps
 unfold cP
 rw [e];rfl
theorem la {ps:List Str} (h:ps.Nodup):(cP ps).Nodup:=by
 have q:=qX ps h
 rw [ie] at q
 exact (List.nodup_cons.mp q).2
theorem me (ps:List Str):(cP ps).length + 1=2 ^ ps.length:=by
 have q:=mC ps
 rw [ie] at q
 simpa using q
theorem mJ {ps l:List Str} (h:l∈cP ps):l.Sublist ps:=jh ps l (by rw [ie];exact List.mem_cons_of_mem _ h)
theorem jL {n:Nat} (h:n<=8):2 ^ n<=256:=by
 have:=Nat.pow_le_pow_right (show 0 < 2 by decide) h
 simpa using this
theorem nk (bt:Nat->Nat->Bool):∀k,argBest bt k<=k
 | 0=>Nat.le_refl _
 | k + 1=>by
  unfold argBest
  split
  ·exact Nat.le_refl _
  ·exact Nat.le_succ_of_le (nk bt k)
theorem lZ (bt:Nat->Nat->Bool) (c:Nat->Int) (h1:∀i j,bt i j=true->c i<=c j) (h2:∀i j,bt i j=false->c j<=c i):∀k j,j<=k->c (argBest bt k)<=c j
 | 0,j,hj=>by
  have e:j=0:=by omega
  subst e;exact Int.le_refl _
 | k + 1,j,hj=>by
  have ih:=lZ bt c h1 h2 k
  unfold argBest
  cases e:bt (k + 1) (argBest bt k) with
  | true =>
   rw [if_pos rfl]
   have q:=h1 _ _ e
   by_cases hk:j=k + 1
   ·subst hk;exact Int.le_refl _
   ·exact Int.le_trans q (ih j (by omega))
  | false =>
   rw [if_neg Bool.false_ne_true]
   have q:=h2 _ _ e
   by_cases hk:j=k + 1
   ·subst hk;exact q
   ·exact ih j (by omega)
noncomputable abbrev bH (tss:List (Addr×List Str)):List V:=tss.map fun x=>V.ref x.1
theorem fI {lr:List (Addr×List Str)}{i:Nat}{x:V} (h:(bH lr)[i]?=some x):∃r,lr[i]?=some r/\x=.ref r.1:=by
 unfold bH at h
 rw [List.getElem?_map] at h
 cases e:lr[i]? with
 | none=>rw [e] at h;cases h
 | some r=>rw [e] at h;exact⟨r,rfl,(Option.some.inj h).symm⟩
noncomputable def cw (H:Hp) (lts:List (Addr×List Str)):Prop:=∀x∈lts,H x.1=some (.tup (x.2.map V.str))
theorem cw.same {H H':Hp}{lts:List (Addr×List Str)} (h:cw H lts) (s:ai H H'):cw H' lts:=fun x hx=>s _ _ (h x hx)
theorem cw.app {H:Hp}{a b:List (Addr×List Str)} (h:cw H a) (g:cw H b):cw H (a++b):=fun x hx=>(List.mem_append.mp hx).elim (h x) (g x)
theorem cw.one {H:Hp}{t:Addr}{ls:List Str} (h:H t=some (.tup (ls.map V.str))):cw H [(t,ls)]:=fun x hx=>by
 have e:x=(t,ls):=by simpa using hx
 subst e;exact h
theorem vi (K:PySem.W.Frag) {X:Cx} (h:X.K=K:=by rfl):OpR X (binaryOp .Add) (iD K):=by subst h;exact jB
theorem qY (x:V) (r:List V):cz (x::r) (some 1) none=r:=by
 unfold cz
 simp [HT.sIx]
section
variable {P:Program}{w:World}{K:PySem.W.Frag}{mg:Str->Option Value}{base:Heap}
noncomputable def jo:Sp:=fun vs H Q _=>∃(pa:Addr) (ps:List Str),vs=[.ref pa]/\(H pa=some (.lst (ps.map V.str))\/H pa=some (.tup (ps.map V.str)))/\ps.length<=8 /\
 ∀(q:Addr) (lts:List (Addr×List Str)) (H':Hp),ai H H'->H' q=some (.lst (bH lts))->cw H' lts->lts.map (·.2)=cP ps->Q (.ref q) H'
theorem iF:aL ["places","lots","place"] ["places"] (aB (top 31)):=⟨rfl,rfl,rfl,by decide +kernel,rfl,by decide +kernel,by decide +kernel⟩
theorem qh {f:Addr}{fd:FuncData} (F:Fun K "lots_among" "lots_among" (top 31) f fd) (B:Bl mg):aA P w K mg base CX0 1 f fd ["places"] jo:=by
 refine F.ok iF (fun vs H Q E h=>?_) (fun cdv A outer s H vs Q E hr h=>?_)
 ·obtain⟨pa,ps,rfl,_⟩:=h
  rfl
 ·obtain⟨pa,ps,rfl,hp,p8,k⟩:=h
  refine⟨_,am (aU (i:=1) iF.nd rfl (Or.inl rfl) (ba (ae (aE ag) ag)))
   (am (dm PassesOwn.never rfl (o7 (dh (pv 0)) (cJ (pv 0))) (br (i:=2) iF.nd rfl (Or.inr rfl))
    (ay (aU (i:=1) iF.nd rfl (Or.inl rfl) (aF eJ (pv 1) (bY (N:=["lot","place"]) (ix:=[none,some 2]) ⟨rfl,rfl,rfl,by decide⟩ rfl (dh (pv 1)) (fun _ _ _ _=>bo 0 (by decide) rfl rfl) (fun _ _ _ _=>bK)
     (fun _ _ _ _=>aF (vi K) (pv 0) (aE (ae (pv 1) ag))))))))
   (ay (aD (gk nS (pv 1) (fK aj) gA)))),?_⟩
  refine⟨Nat.zero_le _,fun e0 he0=>⟨by show 1<=sizeLine;decide,fun f0 hf0=>?_⟩⟩
  have s0:=au (o:=.lst [.ref e0]) (au (o:=.tup []) (ai.refl H) he0) hf0
  have E0:upd (upd H e0 (.tup [])) f0 (.lst [.ref e0]) e0=some (.tup ((([]:List Str)).map V.str)):=by
   rw [aq (fun z=>by rw [<- z,ak] at hf0;cases hf0),ak];rfl
  have F0:upd (upd H e0 (.tup [])) f0 (.lst [.ref e0]) f0=some (.lst (bH [(e0,[])])):=ak
  generalize upd (upd H e0 (.tup [])) f0 (.lst [.ref e0])=H0 at s0 E0 F0 ⊢
  refine mB (K:=K) (Hb:=H) (a:=pa) (xs:=ps.map V.str) (fun Q q=>⟨_,rfl,q⟩) hp s0 (fun i σ H1=>ai H H1/\∃(fo:Addr) (lts:List (Addr×List Str)) (g:Option V),σ=[some (.ref pa),some (.ref fo),g]/\H1 fo=some (.lst (bH lts))/\cw H1 lts/\lts.map (·.2)=subs (ps.take i))
   ⟨s0,f0,[(e0,[])],none,rfl,F0,cw.one E0,rfl⟩ (fun i σ H1 _ q=>q.1) ?_ ?_
  ·rintro i x σ H1 hx ⟨s1,fo,lts,g,rfl,F1,A1,e1⟩
   rw [List.getElem?_map] at hx
   cases hc:ps[i]? with
   | none=>rw [hc] at hx;cases hx
   | some pl =>
    rw [hc] at hx
    cases hx
    have hi:i < ps.length:=(List.getElem?_eq_some_iff.mp hc).1
    have hlen:lts.length<=256:=by
     have q:=congrArg List.length e1
     rw [List.length_map,mC] at q
     rw [q]
     exact jL (by rw [List.length_take];omega)
    have hz8:∀x∈lts,x.2.length<=8:=fun x hx=>by
     have q:=(jh (ps.take i) x.2 (by rw [<- e1];exact List.mem_map_of_mem hx)).length_le
     rw [List.length_take] at q
     omega
    refine⟨_,rfl,_,rfl,fo,rfl,⟨_,SqL.of F1⟩,t9 (xs:=bH lts) (fits (by rw [List.length_map];omega)) (fun j ys σ H2=>(∃qs:List (Addr×List Str),ys=bH qs/\cw H2 qs/\qs.map (·.2)=((lts.take j).map (·.2)).map fun l=>l++[pl])/\ai H1 H2/\∃v,σ=[v,some (.str pl)])
     ⟨⟨[],rfl,by simp [cw],rfl⟩,ai.refl _,_,rfl⟩ (fun j ys σ H2 _ q=>?_) ?_ ?_⟩
    ·obtain⟨⟨qs,rfl,_,e⟩,s2,_⟩:=q
     have q:=congrArg List.length e
     simp only [List.length_map,List.length_take] at q
     exact⟨by rw [List.length_map];omega,SqL.of (s2 _ _ F1)⟩
    ·rintro j y ys σ H2 hy ⟨⟨qs,rfl,A2,e2⟩,s2,v,rfl⟩
     obtain⟨lt,hlt,rfl⟩:=fI hy
     have hm:=List.mem_of_getElem? hlt
     refine⟨_,rfl,_,rfl,by show 1<=sizeLine;decide,fun t ht=>?_⟩
     have s3:=au (o:=.tup [.str pl]) s2 ht
     have s3':=au (o:=.tup [.str pl]) (ai.refl H2) ht
     have t3:upd H2 t (.tup [.str pl]) t=some (.tup ([pl].map V.str)):=ak
     generalize upd H2 t (.tup [.str pl])=H3 at s3 s3' t3 ⊢
     have hz:=hz8 lt hm
     have est:∀z,qs.map (·.2)++[z]=((lts.take j).map (·.2)).map (fun l=>l++[pl])++[z]:=fun z=>by rw [e2]
     have etk:((lts.take (j + 1)).map (·.2)).map (fun l=>l++[pl])=((lts.take j).map (·.2)).map (fun l=>l++[pl])++[lt.2++[pl]]:=by
      rw [List.take_add_one,hlt,List.map_append,List.map_append];rfl
     refine⟨lt.1,t,lt.2.map V.str,[.str pl],rfl,rfl,SqT.of (s3 _ _ (A1 lt hm)),SqT.of t3,by rw [sizeLine_eq];simp;omega,fun e=>?_,fun e=>(by cases e),fun p hp=>?_⟩
     ·have e':lt.2=[]:=by simpa using e
      exact⟨⟨qs++[(t,lt.2++[pl])],by simp [bH],(A2.same s3').app (cw.one (by rw [e'];exact t3)),by rw [List.map_append,etk];exact est _⟩,s3,_,rfl⟩
     ·have s4':=au (o:=.tup (lt.2.map V.str++[.str pl])) s3' hp
      exact⟨⟨qs++[(p,lt.2++[pl])],by simp [bH],(A2.same s4').app (cw.one (by rw [ak,List.map_append];rfl)),by rw [List.map_append,etk];exact est _⟩,au s3 hp,_,rfl⟩
    ·rintro ys σ H2 ⟨⟨qs,rfl,A2,e2⟩,s2,v,rfl⟩ q hq
     rw [take_all lts (by simp)] at e2
     have hql:qs.length=lts.length:=by
      have q:=congrArg List.length e2
      simpa using q
     have s3':=au (o:=.lst (bH qs)) (ai.refl H2) hq
     refine⟨fo,q,_,_,rfl,rfl,s3' _ _ (s2 _ _ F1),ak,by rw [sizeLine_eq,List.length_map,List.length_map];omega,fun q2 hq2'=>?_⟩
     have s4':=au (o:=.lst (bH lts++bH qs)) s3' hq2'
     refine⟨s1.trans (s2.trans s4'),q2,lts++qs,_,rfl,by rw [ak];simp [bH],(A1.same (s2.trans s4')).app (A2.same s4'),?_⟩
     have ets:ps.take (i + 1)=ps.take i++[pl]:=by rw [List.take_add_one,hc];rfl
     rw [List.map_append,e2,e1,ets,gg]
  ·rintro σ H1 ⟨s1,fo,lts,g,rfl,F1,A1,e1⟩
   rw [take_all ps (by simp),ie] at e1
   cases lts with
   | nil=>cases e1
   | cons h0 rest =>
    obtain⟨eh,er⟩:=List.cons.inj (show h0.2::rest.map (·.2)=[]::cP ps from e1)
    refine⟨_,rfl,_,rfl,fo,_,rfl,SqL.of F1,fun q hq=>?_⟩
    rw [show bH (h0::rest)=V.ref h0.1::bH rest from rfl,qY]
    have s2:=au (o:=.lst (bH rest)) (ai.refl H1) hq
    exact k q rest _ (s1.trans s2) ak (fun x hx=>s2 _ _ (A1 x (List.mem_cons_of_mem _ hx))) er
end
end K45
namespace K45
open PySem L2
noncomputable def others (ps:List Str) (root:Str):List Str:=ps.filter fun y=>!decide (y=root)
theorem f9 (ps:List Str) (root:Str):(others ps root).length<=ps.length:=List.length_filter_le _ _
noncomputable def cnt (rs:List (Addr×Row)) (l:List Str):Nat:=(rs.filter (lead l)).length
theorem va {rs:List (Addr×Row)}{i:Nat}{r:Addr×Row} (h:rs[i]?=some r) (l:List Str):cnt (rs.take (i + 1)) l=cnt (rs.take i) l + if lead l r=true then 1 else 0:=by
 unfold cnt
 rw [gQ _ _ _ _ h,List.length_append]
 congr 1
 split <;> rfl
noncomputable def bp (l:List Str):List Key:=l.map Sum.inr
theorem dQ (l:List Str):(bp l).map kV=l.map V.str:=by unfold bp;rw [List.map_map];rfl
theorem gn {a b:List Str} (h:bp a=bp b):a=b:=(List.map_inj_right (fun x y h=>Sum.inr.inj h)).mp h
theorem uH {κ:Type} [DecidableEq κ] {kvs:List (κ×V)}{k:κ}{v w:V} (h:bc kvs k=some w):(putK kvs k v).length=kvs.length:=by
 unfold putK
 rw [e8,h]
 rw [if_pos (show (some w).isSome=true from rfl),List.length_map]
theorem eZ {H H':Hp}{p:Addr}{o:HO} (h:ai H H') (hp:H p=none):ai H (upd H' p o):=fun b ob e=>by
 rw [aq (bu e hp)];exact h b ob e
theorem jf {K:PySem.W.Frag}{a D:Addr}{xs:List V}{tk tv:TE}{j:Nat}{σ':St}{fin:Hp->Prop}{H1:Hp} (Pv:Nat->St->Hp->Prop) (h0:Pv 0 σ' H1) (hl:∀i σ H,i<=xs.length->Pv i σ H->SqL K H a xs)
  (hs:∀i x σ H,xs[i]?=some x->Pv i σ H->tk (σ.set j (some x)) H (fun y H4=>tv (σ.set j (some x)) H4 fun v H5=>∃H6,j6 H5 D y v H6/\Pv (i + 1) (σ.set j (some x)) H6)) (hd:∀σ H,Pv xs.length σ H->fin H):DcW D (Itl K a) (cy j) cL tk tv σ' fin H1:=by
 refine⟨fun i m σ H=>m=xs.length - i/\i<=xs.length/\Pv i σ H,⟨xs.length,by simp,Nat.zero_le _,h0⟩,?_⟩
 rintro i m σ H ⟨rfl,hi,p⟩
 have q:=hl i σ H hi p
 by_cases hlt:i < xs.length
 ·refine .inr ⟨⟨xs,xs[i],q,by simp [hlt]⟩,Pv (i + 1),fun σ' H' p'=>⟨xs.length - (i + 1),by omega,rfl,hlt,p'⟩,fun x H' y=>?_⟩
  obtain⟨e,y⟩:=y
  subst e
  unfold cy cL
  exact ao (hs i x σ _ (y xs q) p)
 ·have e:i=xs.length:=by omega
  subst e
  exact .inl ⟨⟨xs,q,Nat.le_refl _⟩,hd σ H p⟩
section
variable {P:Program}{w:World}{K:PySem.W.Frag}{mg:Str->Option Value}{base:Heap}
noncomputable def nW:Sp:=fun vs H Q _=>∃(v pa ra:Addr) (ps:List Str) (rs:List (Addr×Row)) (root:Str),vs=[.ref v,.str root]/\bg H v pa ra ps rs/\ps.length<=8 /\
 ∀(q:Addr) (lts:List (Addr×List Str)) (H':Hp),ai H H'->H' q=some (.lst (bH lts))->cw H' lts->lts.map (·.2)=cP (others ps root)->Q (.ref q) H'
theorem x8:aL ["web","root"] ["web","root"] (aB (top 32)):=⟨rfl,rfl,rfl,by decide +kernel,rfl,by decide +kernel,by decide +kernel⟩
theorem p7 {f:Addr}{fd:FuncData} (F:Fun K "lots_without" "lots_without" (top 32) f fd) (F1:Fn P w K mg base 1 "lots_among" ["places"] jo):aA P w K mg base CX0 2 f fd ["web","root"] nW:=by
 refine F.ok x8 (fun vs H Q E h=>?_) (fun cdv A outer s H vs Q E hr h=>?_)
 ·obtain⟨v,pa,ra,ps,rs,root,rfl,_⟩:=h
  rfl
 ·obtain⟨v,pa,ra,ps,rs,root,rfl,W,p8,k⟩:=h
  refine⟨_,ay (aD (ar F1 hr (ae (bY (N:=["place","root"]) (ix:=[none,some 1]) ⟨rfl,rfl,rfl,by decide⟩ rfl (cJ (aG aO (pv 0) aj (fun _ _=>rfl))) (fun _ _ _ _=>bo 0 (by decide) rfl rfl) (fun _ _ _ _=>fe (aV cf (pv 0) (pv 1) (aT _))) (fun _ _ _ _=>pv 0)) ag))),?_⟩
  refine⟨_,rfl,aI (j:=0) (.inr (SqT.of W.tp)) rfl rfl ⟨pa,rfl,⟨_,SqT.of W.pl⟩,gr (xs:=ps.map V.str) (fits (by simp;omega)) (fun i ys σ H2=>ys=((ps.take i).filter fun y=>!decide (y=root)).map V.str/\H2=H/\∃v,σ=[v,some (.str root)]) ⟨rfl,rfl,_,rfl⟩
   (fun i ys σ H2 _ q=>⟨by rw [q.1,List.length_map];exact Nat.le_trans (List.length_filter_le _ _) (by simp;omega),by rw [q.2.1];exact SqT.of W.pl⟩) ?_ ?_⟩⟩
  ·rintro i y ys σ H2 hy ⟨rfl,rfl,v,rfl⟩
   rw [List.getElem?_map] at hy
   cases hc:ps[i]? with
   | none=>rw [hc] at hy;cases hy
   | some z =>
    rw [hc] at hy
    cases hy
    have tf:=gQ (fun z:Str=>!decide (z=root)) ps i z hc
    refine⟨_,rfl,_,rfl,rfl,_,rfl,?_⟩
    have e:(!decide (V.str z=V.str root))=!decide (z=root):=by simp
    rw [e]
    refine bA (fun c=>⟨_,rfl,?_,rfl,_,rfl⟩) (fun c=>⟨?_,rfl,_,rfl⟩)
    ·rw [tf,c];simp
    ·rw [tf];simp only [Bool.not_eq_true] at c;rw [c];simp
  ·rintro ys σ H2 ⟨rfl,rfl,v,rfl⟩ t ht
   rw [take_all ps (by simp)]
   have s1:=au (o:=.lst ((others ps root).map V.str)) (ai.refl H2) ht
   exact⟨t,others ps root,rfl,.inl ak,by have:=f9 ps root;omega,fun q lts H' s' q' A' e'=>k q lts H' (s1.trans s') q' A' e'⟩
noncomputable def jt:Sp:=fun vs H Q _=>∃(ra lo:Addr) (rs:List (Addr×Row)) (lts:List (Addr×List Str)),vs=[.ref ra,.ref lo]/\(H ra=some (.lst (bL rs))\/H ra=some (.tup (bL rs)))/\(∀r∈rs,eu H r.1 r.2)/\rs.length<=60/\H lo=some (.lst (bH lts))/\cw H lts/\(lts.map (·.2)).Nodup/\lts.length<=255 /\
 ∀(q:Addr) (kvs:List (List Key×V)) (H':Hp),ai H H'->H' q=some (.dT kvs)->(∀x∈lts,bc kvs (bp x.2)=some (.int (cnt rs x.2)))->Q (.ref q) H'
noncomputable abbrev N33:List Str:=["rows","lots","counts","row","lot"]
theorem iI:aL N33 ["rows","lots"] (aB (top 33)):=⟨rfl,rfl,rfl,by decide +kernel,rfl,by decide +kernel,by decide +kernel⟩
theorem tY {f:Addr}{fd:FuncData} (F:Fun K "counts_into" "counts_into" (top 33) f fd) (F1:Fn P w K mg base 1 "leads_into" ["row","lot"] jV):aA P w K mg base CX0 2 f fd ["rows","lots"] jt:=by
 refine F.ok iI (fun vs H Q E h=>?_) (fun cdv A outer s H vs Q E hr h=>?_)
 ·obtain⟨ra,lo,rs,lts,rfl,_⟩:=h
  rfl
 ·obtain⟨ra,lo,rs,lts,rfl,hra,hrow,hz,hlo,hL,hnd,hl255,k⟩:=h
  have hun:=hr.un
  refine⟨_,am (uz (i:=2) (N:=["lot"]) (ix:=[none]) (lt0 hr) iI.nd rfl (Or.inl rfl) ⟨rfl,rfl,rfl,by decide⟩ rfl (dh (pv 1)) (fun _ _ _ _=>bo 0 (by decide) rfl rfl) (fun _ _ _ _=>bK) (fun _ _ _ _=>pv 0) (fun _ _ _ _=>aj))
   (am (dm PassesOwn.never rfl (o7 (dh (pv 0)) (cJ (pv 0))) (br (i:=3) iI.nd rfl (Or.inl rfl)) (ay (dm PassesOwn.never rfl (dh (pv 1)) (br (i:=4) iI.nd rfl (Or.inl rfl))
    (ay (aY (bE (ar F1 hr (ae (pv 3) (ae (pv 4) ag)))) (ay (vK (dZ hr) (pv 2) (pv 4) aj wQ (fun _ _ _=>rfl))) aX)))))
   (ay (aD (pv 2)))),?_⟩
  have htl:(bH lts).length=lts.length:=by simp
  refine⟨_,rfl,lo,rfl,⟨_,SqL.of hlo⟩,fun D hD=>?_⟩
  have s0:=au (o:=.dT []) (ai.refl H) hD
  refine jf (K:=K) (a:=lo) (xs:=bH lts) (fun i σ H2=>ai H H2/\(∃x,σ=[x])/\∃kvs,H2 D=some (.dT kvs)/\kvs.length<=i/\∀m x,m < i->lts[m]?=some x->bc kvs (bp x.2)=some (.int 0)) ⟨s0,⟨_,rfl⟩,[],ak,Nat.le_refl _,fun m x hm=>absurd hm (Nat.not_lt_zero _)⟩
   (fun i σ H2 _ q=>SqL.of (q.1 _ _ hlo)) ?_ ?_
  ·rintro i x σ H2 hx ⟨s2,⟨g,rfl⟩,kvs,d2,z2,v2⟩
   obtain⟨lt,hlt,rfl⟩:=fI hx
   have hm:=List.mem_of_getElem? hlt
   have hi:i < lts.length:=(List.getElem?_eq_some_iff.mp hlt).1
   refine⟨_,rfl,upd H2 D (.dT (putK kvs (bp lt.2) (.int 0))),⟨kvs,bp lt.2,lt.1,d2,rfl,by rw [dQ];exact s2 _ _ (hL lt hm),by rw [sizeLine_eq];omega,rfl⟩,eZ s2 hD,⟨_,rfl⟩,_,ak,by have:=f7 kvs (bp lt.2) (.int 0);omega,fun m y hmi hy=>?_⟩
   rw [mj]
   by_cases e:bp y.2=bp lt.2
   ·rw [if_pos e]
   ·rw [if_neg e]
    refine v2 m y ?_ hy
    have:m≠i:=fun q=>by rw [q,hlt] at hy;cases hy;exact e rfl
    omega
  rintro σ0 H2 ⟨s2,_,kvs0,d2,z2,v2⟩
  rw [htl] at z2 v2
  refine mB (K:=K) (Hb:=H) (a:=ra) (xs:=bL rs) (fun Q q=>⟨_,rfl,q⟩) hra s2 (fun i σ H3=>ai H H3/\(∃g1 g2,σ=[some (.ref ra),some (.ref lo),some (.ref D),g1,g2])/\∃kvs,H3 D=some (.dT kvs)/\kvs.length<=255/\∀x∈lts,bc kvs (bp x.2)=some (.int (cnt (rs.take i) x.2)))
   ⟨s2,⟨_,_,rfl⟩,kvs0,d2,by omega,fun x hx=>?_⟩ (fun i σ H3 _ q=>q.1) ?_ ?_
  ·obtain⟨m,hm⟩:=List.getElem?_of_mem hx
   exact v2 m x (List.getElem?_eq_some_iff.mp hm).1 hm
  ·rintro i x σ H3 hx ⟨s3,⟨g1,g2,rfl⟩,kvs,d3,z3,v3⟩
   obtain⟨r,hr',rfl⟩:=iV hx
   have hrm:=List.mem_of_getElem? hr'
   refine⟨_,rfl,lo,rfl,⟨_,SqL.of (s3 _ _ hlo)⟩,gs (K:=K) (a:=lo) (xs:=bH lts) (fun j σ H4=>ai H H4/\(∃g2,σ=[some (.ref ra),some (.ref lo),some (.ref D),some (.ref r.1),g2])/\∃kvs,H4 D=some (.dT kvs)/\kvs.length<=255/\∀m x,lts[m]?=some x->bc kvs (bp x.2)=some (.int (if m < j then cnt (rs.take (i + 1)) x.2 else cnt (rs.take i) x.2:Nat)))
    ⟨s3,⟨_,rfl⟩,kvs,d3,z3,fun m x hm=>?_⟩ (fun j σ H4 _ q=>SqL.of (q.1 _ _ hlo)) ?_ ?_⟩
   ·rw [if_neg (Nat.not_lt_zero _)]
    exact v3 x (List.mem_of_getElem? hm)
   ·rintro j y σ H4 hy ⟨s4,⟨g2,rfl⟩,kvs,d4,z4,v4⟩
    obtain⟨lt,hlt,rfl⟩:=fI hy
    have hm:=List.mem_of_getElem? hlt
    have cs:=va hr' lt.2
    refine⟨_,rfl,_,rfl,lt.1,r,lt.2,rfl,s4 _ _ (hrow r hrm),s4 _ _ (hL lt hm),_,rfl,?_⟩
    have vj:=v4 j lt hlt
    rw [if_neg (Nat.lt_irrefl _)] at vj
    have stay:∀m x,m≠j->lts[m]?=some x->(if m < j then cnt (rs.take (i + 1)) x.2 else cnt (rs.take i) x.2)=(if m < j + 1 then cnt (rs.take (i + 1)) x.2 else cnt (rs.take i) x.2):=fun m x hmj _=>by
     by_cases h1:m < j
     ·rw [if_pos h1,if_pos (by omega)]
     ·rw [if_neg h1,if_neg (by omega)]
    refine bA (fun c=>?_) (fun c=>⟨s4,⟨_,rfl⟩,kvs,d4,z4,fun m x hx=>?_⟩)
    ·rw [if_pos c] at cs
     refine⟨_,rfl,_,rfl,D,.int (cnt (rs.take i) lt.2),rfl,?_,_,_,rfl,rfl,upd H4 D (.dT (putK kvs (bp lt.2) (.int ((cnt (rs.take i) lt.2:Int) + 1)))),eB.t d4 (by rw [dQ];exact s4 _ _ (hL lt hm)) (by rw [sizeLine_eq];omega),eZ s4 hD,⟨_,rfl⟩,_,ak,by rw [uH vj];exact z4,fun m x hx=>?_⟩
     ·have g:=bZ.t (k:=bp lt.2) (b:=lt.1) d4 (by rw [dQ];exact s4 _ _ (hL lt hm))
      rw [vj] at g
      exact g
     ·rw [mj]
      by_cases hmj:m=j
      ·subst hmj
       rw [hlt] at hx
       cases hx
       rw [if_pos rfl,if_pos (Nat.lt_succ_self _),cs]
       rfl
      ·have hne:bp x.2≠bp lt.2:=fun e=>by
        have e':=gn e
        obtain⟨hmi,em⟩:=List.getElem?_eq_some_iff.mp hx
        obtain⟨hji,ej⟩:=List.getElem?_eq_some_iff.mp hlt
        have hp:=List.pairwise_iff_getElem.mp hnd
        have h1:(lts.map (·.2))[m]'(by simpa using hmi)=x.2:=by rw [List.getElem_map,em]
        have h2:(lts.map (·.2))[j]'(by simpa using hji)=lt.2:=by rw [List.getElem_map,ej]
        rcases Nat.lt_or_gt_of_ne hmj with q | q
        ·exact hp m j _ _ q (by rw [h1,h2];exact e')
        ·exact hp j m _ _ q (by rw [h1,h2];exact e'.symm)
       rw [if_neg hne,v4 m x hx,stay m x hmj hx]
    ·rw [if_neg c] at cs
     rw [v4 m x hx]
     by_cases hmj:m=j
     ·subst hmj
      rw [hlt] at hx
      cases hx
      rw [if_neg (Nat.lt_irrefl _),if_pos (Nat.lt_succ_self _),cs]
      rfl
     ·rw [stay m x hmj hx]
   ·rintro σ H4 ⟨s4,⟨g2,rfl⟩,kvs,d4,z4,v4⟩
    refine⟨s4,⟨_,_,rfl⟩,kvs,d4,z4,fun x hx=>?_⟩
    obtain⟨m,hm⟩:=List.getElem?_of_mem hx
    have q:=v4 m x hm
    rw [if_pos (by rw [htl];exact (List.getElem?_eq_some_iff.mp hm).1)] at q
    exact q
  ·rintro σ H3 ⟨s3,⟨g1,g2,rfl⟩,kvs,d3,z3,v3⟩
   rw [take_all rs (by simp)] at v3
   exact⟨_,rfl,k D kvs H3 s3 d3 v3⟩
end
noncomputable def need (rts ls:List Str):Nat:=(rts.filter fun r=>!decide (r∈ls)).length
section
variable {P:Program}{w:World}{K:PySem.W.Frag}{mg:Str->Option Value}{base:Heap}
noncomputable def jn:Sp:=fun vs H Q _=>∃(a l:Addr) (rts ls:List Str),vs=[.ref a,.ref l]/\H a=some (.tup (rts.map V.str))/\H l=some (.tup (ls.map V.str))/\rts.length<=100/\∀H',ai H H'->Q (.int (need rts ls)) H'
theorem yg:aL ["roots","lot"] ["roots","lot"] (aB (top 34)):=⟨rfl,rfl,rfl,by decide +kernel,rfl,by decide +kernel,by decide +kernel⟩
theorem rq {f:Addr}{fd:FuncData} (F:Fun K "need_of" "need_of" (top 34) f fd) (B:Bl mg):aA P w K mg base CX0 1 f fd ["roots","lot"] jn:=by
 refine F.ok yg (fun vs H Q E h=>?_) (fun cdv A outer s H vs Q E hr h=>?_)
 ·obtain⟨a,l,rts,ls,rfl,_⟩:=h
  rfl
 ·obtain⟨a,l,rts,ls,rfl,ha,hl,hz,k⟩:=h
  refine⟨_,ay (aD (aC bB rfl B.len PySem.boot_len (ae (bY (N:=["root","lot"]) (ix:=[none,some 1]) ⟨rfl,rfl,rfl,by decide⟩ rfl (cJ (pv 0)) (fun _ _ _ _=>bo 0 (by decide) rfl rfl)
   (fun _ _ _ _=>fe (aV (kZ K) (pv 0) (pv 1) (by with_unfolding_all rfl))) (fun _ _ _ _=>pv 0)) ag))),?_⟩
  refine⟨_,rfl,a,rfl,⟨_,SqT.of ha⟩,gr (xs:=rts.map V.str) (fits (by simp;omega)) (fun i ys σ H1=>ys=((rts.take i).filter fun r=>!decide (r∈ls)).map V.str/\H1=H/\∃x,σ=[x,some (.ref l)]) ⟨rfl,rfl,_,rfl⟩
   (fun i ys σ H1 _ q=>⟨by rw [q.1,List.length_map];exact Nat.le_trans (List.length_filter_le _ _) (by simp;omega),by rw [q.2.1];exact SqT.of ha⟩) ?_ ?_⟩
  ·rintro i x ys σ H1 hx ⟨rfl,rfl,v,rfl⟩
   rw [List.getElem?_map] at hx
   cases hc:rts[i]? with
   | none=>rw [hc] at hx;cases hx
   | some z =>
    rw [hc] at hx
    cases hx
    have tf:=gQ (fun r:Str=>!decide (r∈ls)) rts i z hc
    refine⟨_,rfl,_,rfl,l,ls.map V.str,rfl,.inr (SqT.of hl),rfl,ef ls,_,rfl,?_⟩
    show if (!inV (.str z) (ls.map V.str))=true then _ else _
    rw [eE]
    refine bA (fun c=>⟨_,rfl,?_,rfl,_,rfl⟩) (fun c=>⟨?_,rfl,_,rfl⟩)
    ·rw [tf,c];simp
    ·rw [tf];simp only [Bool.not_eq_true] at c;rw [c];simp
  ·rintro ys σ H1 ⟨rfl,rfl,v,rfl⟩ q hq
   rw [take_all rts (by simp)]
   refine⟨q,_,rfl,.inl (SqL.of ak),?_⟩
   have e:(((rts.filter fun r=>!decide (r∈ls)).map V.str).length:Int)=(need rts ls:Int):=by rw [List.length_map];rfl
   rw [e]
   exact k _ (au (ai.refl _) hq)
end
end K45
namespace L2
open PySem
end L2
namespace K45
open PySem L2
noncomputable def spr (rs:List (Addr×Row)) (rts l:List Str):Int:=(cnt rs l:Int) - (need rts l:Int)
noncomputable abbrev du (rs:List (Addr×Row)) (rts:List Str) (ls:List (List Str)):List (List Key×V):=ls.map fun l=>(bp l,V.int (spr rs rts l))
theorem lJ {rs:List (Addr×Row)}{rts:List Str}:∀{ls:List (List Str)}{l:List Str},l∉ls->bc (du rs rts ls) (bp l)=none
 | [],l,_=>rfl
 | m::r,l,h=>by
  have h':l≠m/\l∉r:=by simpa using h
  show bc ((bp m,V.int (spr rs rts m))::du rs rts r) (bp l)=none
  rw [cE (fun e=>h'.1 (gn e).symm)]
  exact lJ h'.2
theorem lh {rs:List (Addr×Row)}{rts:List Str}:∀{ls:List (List Str)}{l:List Str},l∈ls->bc (du rs rts ls) (bp l)=some (.int (spr rs rts l))
 | m::r,l,h=>by
  show bc ((bp m,V.int (spr rs rts m))::du rs rts r) (bp l)=_
  by_cases e:m=l
  ·subst e;exact cV rfl
  ·rw [cE (fun z=>e (gn z))]
   exact lh ((List.mem_cons.mp h).resolve_left fun z=>e z.symm)
section
variable {P:Program}{w:World}{K:PySem.W.Frag}{mg:Str->Option Value}{base:Heap}
noncomputable def jx:Sp:=fun vs H Q _=>∃z:Int,vs=[.int z]/\Q (.bl true) H
theorem pQ:aL ["thing"] ["thing"] (aB (top 16)):=⟨rfl,rfl,rfl,by decide +kernel,rfl,by decide +kernel,by decide +kernel⟩
theorem kS {f:Addr}{fd:FuncData} (F:Fun K "is_whole" "is_whole" (top 16) f fd) (B:Bl mg):aA P w K mg base CX0 1 f fd ["thing"] jx:=by
 refine F.ok pQ (fun vs H Q E h=>?_) (fun cdv A outer s H vs Q E hr h=>?_)
 ·obtain⟨z,rfl,_⟩:=h
  rfl
 ·obtain⟨z,rfl,k⟩:=h
  refine⟨_,ay (aD (cH (aC (cb (T:="int")) rfl B.isinstance bG (ae (pv 0) (ae (bV (v:=.ty "int") rfl B.int jX rfl) ag)))
   (cZ (oa (aC (cb (T:="bool")) rfl B.isinstance bG (ae (pv 0) (ae (bV (v:=.ty "bool") rfl B.bool ou rfl) ag))))))),?_⟩
  exact⟨_,rfl,_,_,true,rfl,.int z,rfl,true,rfl,ao ⟨_,rfl,_,_,false,rfl,.int z,rfl,false,rfl,k⟩⟩
noncomputable def jk:Sp:=fun vs H Q _=>∃z lo hi:Int,vs=[.int z,.int lo,.int hi]/\lo<=z/\z<=hi/\Q .non H
theorem pB:aL ["thing","low","high"] ["thing","low","high"] (aB (top 23)):=⟨rfl,rfl,rfl,by decide +kernel,rfl,by decide +kernel,by decide +kernel⟩
theorem qc {f:Addr}{fd:FuncData} (F:Fun K "need_number" "need_number" (top 23) f fd) (F1:Fn P w K mg base 1 "is_whole" ["thing"] jx):aA P w K mg base CX0 2 f fd ["thing","low","high"] jk:=by
 refine F.ok pB (fun vs H Q E h=>?_) (fun cdv A outer s H vs Q E hr h=>?_)
 ·obtain⟨z,lo,hi,rfl,_⟩:=h
  rfl
 ·obtain⟨z,lo,hi,rfl,h1,h2,k⟩:=h
  refine⟨_,ay (aY (PW.pt (bS (bw (bE (ar F1 hr (ae (pv 0) ag)))) (cc (bw (fF dX dX (pv 1) (pv 0) (pv 2)))))) cx aX),?_⟩
  exact⟨_,rfl,z,rfl,true,rfl,aH ⟨_,rfl,_,rfl,_,_,rfl,rfl,_,rfl,fB h1 ⟨_,rfl,_,_,rfl,rfl,_,rfl,ez h2 k⟩⟩⟩
noncomputable def nu:Sp:=fun vs H Q _=>∃(ra lo a:Addr) (rs:List (Addr×Row)) (lts:List (Addr×List Str)) (rts:List Str),vs=[.ref ra,.ref lo,.ref a]/\(H ra=some (.lst (bL rs))\/H ra=some (.tup (bL rs)))/\(∀r∈rs,eu H r.1 r.2)/\rs.length<=60/\H lo=some (.lst (bH lts))/\cw H lts/\(lts.map (·.2)).Nodup/\lts.length<=255 /\
 H a=some (.tup (rts.map V.str))/\rts.length<=100/\∀(q:Addr) (H':Hp),ai H H'->H q=none->H' q=some (.dT (du rs rts (lts.map (·.2))))->Q (.ref q) H'
noncomputable abbrev N35:List Str:=["rows","lots","roots","counts"]
theorem pE:aL N35 ["rows","lots","roots"] (aB (top 35)):=⟨rfl,rfl,rfl,by decide +kernel,rfl,by decide +kernel,by decide +kernel⟩
theorem uY {f:Addr}{fd:FuncData} (F:Fun K "spare_into" "spare_into" (top 35) f fd) (F1:Fn P w K mg base 2 "counts_into" ["rows","lots"] jt) (F2:Fn P w K mg base 1 "need_of" ["roots","lot"] jn):aA P w K mg base CX0 3 f fd ["rows","lots","roots"] nu:=by
 refine F.ok pE (fun vs H Q E h=>?_) (fun cdv A outer s H vs Q E hr h=>?_)
 ·obtain⟨ra,lo,a,rs,lts,rts,rfl,_⟩:=h
  rfl
 ·obtain⟨ra,lo,a,rs,lts,rts,rfl,hra,hrow,hz,hlo,hL,hnd,hl255,ha,hr100,k⟩:=h
  have hr1:aK 1 _:=hr.mono (by decide)
  refine⟨_,am (aU (i:=3) pE.nd rfl (Or.inr rfl) (ar F1 hr (ae (pv 0) (ae (pv 1) ag))))
   (ay (aD (o9 (N:=["lot","counts","roots"]) (ix:=[none,some 3,some 2]) (lt0 hr) ⟨rfl,rfl,rfl,by decide⟩ rfl (dh (pv 1)) (fun _ _ _ _=>bo 0 (by decide) rfl rfl) (fun _ _ _ _=>bK) (fun _ _ _ _=>pv 0)
    (fun _ _ _ _=>aF dS (eG (dZ hr) (pv 1) (pv 0) (fun _ _=>rfl)) (ar F2 hr1 (ae (pv 2) (ae (pv 0) ag))))))),?_⟩
  refine⟨_,rfl,_,rfl,ra,lo,rs,lts,rfl,hra,hrow,hz,hlo,hL,hnd,hl255,fun c kvs H1 s1 c1 v1=>?_⟩
  refine⟨_,rfl,lo,rfl,⟨_,SqL.of (s1 _ _ hlo)⟩,fun D hD=>?_⟩
  have s2:=au (o:=.dT []) (ai.refl H1) hD
  have htl:(bH lts).length=lts.length:=by simp
  have hD0:H1 D=none:=hD
  refine jf (K:=K) (a:=lo) (xs:=bH lts) (fun i σ H2=>ai H1 H2/\(∃x,σ=[x,some (.ref c),some (.ref a)])/\H2 D=some (.dT (du rs rts ((lts.take i).map (·.2))))) ⟨s2,⟨_,rfl⟩,ak⟩
   (fun i σ H2 _ q=>SqL.of (q.1 _ _ (s1 _ _ hlo))) ?_ ?_
  ·rintro i x σ H2 hx ⟨s2,⟨g,rfl⟩,d2⟩
   obtain⟨lt,hlt,rfl⟩:=fI hx
   have hm:=List.mem_of_getElem? hlt
   have hi:i < lts.length:=(List.getElem?_eq_some_iff.mp hlt).1
   have hlt2:=s2 _ _ (s1 _ _ (hL lt hm))
   have gc:bZ H2 c (.ref lt.1) (some (.int (cnt rs lt.2))):=by
    rw [<- v1 lt hm];exact bZ.t (s2 _ _ c1) (by rw [dQ];exact hlt2)
   refine⟨_,rfl,_,rfl,_,rfl,c,_,rfl,gc,?_⟩
   refine⟨_,rfl,_,rfl,a,lt.1,rts,lt.2,rfl,s2 _ _ (s1 _ _ ha),hlt2,hr100,fun H3 s3=>?_⟩
   have d3:=s3 _ _ d2
   have hfresh:lt.2∉(lts.take i).map (·.2):=fun hmm=>by
    have nd:=hnd.sublist ((List.take_sublist (i + 1) lts).map (fun x:Addr×List Str=>x.2))
    rw [List.take_add_one,hlt,List.map_append] at nd
    exact (List.nodup_append.mp nd).2.2 _ hmm lt.2 (by simp) rfl
   refine⟨_,_,rfl,rfl,_,⟨_,bp lt.2,lt.1,d3,rfl,by rw [dQ];exact s3 _ _ hlt2,by rw [List.length_map,List.length_map,List.length_take,sizeLine_eq];omega,rfl⟩,eZ (s2.trans s3) hD0,⟨_,rfl⟩,?_⟩
   rw [ak,js _ (lJ hfresh),List.take_add_one,hlt]
   simp [du,spr]
  ·rintro σ H2 ⟨s2,⟨g,rfl⟩,d2⟩
   rw [htl,take_all lts rfl] at d2
   exact k D H2 (s1.trans s2) (s1.free hD0) d2
end
mutual
theorem uA:∀d:PyData,d.canLay0=true->PyData.eqv d d=true
 | .none,_=>by simp [PyData.eqv]
 | .bool b,_=>by simp [PyData.eqv]
 | .int i,_=>by simp [PyData.eqv]
 | .str x,_=>by simp [PyData.eqv]
 | .list xs,h=>by rw [PyData.eqv];exact iN xs (by simpa [PyData.canLay0] using h)
 | .tuple xs,h=>by rw [PyData.eqv];exact iN xs (by simpa [PyData.canLay0] using h)
 | .dict _,h=>by simp [PyData.canLay0] at h
theorem iN:∀ds:List PyData,PyData.canLayAll0 ds=true->PyData.eqvAll ds ds=true
 | [],_=>by simp [PyData.eqvAll]
 | d::ds,h=>by
  simp only [PyData.canLayAll0,Bool.and_eq_true] at h
  rw [PyData.eqvAll,uA d h.1,iN ds h.2]
  rfl
end
noncomputable abbrev tupD (ts:List Str):PyData:=.tuple (ts.map PyData.str)
section
variable {P:Program}{w:World}{K:PySem.W.Frag}{mg:Str->Option Value}{base:Heap}
end
noncomputable abbrev Pr:=Addr×Int×Int
noncomputable abbrev bO (prs:List Pr):List V:=prs.map fun x=>V.ref x.1
noncomputable def bP (H:Hp) (prs:List Pr):Prop:=∀x∈prs,H x.1=some (.tup [.int x.2.1,.int x.2.2])
noncomputable def cS (m:Nat) (prs:List Pr):Prop:=∀x∈prs,0<=x.2.1/\x.2.1 < m/\0<=x.2.2/\x.2.2 < m/\x.2.1≠x.2.2
theorem bP.kp {H H1:Hp}{p:Addr}{prs:List Pr} (h:bP H prs) (k:Kp [p] H H1) (hp:Pot H p):bP H1 prs:=fun x hx=>k.tup hp (h x hx)
theorem bP.new {H:Hp}{q:Addr}{o:HO}{prs:List Pr} (h:bP H prs) (hq:H q=none):bP (upd H q o) prs:=fun x hx=>by
 rw [aq (bu (h x hx) hq)];exact h x hx
theorem bP.over {H:Hp}{q:Addr}{o:HO}{ys:List V}{prs:List Pr} (h:bP H prs) (hq:H q=some (.lst ys)):bP (upd H q o) prs:=fun x hx=>by
 rw [aq (tup_ne (h x hx) hq)];exact h x hx
theorem bP.app {H:Hp}{a b:List Pr} (h:bP H a) (g:bP H b):bP H (a++b):=fun x hx=>(List.mem_append.mp hx).elim (h x) (g x)
theorem cS.app {m:Nat}{a b:List Pr} (h:cS m a) (g:cS m b):cS m (a++b):=fun x hx=>(List.mem_append.mp hx).elim (h x) (g x)
theorem bP.one {H:Hp}{t:Addr}{a b:Int} (h:H t=some (.tup [.int a,.int b])):bP H [(t,a,b)]:=fun x hx=>by
 have e:x=(t,a,b):=by simpa using hx
 subst e;exact h
theorem cS.one {m:Nat}{t:Addr}{a b:Int} (h:0<=a/\a < m/\0<=b/\b < m/\a≠b):cS m [(t,a,b)]:=fun x hx=>by
 have e:x=(t,a,b):=by simpa using hx
 subst e;exact h
theorem kW {m i:Nat} (h2:2<=m) (h8:m<=8) {T:Int} (hT:T<=30 / ((m:Int) - 1)) (hi:(i:Int)<=T):i * (m - 1)<=30:=by
 have:m=2\/m=3\/m=4\/m=5\/m=6\/m=7\/m=8:=by omega
 rcases this with rfl | rfl | rfl | rfl | rfl | rfl | rfl <;> omega
theorem w6 {a r n:Int} (h1:0<=a) (h2:a < n) (h3:0<=r) (h4:r < n - 1):(a + 1 + r) % n≠a/\0<=(a + 1 + r) % n/\(a + 1 + r) % n < n:=by
 refine⟨fun e=>?_,Int.emod_nonneg _ (by omega),Int.emod_lt_of_pos _ (by omega)⟩
 have q:=Int.mul_ediv_add_emod (a + 1 + r) n
 rw [e] at q
 generalize (a + 1 + r) / n=k at q
 have hk:k<=0\/1<=k:=by omega
 rcases hk with hk | hk
 ·have:=Int.mul_nonpos_of_nonneg_of_nonpos (show 0<=n by omega) hk
  omega
 ·have:=Int.mul_le_mul_of_nonneg_left hk (show 0<=n by omega)
  omega
section
variable {P:Program}{w:World}{K:PySem.W.Frag}{mg:Str->Option Value}{base:Heap}
noncomputable def m9:Sp:=fun vs H Q _=>∃(p:Addr) (m:Nat),vs=[.ref p,.int m]/\Pot H p/\1<=m/\m<=8 /\
 ∀(q:Addr) (prs:List Pr) (H':Hp),Pot H' p->H' q=some (.lst (bO prs))->H q=none->bP H' prs->cS m prs->prs.length<=40->Kp [p] H H'->Q (.ref q) H'
noncomputable abbrev N53:List Str:=["_law_pot_here","_law_many","_law_found","_law_tree","_law_k","_law_a"]
theorem gO:aL N53 ["_law_pot_here","_law_many"] (aB (top 53)):=⟨rfl,rfl,rfl,by decide +kernel,rfl,by decide +kernel,by decide +kernel⟩
theorem ur {f:Addr}{fd:FuncData} (F:Fun K "_law_pairs" "_law_pairs" (top 53) f fd) (B:Bl mg) (Ft:Fn P w K mg base 1 "_law_take" ["_law_pot_here","_law_many"] cK):aA P w K mg base CX0 2 f fd ["_law_pot_here","_law_many"] m9:=by
 refine F.ok gO (fun vs H Q E h=>?_) (fun cdv A outer s H vs Q E hr h=>?_)
 ·obtain⟨p,m,rfl,_⟩:=h
  rfl
 ·obtain⟨p,m,rfl,hp,m1,m8,k⟩:=h
  refine⟨_,am (aU (i:=2) gO.nd rfl (Or.inl rfl) (ba ag))
   (am (aY (aV dG (pv 1) aj (aT _)) (ay (aD (pv 2))) aX)
   (am (dm PassesOwn.never rfl (eY rfl B.range (ae (aC (lx rfl) rfl B.min o6 (ae (aG aO (ba (ae aj (ae aj (ae aj (ae aj (ae aj (ae aj (ae aj ag)))))))) (ar Ft hr (ae (pv 0) (ae aj ag))) (fun _ _=>rfl))
     (ae (aF jA aj (aF dS (pv 1) aj)) ag))) ag)) (br (i:=3) gO.nd rfl (Or.inl rfl))
    (ay (bN (eU PySem.F.plainAttrs_list PySem.F.slot_list_extend PySem.F.type_list_extend tU (pv 2) (ae (bY (N:=["_law_k","_law_pot_here"]) (ix:=[none,some 0]) ⟨rfl,rfl,rfl,by decide⟩ rfl
     (je rfl B.range (ae aj (ae (pv 1) ag))) (fun _ _ _ _=>bo 0 (by decide) rfl rfl) (fun _ _ _ _=>bK) (fun _ _ _ _=>aE (ae (ar Ft hr (ae (pv 1) (ae (pv 0) ag))) (ae (pv 0) ag)))) ag)))))
   (am (dm PassesOwn.never rfl (eY rfl B.range (ae (aG aO (ba (ae (ar Ft hr (ae (pv 0) (ae aj ag))) (ae (ar Ft hr (ae (pv 0) (ae aj ag))) ag))) (ar Ft hr (ae (pv 0) (ae aj ag))) (fun _ _=>rfl)) ag)) (br (i:=4) gO.nd rfl (Or.inl rfl))
    (am (aU (i:=5) gO.nd rfl (Or.inl rfl) (ar Ft hr (ae (pv 0) (ae (pv 1) ag))))
    (ay (bN (eU PySem.F.plainAttrs_list PySem.F.slot_list_append PySem.F.type_list_append iY (pv 2) (ae (aE (ae (pv 5) (ae (aF fg (aF cO (aF cO (pv 5) aj) (ar Ft hr (ae (pv 0) (ae (aF dS (pv 1) aj) ag)))) (pv 1)) ag))) ag))))))
   (ay (aD (pv 2)))))),?_⟩
  refine⟨Nat.zero_le _,fun fo hfo=>?_⟩
  have nfp:=hp.ne_new hfo
  have P1:=hp.new (o:=.lst []) hfo
  have K1:=(Kp.refl [p] H).new (o:=.lst []) hfo
  have F1:upd H fo (.lst []) fo=some (.lst (bO [])):=ak
  generalize upd H fo (.lst [])=H1 at P1 K1 F1 ⊢
  refine⟨_,rfl,rfl,_,rfl,?_⟩
  refine bA (fun c=>⟨_,rfl,k fo [] H1 P1 F1 hfo (by simp [bP]) (by simp [cS]) (by simp) K1⟩) (fun c=>?_)
  have m2:2<=m:=by
   simp only [decide_eq_true_eq] at c
   have:¬ ((m:Int)=1):=fun z=>c (by rw [z])
   omega
  refine⟨by show 7<=sizeLine;decide,fun l7 hl7=>?_⟩
  have nl7:=P1.ne_new hl7
  have P2:=P1.new (o:=.lst [.int 0,.int 1,.int 1,.int 2,.int 2,.int 3,.int 6]) hl7
  have K2:=K1.new (o:=.lst [.int 0,.int 1,.int 1,.int 2,.int 2,.int 3,.int 6]) hl7
  have L2':upd H1 l7 (.lst [.int 0,.int 1,.int 1,.int 2,.int 2,.int 3,.int 6]) l7=some (.lst [.int 0,.int 1,.int 1,.int 2,.int 2,.int 3,.int 6]):=ak
  have F2:upd H1 l7 (.lst [.int 0,.int 1,.int 1,.int 2,.int 2,.int 3,.int 6]) fo=some (.lst (bO [])):=by rw [aq (bu F1 hl7)];exact F1
  generalize upd H1 l7 (.lst [.int 0,.int 1,.int 1,.int 2,.int 2,.int 3,.int 6])=H2 at P2 K2 L2' F2 ⊢
  refine⟨_,rfl,p,7,rfl,P2,by decide,by decide,fun r1 H3 a0 a1 P3 K3'=>?_⟩
  have L3:=K3'.at nl7 L2'
  have F3:=K3'.at nfp F2
  have K3:=K2.trans K3'
  have hc:∃c:Int,([V.int 0,V.int 1,V.int 1,V.int 2,V.int 2,V.int 3,V.int 6]:List V)[r1.toNat]?=some (.int c)/\0<=c/\c<=6:=by
   have:r1=0\/r1=1\/r1=2\/r1=3\/r1=4\/r1=5\/r1=6:=by omega
   rcases this with rfl | rfl | rfl | rfl | rfl | rfl | rfl
   ·exact⟨0,rfl,by decide,by decide⟩
   ·exact⟨1,rfl,by decide,by decide⟩
   ·exact⟨1,rfl,by decide,by decide⟩
   ·exact⟨2,rfl,by decide,by decide⟩
   ·exact⟨2,rfl,by decide,by decide⟩
   ·exact⟨3,rfl,by decide,by decide⟩
   ·exact⟨6,rfl,by decide,by decide⟩
  obtain⟨c1,hc1,c10,c16⟩:=hc
  have hdiv:(0:Int)<=30 / ((m:Int) - 1):=Int.ediv_nonneg (by decide) (by omega)
  refine aI (j:=r1.toNat) (.inl (SqL.of L3)) (by omega) hc1 ⟨_,rfl,_,_,rfl,rfl,_,_,rfl,rfl,⟨by omega,by omega⟩,_,_,rfl,?_⟩
  have hT:∃T:Int,(if 30 / ((m:Int) - 1) < c1 then 30 / ((m:Int) - 1) else c1)=T/\0<=T/\T<=6/\T<=30 / ((m:Int) - 1):=by
   split
   ·exact⟨_,rfl,hdiv,by omega,Int.le_refl _⟩
   ·exact⟨_,rfl,c10,c16,by omega⟩
  obtain⟨T,eT,T0,T6,Td⟩:=hT
  rw [eT]
  refine⟨_,rfl,by omega,by omega,gW (fun i σ H4=>∃(prs:List Pr) (g1 g2 g3:Option V),σ=[some (.ref p),some (.int m),some (.ref fo),g1,g2,g3]/\Pot H4 p/\H4 fo=some (.lst (bO prs))/\bP H4 prs/\cS m prs/\prs.length=i * (m - 1)/\Kp [p] H H4)
   ⟨[],none,none,none,rfl,P3,F3,by simp [bP],by simp [cS],by simp,K3⟩ ?_ ?_⟩
  ·rintro i σ H4 hi ⟨prs,g1,g2,g3,rfl,P4,F4,A4,O4,hl,K4⟩
   have hb:=kW (i:=i + 1) m2 m8 Td (by omega)
   rw [Nat.succ_mul] at hb
   refine⟨_,rfl,.inl ⟨rfl,_,SqL.of F4⟩,_,rfl,1,(m:Int),rfl,⟨by decide,by decide,by omega,by omega⟩,?_⟩
   have em:((m:Int) - 1).toNat=m - 1:=by omega
   rw [em]
   refine gf (fits (by omega)) (fun j ys σ H5=>(∃qs:List Pr,ys=bO qs/\bP H5 qs/\cS m qs/\qs.length=j)/\Pot H5 p/\Kp [p] H4 H5/\∃x,σ=[x,some (.ref p)])
    ⟨⟨[],rfl,by simp [bP],by simp [cS],rfl⟩,P4,Kp.refl _ _,_,rfl⟩ (fun j ys σ H5 _ q=>by obtain⟨⟨qs,rfl,_,_,rfl⟩,_⟩:=q;simp) ?_ ?_
   ·rintro j ys σ H5 hj ⟨⟨qs,rfl,A5,O5,rfl⟩,P5,K5,v,rfl⟩
    refine⟨_,rfl,_,rfl,p,_,rfl,P5,by omega,by omega,fun r H6 r0 r1 P6 K6=>⟨_,rfl,by show 2<=sizeLine;decide,fun t ht=>?_⟩⟩
    refine⟨⟨qs++[(t,r,1 + (qs.length:Int))],by simp [bO],?_,?_,by simp⟩,P6.new ht,(K5.trans K6).new ht,_,rfl⟩
    ·exact ((A5.kp K6 P5).new ht).app (bP.one ak)
    ·exact O5.app (cS.one ⟨r0,by omega,by omega,by omega,by omega⟩)
   ·rintro ys σ H5 ⟨⟨qs,rfl,A5,O5,hql⟩,P5,K5,v,rfl⟩ t ht
    have F5:=K5.at nfp F4
    have F6:upd H5 t (.lst (bO qs)) fo=some (.lst (bO prs)):=by rw [aq (bu F5 ht)];exact F5
    have A6:bP (upd H5 t (.lst (bO qs))) (prs++qs):=((A4.kp K5 P4).app A5).new ht
    have P6:=P5.new (o:=.lst (bO qs)) ht
    have K6:=(K4.trans K5).new (o:=.lst (bO qs)) ht
    refine⟨fo,t,bO prs,bO qs,rfl,rfl,F6,ak,by rw [sizeLine_eq];simp;omega,?_⟩
    refine⟨prs++qs,_,_,_,rfl,P6.upd nfp,by rw [ak];simp [bO],A6.over F6,O4.app O5,by rw [List.length_append,hl,hql,Nat.succ_mul],fun b o e nb=>by rw [aq (bu e hfo)];exact K6 b o e nb⟩
  ·rintro σ H4 ⟨prs,g1,g2,g3,rfl,P4,F4,A4,O4,hl,K4⟩
   have hl30:prs.length<=30:=by
    rw [hl]
    exact kW m2 m8 Td (by omega)
   clear hl
   refine⟨_,rfl,p,4,rfl,P4,by decide,by decide,fun r1 H5 a0 a1 P5 K5'=>⟨_,rfl,p,11,rfl,P5,by decide,by decide,fun r2 H6 b0 b1 P6 K6'=>?_⟩⟩
   have F6:=K6'.at nfp (K5'.at nfp F4)
   have A6:=(A4.kp K5' P4).kp K6' P5
   have K6:=(K4.trans K5').trans K6'
   refine⟨by show 2<=sizeLine;decide,fun l2 hl2=>?_⟩
   have nl2:=P6.ne_new hl2
   have P7:=P6.new (o:=.lst [.int r1,.int r2]) hl2
   have K7:=K6.new (o:=.lst [.int r1,.int r2]) hl2
   have A7:=A6.new (o:=.lst [.int r1,.int r2]) hl2
   have F7:upd H6 l2 (.lst [.int r1,.int r2]) fo=some (.lst (bO prs)):=by rw [aq (bu F6 hl2)];exact F6
   have L7:upd H6 l2 (.lst [.int r1,.int r2]) l2=some (.lst [.int r1,.int r2]):=ak
   generalize upd H6 l2 (.lst [.int r1,.int r2])=H7 at P7 K7 A7 F7 L7 ⊢
   refine⟨_,rfl,p,2,rfl,P7,by decide,by decide,fun r3 H8 c0 c1' P8 K8'=>?_⟩
   have L8:=K8'.at nl2 L7
   have F8:=K8'.at nfp F7
   have A8:=A7.kp K8' P7
   have K8:=K7.trans K8'
   have hn:∃e:Int,([V.int r1,V.int r2]:List V)[r3.toNat]?=some (.int e)/\0<=e/\e<=10:=by
    have:r3=0\/r3=1:=by omega
    rcases this with rfl | rfl
    ·exact⟨r1,rfl,by omega,by omega⟩
    ·exact⟨r2,rfl,by omega,by omega⟩
   obtain⟨e,he,e0,e1⟩:=hn
   refine aI (j:=r3.toNat) (.inl (SqL.of L8)) (by omega) he ⟨_,rfl,by omega,by omega,gW (fun i σ H4=>∃(prs:List Pr) (g1 g2 g3:Option V),σ=[some (.ref p),some (.int m),some (.ref fo),g1,g2,g3]/\Pot H4 p/\H4 fo=some (.lst (bO prs))/\bP H4 prs/\cS m prs/\prs.length<=30 + i/\Kp [p] H H4)
    ⟨prs,_,_,_,rfl,P8,F8,A8,O4,by omega,K8⟩ ?_ ?_⟩
   ·rintro i σ H9 hi ⟨prs,g1,g2,g3,rfl,P9,F9,A9,O9,hl9,K9⟩
    refine⟨_,rfl,_,rfl,p,_,rfl,P9,by omega,by omega,fun a H10 ha0 ha1 P10 K10'=>?_⟩
    have F10:=K10'.at nfp F9
    have A10:=A9.kp K10' P9
    refine⟨_,rfl,.inl ⟨rfl,_,SqL.of F10⟩,_,rfl,_,rfl,_,_,rfl,rfl,_,rfl,_,rfl,_,_,rfl,rfl,p,_,rfl,P10,by omega,by omega,fun r H11 hr0 hr1 P11 K11'=>?_⟩
    have F11:=K11'.at nfp F10
    have A11:=A10.kp K11' P10
    have K11:=(K9.trans K10').trans K11'
    refine⟨_,_,rfl,rfl,_,rfl,_,_,rfl,rfl,by omega,by show 2<=sizeLine;decide,fun t ht=>?_⟩
    obtain⟨b1,b2,b3⟩:=w6 ha0 ha1 hr0 hr1
    have F12:upd H11 t (.tup [.int a,.int ((a + 1 + r) % (m:Int))]) fo=some (.lst (bO prs)):=by rw [aq (bu F11 ht)];exact F11
    refine⟨fo,bO prs,_,rfl,rfl,F12,fits (by simp;omega),prs++[(t,a,(a + 1 + r) % (m:Int))],_,_,_,rfl,(P11.new ht).upd nfp,by rw [ak];simp [bO],?_,O9.app (cS.one ⟨ha0,ha1,b2,b3,b1.symm⟩),by simp;omega,?_⟩
    ·exact ((A11.new ht).app (bP.one ak)).over F12
    ·exact fun b o e nb=>by rw [aq (bu e hfo)];exact (K11.new ht) b o e nb
   ·rintro σ H9 ⟨prs,g1,g2,g3,rfl,P9,F9,A9,O9,hl9,K9⟩
    exact⟨_,rfl,k fo prs H9 P9 F9 hfo A9 O9 (by omega) K9⟩
end
noncomputable def pick (S:List Str) (t p:Str):Str:=if decide (p∈S)=true then t else p
noncomputable def cj (S ts ps:List Str):List Str:=List.zipWith (pick S) ts ps++ts.drop (min ts.length ps.length)
theorem iP (S:List Str):∀(ts ps:List Str) (x:Str),x∈cj S ts ps->x∈ts\/(x∈ps/\x∉S)
 | [],ps,x,h=>by simp [cj] at h
 | t::ts,[],x,h=>by simp [cj] at h;exact .inl (List.mem_cons.mpr h)
 | t::ts,p::ps,x,h=>by
  have e:cj S (t::ts) (p::ps)=pick S t p::cj S ts ps:=by
   unfold cj
   simp [Nat.succ_min_succ]
  rw [e] at h
  rcases List.mem_cons.mp h with z | z
  ·unfold pick at z
   split at z
   ·exact .inl (by rw [z];exact List.mem_cons_self)
   ·next c=>exact .inr ⟨by rw [z];exact List.mem_cons_self,by rw [z];simpa using c⟩
  ·rcases iP S ts ps x z with q | ⟨q,r⟩
   ·exact .inl (List.mem_cons_of_mem _ q)
   ·exact .inr ⟨List.mem_cons_of_mem _ q,r⟩
theorem kM (S:List Str):∀(ts ps:List Str),ts.Nodup->ps.Nodup->(∀t∈ts,t∈S)->(cj S ts ps).Nodup
 | [],ps,_,_,_=>by simp [cj]
 | t::ts,[],h,_,_=>by simpa [cj] using h
 | t::ts,p::ps,h1,h2,hS=>by
  have e:cj S (t::ts) (p::ps)=pick S t p::cj S ts ps:=by
   unfold cj
   simp [Nat.succ_min_succ]
  rw [e]
  have n1:=List.nodup_cons.mp h1
  have n2:=List.nodup_cons.mp h2
  refine List.nodup_cons.mpr ⟨fun hm=>?_,kM S ts ps n1.2 n2.2 fun x hx=>hS x (List.mem_cons_of_mem _ hx)⟩
  rcases iP S ts ps _ hm with q | ⟨q,r⟩
  ·unfold pick at q
   split at q
   ·exact n1.1 q
   ·next c=>exact absurd (hS p (List.mem_cons_of_mem _ q)) (by simpa using c)
  ·unfold pick at q r
   split at q
   ·next c=>rw [if_pos c] at r;exact r (hS t List.mem_cons_self)
   ·exact n2.1 q
theorem rH (S:List Str) (ts ps:List Str):(cj S ts ps).length=ts.length:=by
 unfold cj
 rw [List.length_append,List.length_zipWith,List.length_drop]
 omega
theorem qD {S ts ps:List Str} (h1:∀x∈ts,aP x) (h2:∀x∈ps,aP x):∀x∈cj S ts ps,aP x:=fun x hx=>by
 rcases iP S ts ps x hx with q | ⟨q,_⟩
 ·exact h1 x q
 ·exact h2 x q
theorem uT (xs:List V) {n:Nat} (h:n<=xs.length):cz xs (some (n:Int)) none=xs.drop n:=by
 unfold cz
 have h0:¬ ((n:Int) < 0):=by omega
 have h1:min n xs.length=n:=by omega
 simp [HT.sIx,h0]
 rw [List.take_of_length_le (by simp)]
 rw [h1]
theorem mf {K:PySem.W.Frag}{g:TG}{te:TE}{σ':St}{fin:List V->Hp->Prop}{H1:Hp}{a b:Addr}{xs ys:List V} (hn:min xs.length ys.length < sizeLine) (Pv:Nat->List V->St->Hp->Prop) (h0:Pv 0 [] σ' H1)
  (hl:∀i zs σ H,i<=min xs.length ys.length->Pv i zs σ H->zs.length<=i/\SqL K H a xs/\SqL K H b ys)
  (hs:∀i x y zs σ H T,xs[i]?=some x->ys[i]?=some y->Pv i zs σ H->H T=none->g (.ref T) σ (upd H T (.tup [x,y])) fun σ2 H2=>te σ2 H2 (fun v H4=>Pv (i + 1) (zs++[v]) σ2 H4))
  (hd:∀zs σ H,Pv (min xs.length ys.length) zs σ H->fin zs H):LcW (Itz K a b) g cL te σ' fin H1 :=
 vH hn Pv h0 hl (fun i x y zs σ H T hx hy p hT=>by
  have e:(fun σ2 H2=>cL σ2 H2 fun b H3=>if b=true then te σ2 H3 (fun v H4=>Pv (i + 1) (zs++[v]) σ2 H4) else Pv (i + 1) zs σ2 H3)=fun σ2 H2=>te σ2 H2 (fun v H4=>Pv (i + 1) (zs++[v]) σ2 H4):=by
   funext σ2 H2
   show (if true=true then te σ2 H2 (fun v H4=>Pv (i + 1) (zs++[v]) σ2 H4) else Pv (i + 1) zs σ2 H2)=_
   rw [if_pos rfl]
  rw [e]
  exact hs i x y zs σ H T hx hy p hT) hd
section
variable {P:Program}{w:World}{K:PySem.W.Frag}{mg:Str->Option Value}{base:Heap}
noncomputable def mE:Sp:=fun vs H Q _=>∃(p ta pa:Addr) (ts ps:List Str),vs=[.ref p,.ref ta,.ref pa]/\Pot H p/\H ta=some (.lst (ts.map V.str))/\H pa=some (.lst (ps.map V.str))/\ts.length<=40/\ps.length<=8/\ts.Nodup/\ps.Nodup/\(∀x∈ts,aP x)/\(∀x∈ps,aP x) /\
 ∀(q:Addr) (ns:List Str) (H':Hp),Pot H' p->H' q=some (.lst (ns.map V.str))->(∀x∈ns,aP x)->ns.Nodup->ns.length=ts.length->Kp [p] H H'->Q (.ref q) H'
noncomputable abbrev N54:List Str:=["_law_pot_here","_law_ties","_law_places","_law_found"]
theorem pA:aL N54 ["_law_pot_here","_law_ties","_law_places"] (aB (top 54)):=⟨rfl,rfl,rfl,by decide +kernel,rfl,by decide +kernel,by decide +kernel⟩
theorem rX {f:Addr}{fd:FuncData} (F:Fun K "_law_called" "_law_called" (top 54) f fd) (B:Bl mg) (Ft:Fn P w K mg base 1 "_law_take" ["_law_pot_here","_law_many"] cK):aA P w K mg base CX0 2 f fd ["_law_pot_here","_law_ties","_law_places"] mE:=by
 refine F.ok pA (fun vs H Q E h=>?_) (fun cdv A outer s H vs Q E hr h=>?_)
 ·obtain⟨p,ta,pa,ts,ps,rfl,_⟩:=h
  rfl
 ·obtain⟨p,ta,pa,ts,ps,rfl,hp,ht,hpl,t40,p8,tn,pn,tnm,pnm,k⟩:=h
  refine⟨_,am (aY (aV eP (ar Ft hr (ae (pv 0) (ae aj ag))) aj (aT _)) (ay (aD (pv 1))) aX)
   (am (fG (i:=3) (N:=["_law_tie","_law_place","_law_ties"]) (ix:=[none,none,some 1]) pA.nd rfl (Or.inl rfl) ⟨rfl,rfl,rfl,by decide⟩ rfl (oq rfl B.zip (ae (pv 1) (ae (pv 2) ag)))
    (fun _ _ _ _=>ni K rfl (n:=2) (bC (bo 0 (by decide) rfl rfl) (bC (bo 1 (by decide) rfl rfl) cX))) (fun _ _ _ _=>bK)
    (fun _ _ _ _=>mR (aV (kZ K) (pv 1) (pv 2) (by with_unfolding_all rfl)) (pv 1) (pv 0)))
   (ay (aD (aF eJ (pv 3) (gk nS (pv 1) (fK (aC bB rfl B.len PySem.boot_len (ae (pv 3) ag))) gA))))),?_⟩
  refine⟨_,rfl,p,4,rfl,hp,by decide,by decide,fun r H1 r0 r1 P1 K1=>⟨_,_,rfl,rfl,_,rfl,?_⟩⟩
  have ntp:=fO hp ht
  have npp:=fO hp hpl
  have t1:=K1.at ntp ht
  have p1:=K1.at npp hpl
  refine bA (fun c=>⟨_,rfl,k ta ts H1 P1 t1 tnm tn rfl K1⟩) (fun c=>?_)
  refine⟨_,rfl,_,rfl,ta,pa,_,_,rfl,SqL.of t1,SqL.of p1,?_⟩
  refine mf (xs:=ts.map V.str) (ys:=ps.map V.str) (fits (by simp;omega)) (fun i zs σ H2=>zs=((List.zipWith (pick ts) ts ps).take i).map V.str/\ai H1 H2/\∃g1 g2,σ=[g1,g2,some (.ref ta)]) ⟨rfl,ai.refl _,_,_,rfl⟩
   (fun i zs σ H2 _ q=>⟨by rw [q.1];simp;omega,SqL.of (q.2.1 _ _ t1),SqL.of (q.2.1 _ _ p1)⟩) ?_ ?_
  ·rintro i x y zs σ H2 T hx hy ⟨rfl,s2,g1,g2,rfl⟩ hT
   rw [List.getElem?_map] at hx hy
   cases hc:ts[i]? with
   | none=>rw [hc] at hx;cases hx
   | some t =>
    cases hd:ps[i]? with
    | none=>rw [hd] at hy;cases hy
    | some q =>
     rw [hc] at hx
     rw [hd] at hy
     cases hx
     cases hy
     have s3:=au (o:=.tup [.str t,.str q]) s2 hT
     have hz:(List.zipWith (pick ts) ts ps)[i]?=some (pick ts t q):=by
      rw [List.getElem?_zipWith,hc,hd]
     have hst:((List.zipWith (pick ts) ts ps).take (i + 1)).map V.str=((List.zipWith (pick ts) ts ps).take i).map V.str++[V.str (pick ts t q)]:=ee _ _ _ _ hz
     refine⟨T,_,rfl,SqT.of ak,rfl,_,_,rfl,_,_,rfl,rfl,?_⟩
     refine⟨_,rfl,_,rfl,ta,ts.map V.str,rfl,.inl (SqL.of (s3 _ _ t1)),rfl,ef ts,_,rfl,?_⟩
     show if (!inV (.str q) (ts.map V.str))=true then _ else _
     rw [eE]
     refine bA (fun c=>⟨_,rfl,?_,s3,_,_,rfl⟩) (fun c=>⟨_,rfl,?_,s3,_,_,rfl⟩)
     ·rw [hst]
      have c':decide (q∈ts)=false:=by simpa using c
      unfold pick
      rw [c']
      rfl
     ·rw [hst]
      have c':decide (q∈ts)=true:=by simpa using c
      unfold pick
      rw [if_pos c']
  ·rintro zs σ H2 ⟨rfl,s2,g1,g2,rfl⟩ fo hfo
   have hzl:(List.zipWith (pick ts) ts ps).length=min ts.length ps.length:=List.length_zipWith
   rw [take_all (List.zipWith (pick ts) ts ps) (by simp)]
   have s3:=au (o:=.lst ((List.zipWith (pick ts) ts ps).map V.str)) s2 hfo
   have f3:upd H2 fo (.lst ((List.zipWith (pick ts) ts ps).map V.str)) fo=some (.lst ((List.zipWith (pick ts) ts ps).map V.str)):=ak
   generalize upd H2 fo (.lst ((List.zipWith (pick ts) ts ps).map V.str))=H3 at s3 f3 ⊢
   refine⟨_,rfl,_,rfl,_,rfl,fo,_,rfl,.inl (SqL.of f3),_,rfl,ta,_,rfl,SqL.of (s3 _ _ t1),fun c2 hc2=>?_⟩
   rw [uT _ (by simp [hzl];omega)]
   have f4:upd H3 c2 (.lst ((ts.map V.str).drop ((List.zipWith (pick ts) ts ps).map V.str).length)) fo=some (.lst ((List.zipWith (pick ts) ts ps).map V.str)):=by rw [aq (bu f3 hc2)];exact f3
   have s4:=au (o:=.lst ((ts.map V.str).drop ((List.zipWith (pick ts) ts ps).map V.str).length)) s3 hc2
   refine⟨fo,c2,_,_,rfl,rfl,f4,ak,by rw [sizeLine_eq];simp [hzl];omega,fun q hq=>?_⟩
   have eL:(List.zipWith (pick ts) ts ps).map V.str++(ts.map V.str).drop ((List.zipWith (pick ts) ts ps).map V.str).length=(cj ts ts ps).map V.str:=by
    unfold cj
    rw [List.map_append,List.map_drop,List.length_map,hzl]
   rw [eL]
   have s5:=au (o:=.lst ((cj ts ts ps).map V.str)) s4 hq
   refine k q (cj ts ts ps) _ (P1.keep fun o e=>s5 _ _ e) ak (qD tnm pnm) (kM ts ts ps tn pn fun t ht=>ht) (rH ts ts ps) (K1.of_same s5)
end
theorem uB {prs:List Pr}{i:Nat}{x:V} (h:(bO prs)[i]?=some x):∃r,prs[i]?=some r/\x=.ref r.1:=by
 unfold bO at h
 rw [List.getElem?_map] at h
 cases e:prs[i]? with
 | none=>rw [e] at h;cases h
 | some r=>rw [e] at h;exact⟨r,rfl,(Option.some.inj h).symm⟩
theorem uZ {H:Hp}{p t:Addr}{prs:List Pr} (h1:Pot H p) (h2:H t=some (.lst (bO prs))):t≠p:=by
 rintro rfl
 obtain⟨a,b,e,_⟩:=h1
 rw [e] at h2
 have h3:=HO.lst.inj (Option.some.inj h2)
 cases prs with
 | nil=>cases h3
 | cons x r=>cases (List.cons.inj h3).1
section
variable {P:Program}{w:World}{K:PySem.W.Frag}{mg:Str->Option Value}{base:Heap}
noncomputable def oK:Sp:=fun vs H Q _=>∃(p:Addr),vs=[.ref p]/\Pot H p /\
 ∀(v u pl pa ra:Addr) (ns ps:List Str) (rs:List (Addr×Row)) (H':Hp),Pot H' p->H' v=some (.tup [.ref u,.ref pl])->bg H' u pa ra ps rs->Good ps (rs.map (·.2))->ps.length<=8->rs.length<=40->H' pl=some (.lst (ns.map V.str))->(∀x∈ns,x∈ps)->1<=ns.length->ns.length<=8->(∀x∈ps,x.length<=7)->Kp [p] H H'->Q (.ref v) H'
noncomputable abbrev N55:List Str:=["_law_pot_here","_law_many","_law_places","_law_pairs_here","_law_ties","_law_rows"]
theorem fU:aL N55 ["_law_pot_here"] (aB (top 55)):=⟨rfl,rfl,rfl,by decide +kernel,rfl,by decide +kernel,by decide +kernel⟩
theorem wL {f:Addr}{fd:FuncData} (F:Fun K "_law_web" "_law_web" (top 55) f fd) (B:Bl mg) (Ft:Fn P w K mg base 1 "_law_take" ["_law_pot_here","_law_many"] cK) (Fn':Fn P w K mg base 2 "_law_names" ["_law_pot_here","_law_many"] nV)
  (Fp:Fn P w K mg base 2 "_law_pairs" ["_law_pot_here","_law_many"] m9) (Fc:Fn P w K mg base 2 "_law_called" ["_law_pot_here","_law_ties","_law_places"] mE):aA P w K mg base CX0 3 f fd ["_law_pot_here"] oK:=by
 refine F.ok fU (fun vs H Q E h=>?_) (fun cdv A outer s H vs Q E hr h=>?_)
 ·obtain⟨p,rfl,_⟩:=h
  rfl
 ·obtain⟨p,rfl,hp,k⟩:=h
  have hr1:aK 1 _:=hr.mono (by decide)
  refine⟨_,am (aU (i:=1) fU.nd rfl (Or.inl rfl) (aG aO (ba (ae (aF cO aj (ar Ft hr1 (ae (pv 0) (ae aj ag)))) (ae (aF cO aj (ar Ft hr1 (ae (pv 0) (ae aj ag)))) ag)))
    (dA rW rfl B.int jX (ae (dC dG (ar Ft hr1 (ae (pv 0) (ae aj ag))) aj (aT _)) ag)) (fun _ _=>rfl)))
   (am (aU (i:=2) fU.nd rfl (Or.inr rfl) (ar Fn' hr (ae (pv 0) (ae (pv 1) ag))))
   (am (aU (i:=3) fU.nd rfl (Or.inl rfl) (ar Fp hr (ae (pv 0) (ae (pv 1) ag))))
   (am (aU (i:=4) fU.nd rfl (Or.inl rfl) (ar Fc hr (ae (pv 0) (ae (ar Fn' hr (ae (pv 0) (ae (aC bB rfl B.len PySem.boot_len (ae (pv 3) ag)) ag))) (ae (pv 2) ag)))))
   (am (fG (i:=5) (N:=["_law_tie","_law_pair","_law_places"]) (ix:=[none,none,some 2]) fU.nd rfl (Or.inl rfl) ⟨rfl,rfl,rfl,by decide⟩ rfl (oq rfl B.zip (ae (pv 4) (ae (pv 3) ag)))
    (fun _ _ _ _=>ni K rfl (n:=2) (bC (bo 0 (by decide) rfl rfl) (bC (bo 1 (by decide) rfl rfl) cX))) (fun _ _ _ _=>bK)
    (fun _ _ _ _=>aE (ae (pv 0) (ae (aG (cF K) (pv 2) (aG (cF K) (pv 1) aj (fun _ _=>rfl)) (fun _ _=>rfl)) (ae (aG (cF K) (pv 2) (aG (cF K) (pv 1) aj (fun _ _=>rfl)) (fun _ _=>rfl)) ag)))))
   (ay (aD (aE (ae (aE (ae (dA fZ rfl B.tuple cM (ae (aC qy rfl B.sorted mh (ae (pv 2) ag)) ag)) (ae (dA fZ rfl B.tuple cM (ae (aC qB rfl B.sorted mh (ae (pv 5) ag)) ag)) ag))) (ae (pv 2) ag))))))))),?_⟩
  refine⟨_,rfl,p,6,rfl,hp,by decide,by decide,fun r1 H1 a0 a1 P1 K1=>⟨_,_,rfl,rfl,_,rfl,p,2,rfl,P1,by decide,by decide,fun r2 H2 b0 b1 P2 K2'=>⟨_,_,rfl,rfl,by show 2<=sizeLine;decide,fun l2 hl2=>?_⟩⟩⟩
  have nl2:=P2.ne_new hl2
  have P3:=P2.new (o:=.lst [.int (1 + r1),.int (7 + r2)]) hl2
  have K3:=(K1.trans K2').new (o:=.lst [.int (1 + r1),.int (7 + r2)]) hl2
  have L3:upd H2 l2 (.lst [.int (1 + r1),.int (7 + r2)]) l2=some (.lst [.int (1 + r1),.int (7 + r2)]):=ak
  generalize upd H2 l2 (.lst [.int (1 + r1),.int (7 + r2)])=H3 at P3 K3 L3 ⊢
  refine⟨_,rfl,p,8,rfl,P3,by decide,by decide,fun r3 H4 c0 c1 P4 K4'=>⟨rfl,.inr ⟨_,rfl,?_⟩⟩⟩
  have L4:=K4'.at nl2 L3
  have K4:=K3.trans K4'
  have hn:∀b:Bool,∃m:Nat,([V.int (1 + r1),V.int (7 + r2)]:List V)[((if b=true then 1 else 0:Int)).toNat]?=some (.int m)/\1<=m/\m<=8:=fun b=>by
   cases b
   ·exact⟨(1 + r1).toNat,by show some (V.int (1 + r1))=_;rw [Int.toNat_of_nonneg (by omega)],by omega,by omega⟩
   ·exact⟨(7 + r2).toNat,by show some (V.int (7 + r2))=_;rw [Int.toNat_of_nonneg (by omega)],by omega,by omega⟩
  obtain⟨m,hm,m1,m8⟩:=hn (decide (V.int r3=V.int 0))
  refine aI (j:=((if decide (V.int r3=V.int 0)=true then 1 else 0:Int)).toNat) (.inl (SqL.of L4)) (by split <;> rfl) hm ?_
  refine⟨_,rfl,_,rfl,p,m,rfl,P4,by omega,fun pl ns H5 P5 n5 _ nnm nnd nlen nsh K5'=>?_⟩
  have K5:=K4.trans K5'
  have npl:=fO P5 n5
  refine⟨_,rfl,_,rfl,p,m,rfl,P5,m1,m8,fun pq prs H6 P6 q6 _ A6 O6 z6 K6'=>?_⟩
  have K6:=K5.trans K6'
  have n6:=K6'.at npl n5
  have npq:=uZ P6 q6
  have hpz:(bO prs).length=prs.length:=by simp
  refine⟨_,rfl,_,rfl,_,rfl,pq,_,rfl,.inl (SqL.of q6),p,(bO prs).length,rfl,P6,by omega,fun ta ts H7 P7 t7 _ tnm tnd tlen _ K7'=>?_⟩
  have K7:=K6.trans K7'
  have n7:=K7'.at npl n6
  have q7:=K7'.at npq q6
  have A7:=A6.kp K7' P6
  refine⟨_,rfl,p,ta,pl,ts,ns,rfl,P7,t7,n7,by omega,by omega,tnd,nnd,tnm,nnm,fun tc tn H8 P8 c8 cnm cnd clen K8'=>?_⟩
  have K8:=K7.trans K8'
  have n8:=K8'.at npl n7
  have q8:=K8'.at npq q7
  have A8:=A7.kp K8' P7
  have hcl:tn.length=prs.length:=by omega
  refine⟨_,rfl,_,rfl,tc,pq,_,_,rfl,SqL.of c8,SqL.of q8,?_⟩
  refine mf (xs:=tn.map V.str) (ys:=bO prs) (fits (by simp;omega)) (fun i zs σ H2=>(∃rr:List (Addr×Row),zs=bL rr/\(∀r∈rr,eu H2 r.1 r.2)/\nms rr=tn.take i/\(∀r∈rr,r.2.2.1∈ns/\r.2.2.2∈ns/\r.2.2.1≠r.2.2.2))/\ai H8 H2/\∃g1 g2,σ=[g1,g2,some (.ref pl)])
   ⟨⟨[],rfl,by simp,rfl,by simp⟩,ai.refl _,_,_,rfl⟩ (fun i zs σ H2 hi q=>?_) ?_ ?_
  ·obtain⟨⟨rr,rfl,_,e,_⟩,s2,_⟩:=q
   have:=congrArg List.length e
   rw [nms,List.length_map,List.length_take] at this
   exact⟨by simp [this];omega,SqL.of (s2 _ _ c8),SqL.of (s2 _ _ q8)⟩
  ·rintro i x y zs σ H2 T hx hy ⟨⟨rr,rfl,Ra,e,Ro⟩,s2,g1,g2,rfl⟩ hT
   rw [List.getElem?_map] at hx
   obtain⟨pr,hpr,rfl⟩:=uB hy
   cases hc:tn[i]? with
   | none=>rw [hc] at hx;cases hx
   | some t =>
    rw [hc] at hx
    cases hx
    have hpm:=List.mem_of_getElem? hpr
    obtain⟨o1,o2,o3,o4,o5⟩:=O6 pr hpm
    have s3:=au (o:=.tup [.str t,.ref pr.1]) s2 hT
    have pr3:=s3 _ _ (A8 pr hpm)
    have n3:=s3 _ _ n8
    have ia:pr.2.1.toNat < ns.length:=by omega
    have ib:pr.2.2.toNat < ns.length:=by omega
    refine⟨T,_,rfl,SqT.of ak,rfl,_,_,rfl,_,_,rfl,rfl,?_⟩
    refine⟨_,rfl,_,rfl,_,rfl,aI (j:=0) (.inr (SqT.of pr3)) rfl rfl (aI (j:=pr.2.1.toNat) (.inl (SqL.of n3)) (by omega) (strAt ia) ?_)⟩
    refine⟨_,rfl,_,rfl,aI (j:=1) (.inr (SqT.of pr3)) rfl rfl (aI (j:=pr.2.2.toNat) (.inl (SqL.of n3)) (by omega) (strAt ib) ?_)⟩
    refine⟨by show 3<=sizeLine;decide,fun n hn=>?_⟩
    have hab:ns[pr.2.1.toNat]≠ns[pr.2.2.toNat]:=by
     have hne:pr.2.1.toNat≠pr.2.2.toNat:=by omega
     rcases Nat.lt_or_gt_of_ne hne with y | y
     ·exact List.pairwise_iff_getElem.mp nnd _ _ ia ib y
     ·exact fun z=>List.pairwise_iff_getElem.mp nnd _ _ ib ia y z.symm
    have s4:=au (o:=.tup [.str t,.str ns[pr.2.1.toNat],.str ns[pr.2.2.toNat]]) s3 hn
    have s24:=au (o:=.tup [.str t,.str ns[pr.2.1.toNat],.str ns[pr.2.2.toNat]]) (au (o:=.tup [.str t,.ref pr.1]) (ai.refl H2) hT) hn
    refine⟨⟨rr++[(n,(t,ns[pr.2.1.toNat],ns[pr.2.2.toNat]))],by simp [bL],fun r hr=>?_,?_,fun r hr=>?_⟩,s4,_,_,rfl⟩
    ·rcases List.mem_append.mp hr with z | z
     ·exact s24 _ _ (Ra r z)
     ·have e':r=(n,(t,ns[pr.2.1.toNat],ns[pr.2.2.toNat])):=by simpa using z
      subst e';exact ak
    ·rw [nms,List.map_append]
     show nms rr++[t]=_
     rw [e,List.take_add_one,hc]
     rfl
    ·rcases List.mem_append.mp hr with z | z
     ·exact Ro r z
     ·have e':r=(n,(t,ns[pr.2.1.toNat],ns[pr.2.2.toNat])):=by simpa using z
      subst e';exact⟨List.getElem_mem ia,List.getElem_mem ib,hab⟩
  rintro zs σ H9 ⟨⟨rr,rfl,Ra,e,Ro⟩,s9,g1,g2,rfl⟩ rw hrw
  have en:nms rr=tn:=by rw [e,take_all tn (by simp;omega)]
  have hrl:rr.length=tn.length:=by rw [<- en];simp
  have s10:=au (o:=.lst (bL rr)) s9 hrw
  have Ra10:∀r∈rr,eu (upd H9 rw (.lst (bL rr))) r.1 r.2:=fun r hr=>au (ai.refl H9) hrw _ _ (Ra r hr)
  have w10:upd H9 rw (.lst (bL rr)) rw=some (.lst (bL rr)):=ak
  generalize upd H9 rw (.lst (bL rr))=H10 at s10 Ra10 w10 ⊢
  have n10:=s10 _ _ n8
  refine⟨_,rfl,pl,ns,rfl,SqL.of n10,by omega,fun ps q hpm hso hq=>?_⟩
  have pnd:ps.Nodup:=hpm.nodup_iff.mpr nnd
  have hpl:ps.length=ns.length:=hpm.length_eq
  have t1:=au (o:=.lst (ps.map V.str)) (ai.refl H10) hq
  refine⟨q,_,rfl,.inl ⟨SqL.of ak,fun pa hpa=>?_⟩⟩
  have t2:=au (o:=.tup (ps.map V.str)) t1 hpa
  have a11:upd (upd H10 q (.lst (ps.map V.str))) pa (.tup (ps.map V.str)) pa=some (.tup (ps.map V.str)):=ak
  generalize upd (upd H10 q (.lst (ps.map V.str))) pa (.tup (ps.map V.str))=H11 at t2 a11 ⊢
  refine⟨_,rfl,rw,rr.map fun r=>(r.1,r.2.1),rfl,.inl (SqL.of (by rw [mP];exact t2 _ _ w10)),fun y hy=>?_,by rw [List.length_map];omega,?_,fun rs1 q2 hpm2 hpw hq2=>?_⟩
  ·obtain⟨x,hx,rfl⟩:=List.mem_map.mp hy
   exact⟨_,t2 _ _ (Ra10 x hx)⟩
  ·rw [List.map_map]
   show (nms rr).Nodup
   rw [en];exact cnd
  obtain⟨rs',hp2,e2'⟩:=lO (fun r:Addr×Row=>(r.1,r.2.1)) rs1 _ hpm2
  subst e2'
  rw [mP]
  have u1:=au (o:=.lst (bL rs')) (ai.refl H11) hq2
  refine⟨q2,_,rfl,.inl ⟨SqL.of ak,fun ra hra=>?_⟩⟩
  have u2:=au (o:=.tup (bL rs')) u1 hra
  refine⟨by show 2<=sizeLine;decide,fun u hu=>?_⟩
  have u3:=au (o:=.tup [.ref pa,.ref ra]) u2 hu
  refine⟨_,rfl,by show 2<=sizeLine;decide,fun v hv=>?_⟩
  have u4:=au (o:=.tup [.ref u,.ref pl]) u3 hv
  have hur:ra≠u:=fun z=>by rw [<- z,ak] at hu;cases hu
  have hvu:u≠v:=fun z=>by rw [<- z,ak] at hv;cases hv
  have hvr:ra≠v:=fun z=>by rw [<- z,aq hur,ak] at hv;cases hv
  have s8v:=s10.trans (t2.trans u4)
  have hin:∀x∈ns,x∈ps:=fun x hx=>hpm.mem_iff.mpr hx
  refine k v u pl pa ra ns ps rs' _ (P8.keep fun o e=>s8v _ _ e) ak ⟨?_,u4 _ _ a11,?_,fun x hx=>u4 _ _ (t2 _ _ (Ra10 x (hp2.mem_iff.mp hx)))⟩ ⟨?_,fun x hx=>nnm x (hpm.mem_iff.mp hx),sT hso pnd,fun r hr=>?_,?_,by omega,?_⟩ (by omega) (by rw [hp2.length_eq];omega) (s8v _ _ n8) hin (by omega) (by omega) (fun x hx=>nsh (by omega) x (hpm.mem_iff.mp hx)) (K8.of_same s8v)
  ·rw [aq hvu,ak]
  ·rw [aq hvr,aq hur,ak]
  ·intro z;rw [z] at hpl;simp at hpl;omega
  ·obtain⟨x,hx,rfl⟩:=List.mem_map.mp hr
   have hxr:=hp2.mem_iff.mp hx
   obtain⟨y1,y2,y3⟩:=Ro x hxr
   exact⟨cnm _ (by rw [<- en];exact List.mem_map_of_mem (f:=fun z:Addr×Row=>z.2.1) hxr),hin _ y1,hin _ y2,y3⟩
  ·rw [List.map_map] at hpw ⊢;exact hpw
  ·rw [List.length_map,hp2.length_eq];omega
end
theorem gK {c A B:Prop} [Decidable c] (hc:¬ c) (h:A):if (!decide c)=true then A else B:=by
 rw [decide_eq_false hc];exact ao h
noncomputable def okS (s:Str):Prop:=s.length<=100/\s.cps.all (· < 128)=true
inductive Dok:PyData->Prop
 | non:Dok .none
 | bl (b:Bool):Dok (.bool b)
 | int (i:Int):Dok (.int i)
 | str (s:Str) (h:okS s):Dok (.str s)
 | tup (ds:List PyData) (hl:ds.length<=60) (h:∀d∈ds,Dok d):Dok (.tuple ds)
 | lst (ds:List PyData) (hl:ds.length<=60) (h:∀d∈ds,Dok d) (hn:∀i j,ds≠[.int i,.int j]):Dok (.list ds)
mutual
theorem DV.same {H H':Hp} (s:ai H H'):∀{x:V}{d:PyData},DV H x d->DV H' x d
 | _,_,.non=>.non
 | _,_,.bl b=>.bl b
 | _,_,.int i=>.int i
 | _,_,.str x=>.str x
 | _,_,.tup e q=>.tup (s _ _ e) (DVs.same s q)
 | _,_,.lst e q=>.lst (s _ _ e) (DVs.same s q)
theorem DVs.same {H H':Hp} (s:ai H H'):∀{xs:List V}{ds:List PyData},DVs H xs ds->DVs H' xs ds
 | _,_,.nil=>.nil
 | _,_,.cons a b=>.cons (DV.same s a) (DVs.same s b)
end
theorem DVs.len {H:Hp}:∀{xs:List V}{ds:List PyData},DVs H xs ds->xs.length=ds.length
 | _,_,.nil=>rfl
 | _,_,.cons _ b=>by rw [List.length_cons,List.length_cons,DVs.len b]
theorem DVs.at {H:Hp}:∀{xs:List V}{ds:List PyData},DVs H xs ds->∀{i:Nat}{x:V},xs[i]?=some x->∃d,ds[i]?=some d/\DV H x d
 | _,_,.nil,i,x,h=>by simp at h
 | _,_,.cons a b,0,x,h=>by cases h;exact⟨_,rfl,a⟩
 | _,_,.cons a b,i + 1,x,h=>DVs.at b (i:=i) (by simpa using h)
theorem DVs.txt {H:Hp}:∀{xs:List V}{ss:List Str},DVs H xs (ss.map PyData.str)->xs=ss.map V.str
 | _,[],.nil=>rfl
 | _,s::r,.cons a b=>by cases a;rw [DVs.txt b];rfl
noncomputable def az (c:Nat):Bool:=decide (97<=c) && decide (c<=122)
noncomputable def eo (s:Str):Bool:=decide (1<=s.length) && decide (s.length<=8) && s.cps.toList.all az
theorem kY {s:Str}:eo s=true ↔ aP s:=by
 unfold eo az
 constructor
 ·intro h
  simp only [Bool.and_eq_true,decide_eq_true_eq,List.all_eq_true] at h
  exact⟨h.1.1,h.1.2,h.2⟩
 ·intro h
  simp only [Bool.and_eq_true,decide_eq_true_eq,List.all_eq_true]
  exact⟨⟨h.lo,h.hi⟩,h.az⟩
noncomputable def bI:PyData->Bool
 | .str s=>eo s
 | _=>false
theorem jb {d:PyData} (h:bI d=true):∃s,d=.str s/\aP s:=by
 cases d with
 | str s=>exact⟨s,rfl,kY.mp h⟩
 | _=>cases h
theorem lj {ds:List PyData}:ds.all bI=true->∃ss:List Str,ds=ss.map PyData.str/\∀x∈ss,aP x:=by
 induction ds with
 | nil=>intro _;exact⟨[],rfl,by simp⟩
 | cons d r ih =>
  intro h
  rw [List.all_cons,Bool.and_eq_true] at h
  obtain⟨s,rfl,hs⟩:=jb h.1
  obtain⟨ss,rfl,hss⟩:=ih h.2
  exact⟨s::ss,rfl,fun x hx=>by
   rcases List.mem_cons.mp hx with e | e
   ·rw [e];exact hs
   ·exact hss x e⟩
section
variable {P:Program}{w:World}{K:PySem.W.Frag}{mg:Str->Option Value}{base:Heap}
noncomputable def jG:Sp:=fun vs H Q _=>∃(x:V) (d:PyData),vs=[x]/\DV H x d/\Dok d/\∀H',ai H H'->Q (.bl (bI d)) H'
theorem mG {f:Addr}{fd:FuncData} (F:Fun K "is_name" "is_name" (top 15) f fd) (B:Bl mg):aA P w K mg base CX0 1 f fd ["thing"] jG:=by
 refine F.ok kC (fun vs H Q E h=>?_) (fun cdv A outer s H vs Q E hr h=>?_)
 ·obtain⟨x,d,rfl,_⟩:=h
  rfl
 ·obtain⟨x,d,rfl,hx,hd,k⟩:=h
  obtain⟨tl,hl⟩:=B.lng
  refine⟨_,am (aY (PW.pt (bS (bw (bE (aC (cb (T:="str")) rfl B.isinstance bG (ae (pv 0) (ae (bV (v:=.ty "str") rfl B.str eS rfl) ag)))))
    (cc (bw (fF dX dX aj (aC gR rfl B.len PySem.boot_len (ae (pv 0) ag)) (cG (v:=.int 8) rfl hl ⟨_,rfl⟩)))))) (ay (aD bW)) aX)
   (ay (aD (aC (dz rfl) rfl B.all dF (ae (bY (N:=["letter"]) (ix:=[none]) ⟨rfl,rfl,rfl,by decide⟩ rfl (oy (pv 0)) (fun _ _ _ _=>bo 0 (by decide) rfl rfl) (fun _ _ _ _=>bK)
    (fun _ _ _ _=>mF gT gT aM (pv 0) aM)) ag)))),?_⟩
  have kF:bI d=false->Q (.bl false) H:=fun e=>by have:=k H (ai.refl _);rw [e] at this;exact this
  cases hx with
  | non=>exact⟨_,rfl,_,_,false,rfl,.non,rfl,false,rfl,ao (ao (kF rfl))⟩
  | int i=>exact⟨_,rfl,_,_,false,rfl,.int i,rfl,false,rfl,ao (ao (kF rfl))⟩
  | bl b=>exact⟨_,rfl,_,_,false,rfl,.bl b,rfl,false,rfl,ao (ao (kF rfl))⟩
  | tup e _=>exact⟨_,rfl,_,_,false,rfl,.tup e,rfl,false,rfl,ao (ao (kF rfl))⟩
  | lst e _=>exact⟨_,rfl,_,_,false,rfl,.lst e,rfl,false,rfl,ao (ao (kF rfl))⟩
  | str x =>
   obtain⟨hx1,hx2⟩:okS x:=by cases hd with | str _ h=>exact h
   refine⟨_,rfl,_,_,true,rfl,.str x,?kit,true,rfl,aH ?_⟩
   case kit=>rfl
   refine⟨_,rfl,x,rfl,Nat.le_of_lt (fits (by omega)),_,_,rfl,rfl,_,rfl,?_⟩
   by_cases c1:1<=x.length
   ·refine fB (by omega) ⟨_,_,rfl,rfl,_,rfl,?_⟩
    by_cases c2:x.length<=8
    ·refine ez (by omega) ?_
     refine⟨_,rfl,x,rfl,hx2,mM (fits (by omega)) (fun i ys σ H1=>ys=(x.cps.toList.take i).map (fun c=>V.bl (az c))/\ai H H1/\∃v,σ=[v]) ⟨rfl,ai.refl _,_,rfl⟩ (fun i ys σ H1 hi q=>by rw [q.1];simp;omega) ?_ ?_⟩
     ·rintro i c ys σ H1 hc ⟨rfl,hs,v,rfl⟩
      have hc':x.cps.toList[i]?=some c:=by simpa using hc
      have en:(x.cps.toList.take (i + 1)).map (fun c=>V.bl (az c))=(x.cps.toList.take i).map (fun c=>V.bl (az c))++[V.bl (az c)]:=(ee _ _ _ _ hc')
      refine⟨_,rfl,_,_,rfl,rfl,_,rfl,?_⟩
      show if (!decide ([c] < [97]))=true then _ else _
      by_cases d1:97<=c
      ·refine gK (by rw [lt1];omega) ⟨_,_,rfl,rfl,?_,hs,_,rfl⟩
       show _++[V.bl (!decide ([122] < [c]))]=_
       rw [en]
       have:(!decide ([122] < [c]))=az c:=by
        unfold az
        rw [decide_eq_true d1]
        by_cases d2:c<=122
        ·rw [decide_eq_false (by rw [lt1];omega),decide_eq_true d2];rfl
        ·rw [decide_eq_true (by rw [lt1];omega),decide_eq_false d2];rfl
       rw [this]
      ·refine ez (by rw [lt1];omega) ⟨?_,hs,_,rfl⟩
       rw [en]
       have:az c=false:=by unfold az;rw [decide_eq_false d1];rfl
       rw [this]
     ·rintro ys σ H1 ⟨rfl,hs,v,rfl⟩ p hp
      have ea:(x.cps.toList.take x.length).map (fun c=>V.bl (az c))=(x.cps.toList.map az).map V.bl:=by
       rw [List.take_of_length_le (by simp [Str.length]),List.map_map];rfl
      rw [ea]
      refine⟨p,x.cps.toList.map az,rfl,SqL.of ak,?_⟩
      have e:(x.cps.toList.map az).all id=eo x:=by
       unfold eo
       rw [decide_eq_true c1,decide_eq_true c2,List.all_map];rfl
      rw [e]
      exact k _ (au hs hp)
    ·refine gK (by omega) ?_
     have e:eo x=false:=by unfold eo;rw [decide_eq_false c2];simp
     exact kF e
   ·refine fQ (by omega) ?_
    have e:eo x=false:=by unfold eo;rw [decide_eq_false c1];rfl
    exact⟨_,rfl,ao (kF e)⟩
end
theorem aA.or {P:Program}{w:World}{K:PySem.W.Frag}{mg:Str->Option Value}{base:Heap}{CX:CXT}{k:Nat}{f:Addr}{fd:FuncData}{ps:List Str}{sp sp':Sp} (F:aA P w K mg base CX k f fd ps sp) (G:aA P w K mg base CX k f fd ps sp') :
  aA P w K mg base CX k f fd ps (fun vs H Q E=>sp vs H Q E\/sp' vs H Q E) :=
 ⟨fun vs H Q E h=>h.elim (F.len vs H Q E) (G.len vs H Q E),fun A outer s H args us vs Q E hr he hb hv hs=>hs.elim (F.run A outer s H args us vs Q E hr he hb hv) (G.run A outer s H args us vs Q E hr he hb hv)⟩
theorem wI {ss:List Str} (h:∀i (hi:i + 1 < ss.length),nlt ss[i] ss[i + 1]):ss.Pairwise nlt:=by
 rw [List.pairwise_iff_getElem]
 have key:∀(k i:Nat) (hk:i + k + 1 < ss.length),nlt ss[i] (ss[i + k + 1]'hk):=by
  intro k
  induction k with
  | zero=>intro i hk;exact h i hk
  | succ k ih =>
   intro i hk
   have h1:=ih i (by omega)
   have h2:=h (i + k + 1) (by omega)
   exact List.lt_trans h1 h2
 intro i j hi hj hij
 have:=key (j - i - 1) i (by omega)
 have e:i + (j - i - 1) + 1=j:=by omega
 simpa [e] using this
section
variable {P:Program}{w:World}{K:PySem.W.Frag}{mg:Str->Option Value}{base:Heap}
noncomputable def sv (K:PySem.W.Frag):Sp:=fun vs H Q _=>∃(p:Addr) (ss:List Str),vs=[.ref p]/\Sq K H p (ss.map V.str)/\¬ ss.Pairwise nlt/\ss.length<=1000/\∀H',ai H H'->Q (.bl false) H'
theorem qo {f:Addr}{fd:FuncData} (F:Fun K "is_rising" "is_rising" (top 17) f fd) (B:Bl mg):aA P w K mg base CX0 1 f fd ["names"] (sv K):=by
 refine F.ok pH (fun vs H Q E h=>?_) (fun cdv A outer s H vs Q E hr h=>?_)
 ·obtain⟨p,ss,rfl,_⟩:=h
  rfl
 ·obtain⟨p,ss,rfl,hq,hp,hz,k⟩:=h
  refine⟨_,ay (aD (aC (dz rfl) rfl B.all dF (ae (bY (N:=["at","names"]) (ix:=[none,some 0]) ⟨rfl,rfl,rfl,by decide⟩ rfl
   (je rfl B.range (ae aj (ae (aC bB rfl B.len PySem.boot_len (ae (pv 0) ag)) ag))) (fun _ _ _ _=>bo 0 (by decide) rfl rfl) (fun _ _ _ _=>bK)
   (fun _ _ _ _=>dC lC (aG (cF K) (pv 1) (aF dS (pv 0) aj) (fun _ _=>rfl)) (aG (cF K) (pv 1) (pv 0) (fun _ _=>rfl)) (aT _))) ag))),?_⟩
  have hz':(ss.map V.str).length<=1000:=by simpa using hz
  let at':Nat->Bool:=fun j=>decide ((ss.getD j default).cps.toList < (ss.getD (j + 1) default).cps.toList)
  refine⟨_,rfl,p,ss.map V.str,rfl,hq,1,_,rfl,⟨by decide,by decide,by omega,by omega⟩,gf (fits (by omega)) (fun i ys σ H1=>ys=((List.range i).map at').map V.bl/\ai H H1/\∃v,σ=[v,some (.ref p)])
   ⟨rfl,ai.refl _,_,rfl⟩ (fun i ys σ H1 _ q=>by rw [q.1];simp) ?_ ?_⟩
  ·rintro i ys σ H1 hi ⟨rfl,hs,v,rfl⟩
   have hl:i + 1 < ss.length:=by rw [List.length_map] at hi;omega
   refine⟨_,rfl,_,rfl,_,_,rfl,rfl,aI (j:=i) (hq.same hs) (by omega) (strAt (by omega)) ⟨_,rfl,_,rfl,aI (j:=i + 1) (hq.same hs) (by push_cast;omega) (strAt hl) ⟨_,_,rfl,rfl,?_,hs,_,rfl⟩⟩⟩
   have e1:ss.getD i default=ss[i]:=by rw [List.getD_eq_getElem?_getD,List.getElem?_eq_getElem (by omega)];rfl
   have e2:ss.getD (i + 1) default=ss[i + 1]:=by rw [List.getD_eq_getElem?_getD,List.getElem?_eq_getElem hl];rfl
   show _++[V.bl (decide (ss[i].cps.toList < ss[i + 1].cps.toList))]=_
   rw [List.range_succ,List.map_append,List.map_append]
   show _=_++[V.bl (decide ((ss.getD i default).cps.toList < (ss.getD (i + 1) default).cps.toList))]
   rw [e1,e2]
  ·rintro ys σ H1 ⟨rfl,hs,v,rfl⟩ q hqn
   refine⟨q,_,rfl,SqL.of ak,?_⟩
   have e:(((List.range (((ss.map V.str).length:Int) - 1).toNat).map at').all id)=false:=by
    cases c:(((List.range (((ss.map V.str).length:Int) - 1).toNat).map at').all id) with
    | false=>rfl
    | true =>
     refine absurd (wI fun i hi=>?_) hp
     have:=List.all_eq_true.mp c (at' i) (List.mem_map.mpr ⟨i,List.mem_range.mpr (by rw [List.length_map];omega),rfl⟩)
     have h2:(ss.getD i default).cps.toList < (ss.getD (i + 1) default).cps.toList:=of_decide_eq_true this
     have e1:ss.getD i default=ss[i]:=by rw [List.getD_eq_getElem?_getD,List.getElem?_eq_getElem (by omega)];rfl
     have e2:ss.getD (i + 1) default=ss[i + 1]:=by rw [List.getD_eq_getElem?_getD,List.getElem?_eq_getElem hi];rfl
     rw [e1,e2] at h2
     exact h2
   rw [e]
   exact k _ (au hs hqn)
noncomputable def cu (ss:List Str):Bool:=@decide (ss.Pairwise nlt) (Classical.propDecidable _)
theorem jM {ss:List Str}:cu ss=true ↔ ss.Pairwise nlt:=@decide_eq_true_iff _ (Classical.propDecidable _)
theorem jI {ss:List Str} (h:¬ ss.Pairwise nlt):cu ss=false:=@decide_eq_false _ (Classical.propDecidable _) h
noncomputable def gX (K:PySem.W.Frag):Sp:=fun vs H Q _=>∃(p:Addr) (ss:List Str),vs=[.ref p]/\Sq K H p (ss.map V.str)/\ss.length<=1000/\∀H',ai H H'->Q (.bl (cu ss)) H'
theorem rJ {f:Addr}{fd:FuncData} (F:Fun K "is_rising" "is_rising" (top 17) f fd) (B:Bl mg):aA P w K mg base CX0 1 f fd ["names"] (gX K) :=
 (aA.or (kO F B) (qo F B)).imp fun vs H Q E h=>by
  obtain⟨p,ss,e,hq,hz,k⟩:=h
  by_cases c:ss.Pairwise nlt
  ·exact .inl ⟨p,ss,e,hq,c,hz,fun H' s=>by have:=k H' s;rw [jM.mpr c] at this;exact this⟩
  ·exact .inr ⟨p,ss,e,hq,c,hz,fun H' s=>by have:=k H' s;rw [jI c] at this;exact this⟩
noncomputable def dq (ds:List PyData):List Str:=ds.filterMap fun | .str s=>some s | _=>none
theorem gm (ss:List Str):dq (ss.map PyData.str)=ss:=by
 unfold dq
 induction ss with
 | nil=>rfl
 | cons s r ih=>rw [List.map_cons,List.filterMap_cons];simp only [ih]
noncomputable def ck:PyData->Bool
 | .tuple ds=>ds.all bI && cu (dq ds)
 | _=>false
theorem sH {d:PyData} (h:ck d=true):∃ss:List Str,d=.tuple (ss.map PyData.str)/\(∀x∈ss,aP x)/\ss.Pairwise nlt:=by
 cases d with
 | tuple ds =>
  unfold ck at h
  rw [Bool.and_eq_true] at h
  obtain⟨ss,rfl,hs⟩:=lj h.1
  exact⟨ss,rfl,hs,by have:=jM.mp h.2;rwa [gm] at this⟩
 | _=>cases h
noncomputable def ly:Sp:=fun vs H Q _=>∃(x:V) (d:PyData),vs=[x]/\DV H x d/\Dok d/\∀H',ai H H'->Q (.bl (ck d)) H'
theorem rR {f:Addr}{fd:FuncData} (F:Fun K "is_sorted_names" "is_sorted_names" (top 18) f fd) (B:Bl mg) (F1:Fn P w K mg base 1 "is_name" ["thing"] jG) (F2:Fn P w K mg base 1 "is_rising" ["names"] (gX K)) :
  aA P w K mg base CX0 2 f fd ["thing"] ly:=by
 refine F.ok ku (fun vs H Q E h=>?_) (fun cdv A outer s H vs Q E hr h=>?_)
 ·obtain⟨x,d,rfl,_⟩:=h
  rfl
 ·obtain⟨x,d,rfl,hx,hd,k⟩:=h
  refine⟨_,am (aY (bw (bE (aC (cb (T:="tuple")) rfl B.isinstance bG (ae (pv 0) (ae (bV (v:=.ty "tuple") rfl B.tuple cM rfl) ag))))) (ay (aD bW)) aX)
   (ay (aD (cH (aC (dz rfl) rfl B.all dF (ae (bY (N:=["name"]) (ix:=[none]) ⟨rfl,rfl,rfl,by decide⟩ rfl (cJ (pv 0)) (fun _ _ _ _=>bo 0 (by decide) rfl rfl) (fun _ _ _ _=>bK)
    (fun _ _ _ _=>ar F1 hr (ae (pv 0) ag))) ag)) (cZ (ar F2 hr (ae (pv 0) ag)))))),?_⟩
  have kF:ck d=false->Q (.bl false) H:=fun e=>by have:=k H (ai.refl _);rw [e] at this;exact this
  cases hx with
  | non=>exact⟨_,rfl,_,_,false,rfl,.non,rfl,false,rfl,ao (kF rfl)⟩
  | int i=>exact⟨_,rfl,_,_,false,rfl,.int i,rfl,false,rfl,ao (kF rfl)⟩
  | bl b=>exact⟨_,rfl,_,_,false,rfl,.bl b,rfl,false,rfl,ao (kF rfl)⟩
  | str z=>exact⟨_,rfl,_,_,false,rfl,.str z,rfl,false,rfl,ao (kF rfl)⟩
  | lst e _=>exact⟨_,rfl,_,_,false,rfl,.lst e,rfl,false,rfl,ao (kF rfl)⟩
  | @tup p xs ds hp q =>
   obtain⟨hz,hds⟩:ds.length<=60/\∀d∈ds,Dok d:=by cases hd with | tup _ a b=>exact⟨a,b⟩
   have hxl:=DVs.len q
   refine⟨_,rfl,_,_,true,rfl,.tup hp,rfl,true,rfl,aH ?_⟩
   refine⟨_,rfl,p,rfl,⟨_,SqT.of hp⟩,dN (xs:=xs) (fits (by omega)) (fun i ys σ H1=>ys=(ds.take i).map (fun d=>V.bl (bI d))/\ai H H1/\∃v,σ=[v]) ⟨rfl,ai.refl _,_,rfl⟩
    (fun i ys σ H1 _ q=>⟨by rw [q.1];simp;omega,dB q.2.1 (SqT.of hp)⟩) ?_ ?_⟩
   ·rintro i x ys σ H1 hx ⟨rfl,hs1,v,rfl⟩
    obtain⟨d',hd',dv⟩:=DVs.at q hx
    exact⟨_,rfl,x,d',rfl,DV.same hs1 dv,hds d' (List.mem_of_getElem? hd'),fun H2 hs2=>⟨(ee _ _ _ _ hd').symm,hs1.trans hs2,_,rfl⟩⟩
   ·rintro ys σ H1 ⟨rfl,hs1,v,rfl⟩ r hr'
    have ea:(ds.take xs.length).map (fun d=>V.bl (bI d))=(ds.map bI).map V.bl:=by rw [hxl,List.take_length,List.map_map];rfl
    rw [ea]
    have hs2:=au (o:=.lst ((ds.map bI).map V.bl)) hs1 hr'
    refine⟨r,ds.map bI,rfl,SqL.of ak,_,rfl,?_⟩
    have e2:(ds.map bI).all id=ds.all bI:=by rw [List.all_map];rfl
    rw [e2]
    cases c:ds.all bI with
    | false =>
     have:=k _ hs2
     have e:ck (.tuple ds)=false:=by show (ds.all bI && _)=false;rw [c];rfl
     rw [e] at this
     exact aH this
    | true =>
     obtain⟨ss,rfl,hss⟩:=lj c
     have ex:=DVs.txt q
     subst ex
     refine ao ⟨_,rfl,p,ss,rfl,.inr (dB hs2 (SqT.of hp)),by simp at hz;omega,fun H3 hs3=>?_⟩
     have:=k _ (hs2.trans hs3)
     have e:ck (.tuple (ss.map PyData.str))=cu ss:=by show ((ss.map PyData.str).all bI && cu (dq _))=_;rw [c,gm];rfl
     rw [e] at this
     exact this
noncomputable def bj (d:PyData) (ss:List Str):Bool:=match d with | .str s=>decide (s∈ss) | _=>false
noncomputable def mQ (K:PySem.W.Frag):Sp:=fun vs H Q _=>∃(x:V) (d:PyData) (p:Addr) (ss:List Str),vs=[x,.ref p]/\DV H x d/\Sq K H p (ss.map V.str)/\Q (.bl (bj d ss)) H
theorem lq {f:Addr}{fd:FuncData} (F:Fun K "is_among" "is_among" (top 19) f fd) (B:Bl mg):aA P w K mg base CX0 1 f fd ["thing","names"] (mQ K):=by
 refine F.ok kj (fun vs H Q E h=>?_) (fun cdv A outer s H vs Q E hr h=>?_)
 ·obtain⟨x,d,p,ss,rfl,_⟩:=h
  rfl
 ·obtain⟨x,d,p,ss,rfl,hx,hp,k⟩:=h
  refine⟨_,ay (aD (cH (aC (cb (T:="str")) rfl B.isinstance bG (ae (pv 0) (ae (bV (v:=.ty "str") rfl B.str eS rfl) ag)))
   (cZ (dC gi (pv 0) (pv 1) (by with_unfolding_all rfl))))),?_⟩
  cases hx with
  | non=>exact⟨_,rfl,_,_,false,rfl,.non,rfl,false,rfl,aH k⟩
  | int i=>exact⟨_,rfl,_,_,false,rfl,.int i,rfl,false,rfl,aH k⟩
  | bl b=>exact⟨_,rfl,_,_,false,rfl,.bl b,rfl,false,rfl,aH k⟩
  | tup e _=>exact⟨_,rfl,_,_,false,rfl,.tup e,rfl,false,rfl,aH k⟩
  | lst e _=>exact⟨_,rfl,_,_,false,rfl,.lst e,rfl,false,rfl,aH k⟩
  | str x =>
   refine⟨_,rfl,_,_,true,rfl,.str x,rfl,true,rfl,ao ⟨_,rfl,_,rfl,p,ss.map V.str,rfl,hp,rfl,ef ss,?_⟩⟩
   show Q (.bl (inV (.str x) (ss.map V.str))) H
   rw [eE]
   exact k
end
noncomputable def bU (ps:List Str):PyData->Bool
 | .tuple [a,.str s,.str t]=>bI a && (decide (s∈ps) && (decide (t∈ps) && !decide (s=t)))
 | _=>false
theorem xm {ps:List Str}{d:PyData} (h:bU ps d=true):∃n s t:Str,d=.tuple [.str n,.str s,.str t]/\aP n/\s∈ps/\t∈ps/\s≠t:=by
 unfold bU at h
 split at h
 ·rename_i a s t
  simp only [Bool.and_eq_true,decide_eq_true_eq,Bool.not_eq_true',decide_eq_false_iff_not] at h
  obtain⟨n,rfl,hn⟩:=jb h.1
  exact⟨n,s,t,rfl,hn,h.2.1,h.2.2.1,h.2.2.2⟩
 ·cases h
theorem uU {ps:List Str}{ds:List PyData} (h:ds.length≠3):bU ps (.tuple ds)=false:=by
 unfold bU
 split
 ·rename_i e;cases e;exact absurd rfl h
 ·rfl
noncomputable def neD:PyData->PyData->Bool
 | .str s,.str t=>!decide (s=t)
 | _,_=>false
theorem jP {ps:List Str} (a b e:PyData):bU ps (.tuple [a,b,e])=(bI a && (bj b ps && (bj e ps && neD b e))):=by
 cases b with
 | str s =>
  cases e with
  | str t=>rfl
  | _=>show false=(bI a && (decide (s∈ps) && (false && _)));simp
 | _=>show false=(bI a && (false && _));simp
section
variable {P:Program}{w:World}{K:PySem.W.Frag}{mg:Str->Option Value}{base:Heap}
noncomputable def oh:Sp:=fun vs H Q _=>∃(x:V) (d:PyData) (q:Addr) (ps:List Str),vs=[x,.ref q]/\DV H x d/\Dok d/\H q=some (.tup (ps.map V.str))/\∀H',ai H H'->Q (.bl (bU ps d)) H'
theorem vz {f:Addr}{fd:FuncData} (F:Fun K "is_tie_row" "is_tie_row" (top 20) f fd) (B:Bl mg) (F1:Fn P w K mg base 1 "is_name" ["thing"] jG) (F2:Fn P w K mg base 1 "is_among" ["thing","names"] (mQ K)) :
  aA P w K mg base CX0 2 f fd ["thing","places"] oh:=by
 refine F.ok eV (fun vs H Q E h=>?_) (fun cdv A outer s H vs Q E hr h=>?_)
 ·obtain⟨x,d,q,ps,rfl,_⟩:=h
  rfl
 ·obtain⟨x,d,q,ps,rfl,hx,hd,hq,k⟩:=h
  refine⟨_,am (aY (PW.pt (bS (bw (bE (aC (cb (T:="tuple")) rfl B.isinstance bG (ae (pv 0) (ae (bV (v:=.ty "tuple") rfl B.tuple cM rfl) ag)))))
    (cc (aV cf (aC bB rfl B.len PySem.boot_len (ae (pv 0) ag)) aj (aT _))))) (ay (aD bW)) aX)
   (am (dR (pv 0) (dj rfl (n:=3) (bC (br (i:=2) eV.nd rfl (Or.inl rfl)) (bC (br (i:=3) eV.nd rfl (Or.inl rfl)) (bC (br (i:=4) eV.nd rfl (Or.inl rfl)) cX)))))
   (ay (aD (cH (ar F1 hr (ae (pv 2) ag)) (cH (ar F2 hr (ae (pv 3) (ae (pv 1) ag))) (cH (ar F2 hr (ae (pv 4) (ae (pv 1) ag))) (cZ (dC cf (pv 3) (pv 4) (aT _))))))))),?_⟩
  have kF:bU ps d=false->∀H',ai H H'->Q (.bl false) H':=fun e H' s=>by have:=k H' s;rw [e] at this;exact this
  cases hx with
  | non=>exact⟨_,rfl,_,_,false,rfl,.non,rfl,false,rfl,ao (ao (kF rfl H (ai.refl _)))⟩
  | int i=>exact⟨_,rfl,_,_,false,rfl,.int i,rfl,false,rfl,ao (ao (kF rfl H (ai.refl _)))⟩
  | bl b=>exact⟨_,rfl,_,_,false,rfl,.bl b,rfl,false,rfl,ao (ao (kF rfl H (ai.refl _)))⟩
  | str z=>exact⟨_,rfl,_,_,false,rfl,.str z,rfl,false,rfl,ao (ao (kF rfl H (ai.refl _)))⟩
  | lst e _=>exact⟨_,rfl,_,_,false,rfl,.lst e,rfl,false,rfl,ao (ao (kF rfl H (ai.refl _)))⟩
  | @tup p xs ds hp' qs =>
   have hxl:=DVs.len qs
   refine⟨_,rfl,_,_,true,rfl,.tup hp',rfl,true,rfl,aH ⟨_,rfl,p,_,rfl,.inr (SqT.of hp'),rfl,_,rfl,?_⟩⟩
   by_cases c:ds.length=3
   ·obtain⟨a,b,e,rfl⟩:∃a b e,ds=[a,b,e]:=by
     match ds,c with
     | [a,b,e],_=>exact⟨a,b,e,rfl⟩
    cases qs with
    | @cons x1 _ _ _ d1 r =>
     cases r with
     | @cons x2 _ _ _ d2 r =>
      cases r with
      | @cons x3 _ _ _ d3 r =>
       cases r
       obtain⟨k1,k2,k3⟩:Dok a/\Dok b/\Dok e:=by cases hd with | tup _ _ z=>exact⟨z _ (by simp),z _ (by simp),z _ (by simp)⟩
       refine ez rfl ?_
       refine⟨_,rfl,p,_,rfl,SqT.of hp',rfl,_,_,rfl,_,_,rfl,_,_,rfl,rfl,?_⟩
       rw [jP] at k
       refine⟨_,rfl,x1,a,rfl,d1,k1,fun H1 s1=>⟨bI a,rfl,?_⟩⟩
       cases n1:bI a with
       | false=>rw [n1] at k;exact aH (k H1 s1)
       | true =>
        rw [n1] at k
        refine ao ⟨_,rfl,_,rfl,x2,b,q,ps,rfl,DV.same s1 d2,.inr (dB s1 (SqT.of hq)),bj b ps,rfl,?_⟩
        cases n2:bj b ps with
        | false=>rw [n2] at k;exact aH (k H1 s1)
        | true =>
         rw [n2] at k
         refine ao ⟨_,rfl,_,rfl,x3,e,q,ps,rfl,DV.same s1 d3,.inr (dB s1 (SqT.of hq)),bj e ps,rfl,?_⟩
         cases n3:bj e ps with
         | false=>rw [n3] at k;exact aH (k H1 s1)
         | true =>
          rw [n3] at k
          refine ao ?_
          cases d2 with
          | str s' =>
           cases d3 with
           | str t' =>
            refine⟨_,rfl,_,rfl,rfl,?_⟩
            have e:(!decide (V.str s'=V.str t'))=neD (PyData.str s') (PyData.str t'):=by
             show _=!decide (s'=t')
             by_cases z:s'=t'
             ·subst z;simp
             ·rw [decide_eq_false (fun w=>z (V.str.inj w)),decide_eq_false z]
            rw [e]
            exact k H1 s1
           | _=>cases n3
          | _=>cases n2
   ·refine gK (fun z=>c ?_) (kF (uU c) H (ai.refl _))
    have:=V.int.inj z
    rw [hxl] at this
    omega
end
noncomputable def cB:PyData->List PyData
 | .tuple ds=>ds
 | _=>[]
noncomputable def gF:PyData->Bool
 | .tuple _=>true
 | _=>false
noncomputable def eR:PyData->Str
 | .tuple (.str n::_)=>n
 | _=>""
noncomputable def dw:PyData->Bool
 | .tuple [a,b]=>ck a && (!(cB a).isEmpty && (gF b && ((cB b).all (bU (dq (cB a))) && cu ((cB b).map eR))))
 | _=>false
theorem hV {ds:List PyData} (h:ds.length≠2):dw (.tuple ds)=false:=by
 unfold dw
 split
 ·rename_i e;cases e;exact absurd rfl h
 ·rfl
theorem wJ {H:Hp}{ps:List Str}:∀{xs:List V}{ds:List PyData},DVs H xs ds->ds.all (bU ps)=true->∀{i:Nat}{x:V},xs[i]?=some x->∃(d:PyData) (a:Addr) (ys:List V),ds[i]?=some d/\x=.ref a/\H a=some (.tup (V.str (eR d)::ys)):=by
 intro xs ds q h i x hx
 obtain⟨d,hd,dv⟩:=DVs.at q hx
 obtain⟨n,s,t,rfl,hn,_⟩:=xm (List.all_eq_true.mp h d (List.mem_of_getElem? hd))
 cases dv with
 | @tup a ys _ e r =>
  cases r with
  | cons r1 r2 =>
   cases r1
   exact⟨_,a,_,hd,rfl,e⟩
section
variable {P:Program}{w:World}{K:PySem.W.Frag}{mg:Str->Option Value}{base:Heap}
noncomputable def oi:Sp:=fun vs H Q _=>(∃(x:V) (d:PyData),vs=[x]/\DV H x d/\Dok d/\∀H',ai H H'->Q (.bl (dw d)) H')\/∃a:Addr,vs=[.ref a]/\H a=some (.dK [])/\Q (.bl false) H
theorem vA {f:Addr}{fd:FuncData} (F:Fun K "is_web" "is_web" (top 21) f fd) (B:Bl mg) (F1:Fn P w K mg base 2 "is_sorted_names" ["thing"] ly) (F2:Fn P w K mg base 2 "is_tie_row" ["thing","places"] oh)
  (F3:Fn P w K mg base 1 "is_rising" ["names"] (gX K)):aA P w K mg base CX0 3 f fd ["thing"] oi:=by
 refine F.ok fV (fun vs H Q E h=>?_) (fun cdv A outer s H vs Q E hr h=>?_)
 ·rcases h with ⟨x,d,rfl,_⟩ | ⟨a,rfl,_⟩ <;> rfl
 ·have hr1:aK 1 _:=hr.mono (by decide)
  refine⟨_,am (aY (PW.pt (bS (bw (bE (aC (cb (T:="tuple")) rfl B.isinstance bG (ae (pv 0) (ae (bV (v:=.ty "tuple") rfl B.tuple cM rfl) ag)))))
    (cc (aV cf (aC bB rfl B.len PySem.boot_len (ae (pv 0) ag)) aj (aT _))))) (ay (aD bW)) aX)
   (am (dR (pv 0) (dj rfl (n:=2) (bC (br (i:=1) fV.nd rfl (Or.inr rfl)) (bC (br (i:=2) fV.nd rfl (Or.inl rfl)) cX))))
   (am (aY (PW.pt (bS (bw (bE (ar F1 hr (ae (pv 1) ag)))) (bS (aV dG (aC bB rfl B.len PySem.boot_len (ae (pv 1) ag)) aj (aT _))
    (cc (bw (bE (aC (cb (T:="tuple")) rfl B.isinstance bG (ae (pv 2) (ae (bV (v:=.ty "tuple") rfl B.tuple cM rfl) ag))))))))) (ay (aD bW)) aX)
   (ay (aD (cH (aC (dz rfl) rfl B.all dF (ae (bY (N:=["row","places"]) (ix:=[none,some 1]) ⟨rfl,rfl,rfl,by decide⟩ rfl (cJ (pv 2)) (fun _ _ _ _=>bo 0 (by decide) rfl rfl) (fun _ _ _ _=>bK)
    (fun _ _ _ _=>ar F2 hr (ae (pv 0) (ae (pv 1) ag)))) ag))
    (cZ (ar F3 hr1 (ae (bY (N:=["row"]) (ix:=[none]) ⟨rfl,rfl,rfl,by decide⟩ rfl (cJ (pv 2)) (fun _ _ _ _=>bo 0 (by decide) rfl rfl) (fun _ _ _ _=>bK)
     (fun _ _ _ _=>aG (cF K) (pv 0) aj (fun _ _=>rfl))) ag)))))))),?_⟩
  rcases h with ⟨x,d,rfl,hx,hd,k⟩ | ⟨a,rfl,ha,k⟩
  rotate_left
  ·exact⟨_,rfl,_,_,false,rfl,.dK ha,rfl,false,rfl,ao (ao k)⟩
  have kF:dw d=false->∀H',ai H H'->Q (.bl false) H':=fun e H' s=>by have:=k H' s;rw [e] at this;exact this
  cases hx with
  | non=>exact⟨_,rfl,_,_,false,rfl,.non,rfl,false,rfl,ao (ao (kF rfl H (ai.refl _)))⟩
  | int i=>exact⟨_,rfl,_,_,false,rfl,.int i,rfl,false,rfl,ao (ao (kF rfl H (ai.refl _)))⟩
  | bl b=>exact⟨_,rfl,_,_,false,rfl,.bl b,rfl,false,rfl,ao (ao (kF rfl H (ai.refl _)))⟩
  | str z=>exact⟨_,rfl,_,_,false,rfl,.str z,rfl,false,rfl,ao (ao (kF rfl H (ai.refl _)))⟩
  | lst e _=>exact⟨_,rfl,_,_,false,rfl,.lst e,rfl,false,rfl,ao (ao (kF rfl H (ai.refl _)))⟩
  | @tup v xs ds hv qs =>
   have hxl:=DVs.len qs
   refine⟨_,rfl,_,_,true,rfl,.tup hv,rfl,true,rfl,aH ⟨_,rfl,v,_,rfl,.inr (SqT.of hv),rfl,_,rfl,?_⟩⟩
   by_cases c:ds.length=2
   rotate_left
   ·refine gK (fun z=>c ?_) (kF (hV c) H (ai.refl _))
    have:=V.int.inj z
    rw [hxl] at this
    omega
   obtain⟨a,b,rfl⟩:∃a b,ds=[a,b]:=by
    match ds,c with
    | [a,b],_=>exact⟨a,b,rfl⟩
   cases qs with
   | @cons x1 _ _ _ d1 r =>
    cases r with
    | @cons x2 _ _ _ d2 r =>
     cases r
     obtain⟨ka,kb⟩:Dok a/\Dok b:=by cases hd with | tup _ _ z=>exact⟨z _ (by simp),z _ (by simp)⟩
     refine ez rfl ?_
     refine⟨_,rfl,v,_,rfl,SqT.of hv,rfl,_,_,rfl,_,_,rfl,rfl,?_⟩
     have ew:dw (.tuple [a,b])=(ck a && (!(cB a).isEmpty && (gF b && ((cB b).all (bU (dq (cB a))) && cu ((cB b).map eR))))):=rfl
     refine⟨_,rfl,x1,a,rfl,d1,ka,fun H1 s1=>⟨ck a,rfl,?_⟩⟩
     cases ca:ck a with
     | false=>exact ao (ao (kF (by rw [ew,ca];rfl) H1 s1))
     | true =>
      obtain⟨ps,rfl,pnm,pso⟩:=sH ca
      cases d1 with
      | @tup pa ys _ hpa qp =>
       have ex:=DVs.txt qp
       subst ex
       have hpz:ps.length<=60:=by cases ka with | tup _ z _=>simpa using z
       refine aH ⟨_,rfl,pa,_,rfl,.inr (SqT.of (s1 _ _ hpa)),rfl,_,rfl,?_⟩
       have et:dq (cB (.tuple (ps.map PyData.str)))=ps:=gm ps
       cases ps with
       | nil=>exact ao (ao (kF (by rw [ew,ca];rfl) H1 s1))
       | cons p0 pr =>
        generalize hps:p0::pr=ps at *
        refine fQ (fun z=>?_) ?_
        ·have z':=V.int.inj z
         rw [List.length_map,<- hps] at z'
         simp at z'
         omega
        have en:(!(cB (.tuple (ps.map PyData.str))).isEmpty)=true:=by rw [<- hps];rfl
        rw [ca,en,et] at ew
        cases d2 with
        | non=>exact⟨_,rfl,_,_,false,rfl,.non,rfl,false,rfl,ao (kF (by rw [ew];rfl) H1 s1)⟩
        | int i=>exact⟨_,rfl,_,_,false,rfl,.int i,rfl,false,rfl,ao (kF (by rw [ew];rfl) H1 s1)⟩
        | bl b=>exact⟨_,rfl,_,_,false,rfl,.bl b,rfl,false,rfl,ao (kF (by rw [ew];rfl) H1 s1)⟩
        | str z=>exact⟨_,rfl,_,_,false,rfl,.str z,rfl,false,rfl,ao (kF (by rw [ew];rfl) H1 s1)⟩
        | lst e _=>exact⟨_,rfl,_,_,false,rfl,.lst (s1 _ _ e),rfl,false,rfl,ao (kF (by rw [ew];rfl) H1 s1)⟩
        | @tup ra zs rs hra qr =>
         have hzl:=DVs.len qr
         obtain⟨hrz,hrd⟩:rs.length<=60/\∀d∈rs,Dok d:=by cases kb with | tup _ y z=>exact⟨y,z⟩
         have ew2:dw (.tuple [.tuple (ps.map PyData.str),.tuple rs])=(rs.all (bU ps) && cu (rs.map eR)):=by rw [ew];rfl
         refine⟨_,rfl,_,_,true,rfl,.tup (s1 _ _ hra),rfl,true,rfl,aH ?_⟩
         refine⟨_,rfl,ra,rfl,⟨_,SqT.of (s1 _ _ hra)⟩,dN (xs:=zs) (fits (by omega)) (fun i ys σ H2=>ys=(rs.take i).map (fun d=>V.bl (bU ps d))/\ai H H2/\∃x,σ=[x,some (.ref pa)]) ⟨rfl,s1,_,rfl⟩
          (fun i ys σ H2 _ q=>⟨by rw [q.1];simp;omega,SqT.of (q.2.1 _ _ hra)⟩) ?_ ?_⟩
         ·rintro i x ys σ H2 hx ⟨rfl,s2,y,rfl⟩
          obtain⟨d',hd',dv⟩:=DVs.at qr hx
          exact⟨_,rfl,_,rfl,x,d',pa,ps,rfl,DV.same s2 dv,hrd d' (List.mem_of_getElem? hd'),s2 _ _ hpa,fun H3 s3=>⟨(ee _ _ _ _ hd').symm,s2.trans s3,_,rfl⟩⟩
         ·rintro ys σ H2 ⟨rfl,s2,y,rfl⟩ q hqn
          have ea:(rs.take zs.length).map (fun d=>V.bl (bU ps d))=(rs.map (bU ps)).map V.bl:=by rw [hzl,List.take_length,List.map_map];rfl
          rw [ea]
          have s3:=au (o:=.lst ((rs.map (bU ps)).map V.bl)) s2 hqn
          refine⟨q,rs.map (bU ps),rfl,SqL.of ak,_,rfl,?_⟩
          have e2:(rs.map (bU ps)).all id=rs.all (bU ps):=by rw [List.all_map];rfl
          rw [e2]
          cases cr:rs.all (bU ps) with
          | false=>exact aH (kF (by rw [ew2,cr];rfl) _ s3)
          | true =>
           rw [cr] at ew2
           refine ao ⟨_,rfl,ra,rfl,⟨_,SqT.of (s3 _ _ hra)⟩,dN (xs:=zs) (fits (by omega)) (fun i ys σ H4=>ys=(rs.take i).map (fun d=>V.str (eR d))/\ai H H4/\∃x,σ=[x]) ⟨rfl,s3,_,rfl⟩
            (fun i ys σ H4 _ q=>⟨by rw [q.1];simp;omega,SqT.of (q.2.1 _ _ hra)⟩) ?_ ?_⟩
           ·rintro i x ys σ H4 hx ⟨rfl,s4,z,rfl⟩
            obtain⟨d',a',ys',hd',rfl,ha'⟩:=wJ qr cr hx
            exact⟨_,rfl,aI (j:=0) (.inr (SqT.of (s4 _ _ ha'))) rfl rfl ⟨(ee _ _ _ _ hd').symm,s4,_,rfl⟩⟩
           ·rintro ys σ H4 ⟨rfl,s4,z,rfl⟩ q2 hq2
            have eb:(rs.take zs.length).map (fun d=>V.str (eR d))=(rs.map eR).map V.str:=by rw [hzl,List.take_length,List.map_map];rfl
            rw [eb]
            refine⟨q2,rs.map eR,rfl,.inl (SqL.of ak),by simp;omega,fun H5 s5=>?_⟩
            have:=k H5 ((au s4 hq2).trans s5)
            rw [ew2] at this
            exact this
end
noncomputable abbrev cC (a b:Sp):Sp:=fun vs H Q E=>a vs H Q E\/b vs H Q E
noncomputable def aW (x:V) (H:Hp):Prop:=(∃d,DV H x d/\Dok d/\dw d=false)\/∃a,x=.ref a/\H a=some (.dK [])
noncomputable def bF (ps:List Str) (x:V) (H:Hp):Prop:=(∃d,DV H x d/\Dok d/\bj d ps=false)\/∃a,x=.ref a/\H a=some (.dK [])
noncomputable def bD (lo hi:Int) (x:V) (H:Hp):Prop:=(∃d,DV H x d/\Dok d/\∀i,d=.int i->¬ (lo<=i/\i<=hi))\/∃a,x=.ref a/\H a=some (.dK [])
theorem aW.same {x:V}{H H':Hp} (h:aW x H) (s:ai H H'):aW x H':=by
 rcases h with ⟨d,a,b⟩ | ⟨a,e,ha⟩
 ·exact .inl ⟨d,DV.same s a,b⟩
 ·exact .inr ⟨a,e,s _ _ ha⟩
theorem bF.same {ps:List Str}{x:V}{H H':Hp} (h:bF ps x H) (s:ai H H'):bF ps x H':=by
 rcases h with ⟨d,a,b⟩ | ⟨a,e,ha⟩
 ·exact .inl ⟨d,DV.same s a,b⟩
 ·exact .inr ⟨a,e,s _ _ ha⟩
theorem bD.same {lo hi:Int}{x:V}{H H':Hp} (h:bD lo hi x H) (s:ai H H'):bD lo hi x H':=by
 rcases h with ⟨d,a,b⟩ | ⟨a,e,ha⟩
 ·exact .inl ⟨d,DV.same s a,b⟩
 ·exact .inr ⟨a,e,s _ _ ha⟩
section
variable {P:Program}{w:World}{K:PySem.W.Frag}{mg:Str->Option Value}{base:Heap}
noncomputable def mx (K:PySem.W.Frag):Sp:=fun vs H Q _=>∃(x:V) (p:Addr) (ss:List Str),vs=[x,.ref p]/\bF ss x H/\Sq K H p (ss.map V.str)/\Q (.bl false) H
theorem lR {f:Addr}{fd:FuncData} (F:Fun K "is_among" "is_among" (top 19) f fd) (B:Bl mg):aA P w K mg base CX0 1 f fd ["thing","names"] (mx K):=by
 refine F.ok kj (fun vs H Q E h=>?_) (fun cdv A outer s H vs Q E hr h=>?_)
 ·obtain⟨x,p,ss,rfl,_⟩:=h
  rfl
 ·obtain⟨x,p,ss,rfl,hx,hp,k⟩:=h
  refine⟨_,ay (aD (cH (aC (cb (T:="str")) rfl B.isinstance bG (ae (pv 0) (ae (bV (v:=.ty "str") rfl B.str eS rfl) ag)))
   (cZ (dC gi (pv 0) (pv 1) (by with_unfolding_all rfl))))),?_⟩
  rcases hx with ⟨d,dv,_,hd⟩ | ⟨a,rfl,ha⟩
  ·cases dv with
   | non=>exact⟨_,rfl,_,_,false,rfl,.non,rfl,false,rfl,aH k⟩
   | int i=>exact⟨_,rfl,_,_,false,rfl,.int i,rfl,false,rfl,aH k⟩
   | bl b=>exact⟨_,rfl,_,_,false,rfl,.bl b,rfl,false,rfl,aH k⟩
   | tup e _=>exact⟨_,rfl,_,_,false,rfl,.tup e,rfl,false,rfl,aH k⟩
   | lst e _=>exact⟨_,rfl,_,_,false,rfl,.lst e,rfl,false,rfl,aH k⟩
   | str z =>
    refine⟨_,rfl,_,_,true,rfl,.str z,?kit,true,rfl,ao ⟨_,rfl,_,rfl,?_⟩⟩
    case kit=>rfl
    refine⟨p,_,rfl,hp,rfl,ef _,?_⟩
    have:decide (z∈ss)=false:=hd
    rw [eE,this]
    exact k
  ·exact⟨_,rfl,_,_,false,rfl,.dK ha,rfl,false,rfl,aH k⟩
noncomputable def mz:Sp:=fun vs H Q _=>∃x:V,vs=[x]/\((∃d,DV H x d/\∀i,d≠.int i)\/∃a,x=.ref a/\H a=some (.dK []))/\Q (.bl false) H
theorem uk {f:Addr}{fd:FuncData} (F:Fun K "is_whole" "is_whole" (top 16) f fd) (B:Bl mg):aA P w K mg base CX0 1 f fd ["thing"] mz:=by
 refine F.ok pQ (fun vs H Q E h=>?_) (fun cdv A outer s H vs Q E hr h=>?_)
 ·obtain⟨x,rfl,_⟩:=h
  rfl
 ·obtain⟨x,rfl,hx,k⟩:=h
  refine⟨_,ay (aD (cH (aC (cb (T:="int")) rfl B.isinstance bG (ae (pv 0) (ae (bV (v:=.ty "int") rfl B.int jX rfl) ag)))
   (cZ (oa (aC (cb (T:="bool")) rfl B.isinstance bG (ae (pv 0) (ae (bV (v:=.ty "bool") rfl B.bool ou rfl) ag))))))),?_⟩
  rcases hx with ⟨d,dv,hd⟩ | ⟨a,rfl,ha⟩
  ·cases dv with
   | non=>exact⟨_,rfl,_,_,false,rfl,.non,rfl,false,rfl,aH k⟩
   | int i=>exact absurd rfl (hd i)
   | bl b=>exact⟨_,rfl,_,_,true,rfl,.bl b,rfl,true,rfl,ao ⟨_,rfl,_,_,true,rfl,.bl b,rfl,true,rfl,k⟩⟩
   | tup e _=>exact⟨_,rfl,_,_,false,rfl,.tup e,rfl,false,rfl,aH k⟩
   | lst e _=>exact⟨_,rfl,_,_,false,rfl,.lst e,rfl,false,rfl,aH k⟩
   | str z=>exact⟨_,rfl,_,_,false,rfl,.str z,rfl,false,rfl,aH k⟩
  ·exact⟨_,rfl,_,_,false,rfl,.dK ha,rfl,false,rfl,aH k⟩
noncomputable def eO (C:Addr):Sp:=fun vs H _ E=>∃x:V,vs=[x]/\aW x H/\∀H',ai H H'->E (.ref C) none H'
theorem qC {f C:Addr}{fd:FuncData} (F:Fun K "need_web" "need_web" (top 22) f fd) (hx:mg "NoWeb"=some (.ref C)) (hC:d9 base C) (F1:Fn P w K mg base 3 "is_web" ["thing"] oi):aA P w K mg base (CXE P w) 4 f fd ["thing"] (eO C):=by
 refine F.okX pU (fun vs H Q E h=>?_) (fun cdv A outer s H vs Q E hr h=>?_)
 ·obtain⟨x,rfl,_⟩:=h
  rfl
 ·obtain⟨x,rfl,hx',k⟩:=h
  refine⟨_,ay (aY (bw (bE (ar F1 hr (ae (pv 0) ag)))) (ay (fH (W:=fun H=>E (.ref C) none H) hx hC hr.hd (ae aM ag) (fun pins σ H s h' ea args I m hW=>fP I m hW))) aX),?_⟩
  rcases hx' with ⟨d,dv,hd,hw⟩ | ⟨a,rfl,ha⟩
  ·refine⟨_,rfl,.inl ⟨x,d,rfl,dv,hd,fun H1 s1=>⟨_,rfl,?_⟩⟩⟩
   rw [hw]
   exact ao ⟨by show 1<=sizeLine;decide,k H1 s1⟩
  ·exact⟨_,rfl,.inr ⟨a,rfl,ha,_,rfl,ao ⟨by show 1<=sizeLine;decide,k H (ai.refl _)⟩⟩⟩
noncomputable def jm (C:Addr):Sp:=fun vs H _ E=>∃(v pa ra:Addr) (ps:List Str) (rs:List (Addr×Row)) (x:V),vs=[.ref v,x]/\bg H v pa ra ps rs/\bF ps x H/\E (.ref C) none H
theorem qd {f C:Addr}{fd:FuncData} (F:Fun K "need_place" "need_place" (top 24) f fd) (hx:mg "NoPlace"=some (.ref C)) (hC:d9 base C) (F1:Fn P w K mg base 1 "is_among" ["thing","names"] (mx K)):aA P w K mg base (CXE P w) 2 f fd ["web","thing"] (jm C):=by
 refine F.okX pS (fun vs H Q E h=>?_) (fun cdv A outer s H vs Q E hr h=>?_)
 ·obtain⟨v,pa,ra,ps,rs,x,rfl,_⟩:=h
  rfl
 ·obtain⟨v,pa,ra,ps,rs,x,rfl,W,hx',k⟩:=h
  refine⟨_,ay (aY (bw (bE (ar F1 hr (ae (pv 1) (ae (aG aO (pv 0) aj (fun _ _=>rfl)) ag))))) (ay (fH (W:=fun H=>E (.ref C) none H) hx hC hr.hd (ae aM ag) (fun pins σ H s h' ea args I m hW=>fP I m hW))) aX),?_⟩
  exact⟨_,rfl,_,rfl,aI (j:=0) (.inr (SqT.of W.tp)) rfl rfl ⟨x,pa,ps,rfl,hx',.inr (SqT.of W.pl),_,rfl,ao ⟨by show 1<=sizeLine;decide,k⟩⟩⟩
noncomputable def iU (C:Addr):Sp:=fun vs H _ E=>∃(x:V) (lo hi:Int),vs=[x,.int lo,.int hi]/\bD lo hi x H/\lo.natAbs.log2 < 1920/\hi.natAbs.log2 < 1920/\(Str.ofString (toString lo)).length<=100/\(Str.ofString (toString hi)).length<=100/\E (.ref C) none H
theorem qa {f C:Addr}{fd:FuncData} (F:Fun K "need_number" "need_number" (top 23) f fd) (B:Bl mg) (hx:mg "NoNumber"=some (.ref C)) (hC:d9 base C) (F1:Fn P w K mg base 1 "is_whole" ["thing"] (cC jx mz)):aA P w K mg base (CXE P w) 2 f fd ["thing","low","high"] (iU C):=by
 refine F.okX pB (fun vs H Q E h=>?_) (fun cdv A outer s H vs Q E hr h=>?_)
 ·obtain⟨x,lo,hi,rfl,_⟩:=h
  rfl
 ·obtain⟨x,lo,hi,rfl,hx',h1,h2,h3,h4,k⟩:=h
  refine⟨_,ay (aY (PW.pt (bS (bw (bE (ar F1 hr (ae (pv 0) ag)))) (cc (bw (fF dX dX (pv 1) (pv 0) (pv 2))))))
   (ay (fH (W:=fun H=>E (.ref C) none H) hx hC hr.hd (ae (aF eD (aF eD (aF eD aM (dA kQ rfl B.str eS (ae (pv 1) ag))) aM) (dA kQ rfl B.str eS (ae (pv 2) ag))) ag) (fun pins σ H s h' ea args I m hW=>fP I m hW))) aX),?_⟩
  have sz:∀n:Nat,n<=1000->n<=sizeLine:=fun n h=>Nat.le_of_lt (fits h)
  have l1:(Str.ofString "this is no number from ").length=23:=by decide +kernel
  have l2:(Str.ofString " to ").length=4:=by decide +kernel
  have e1:(Str.ofString "this is no number from "++Str.ofString (toString lo)).length=23 + (Str.ofString (toString lo)).length:=by rw [Str.length_append,l1]
  have e2:(Str.ofString "this is no number from "++Str.ofString (toString lo)++Str.ofString " to ").length=23 + (Str.ofString (toString lo)).length + 4:=by rw [Str.length_append,e1,l2]
  have raise:∀H1:Hp,H1=H->∀D:Ends,oB (bQ
    (tOp (fun x y H Q=>∃i j,x=V.str i/\y=V.str j/\i.length + j.length<=sizeLine/\Q (V.str (i++j)) H)
     (tOp (fun x y H Q=>∃i j,x=V.str i/\y=V.str j/\i.length + j.length<=sizeLine/\Q (V.str (i++j)) H)
      (tOp (fun x y H Q=>∃i j,x=V.str i/\y=V.str j/\i.length + j.length<=sizeLine/\Q (V.str (i++j)) H)
       (tC (V.str (Str.ofString "this is no number from ")))
       (tCB (fun xs H Q=>∃i,xs=[V.int i]/\i.natAbs.log2 < 1920/\Q (V.str (Str.ofString (toString i))) H) (bQ (bz 1) bx)))
      (tC (V.str (Str.ofString " to "))))
     (tCB (fun xs H Q=>∃i,xs=[V.int i]/\i.natAbs.log2 < 1920/\Q (V.str (Str.ofString (toString i))) H) (bQ (bz 2) bx)))
    bx) (fun H=>E (Value.ref C) none H) D (L2.start [Str.ofString "thing",Str.ofString "low",Str.ofString "high"] [x,V.int lo,V.int hi]) H1:=fun H1 e D=>by
   subst e
   refine⟨_,rfl,lo,rfl,h1,_,_,rfl,rfl,sz _ (by rw [l1];omega),_,_,rfl,rfl,sz _ (by rw [e1,l2];omega),_,rfl,hi,rfl,h2,_,_,rfl,rfl,sz _ (by rw [e2];omega),by show 1<=sizeLine;decide,k⟩
  rcases hx' with ⟨d,dv,_,hd⟩ | z
  ·by_cases c:∃i,d=.int i
   ·obtain⟨i,rfl⟩:=c
    cases dv
    have hn:=hd i rfl
    refine⟨_,rfl,.inl ⟨i,rfl,true,rfl,aH ⟨_,rfl,_,rfl,_,_,rfl,rfl,_,rfl,?_⟩⟩⟩
    by_cases c1:lo<=i
    ·refine fB c1 ⟨_,rfl,_,_,rfl,rfl,_,rfl,?_⟩
     have c2:¬ i<=hi:=fun z=>hn ⟨c1,z⟩
     exact gK c2 (raise H rfl _)
    ·refine fQ c1 ⟨_,rfl,?_⟩
     exact ao (raise H rfl _)
   ·exact⟨_,rfl,.inr ⟨x,rfl,.inl ⟨d,dv,fun i e=>c ⟨i,e⟩⟩,false,rfl,ao (ao (raise H rfl _))⟩⟩
  ·exact⟨_,rfl,.inr ⟨x,rfl,.inr z,false,rfl,ao (ao (raise H rfl _))⟩⟩
end
section
variable {P:Program}{w:World}{K:PySem.W.Frag}{mg:Str->Option Value}{base:Heap}
noncomputable def lA:Sp:=fun vs H Q _=>∃(v pa ra a:Addr) (ps:List Str) (rs:List (Addr×Row)),vs=[.ref v,.ref a]/\bg H v pa ra ps rs/\ps.Nodup/\ps.length<=8/\rs.length<=60/\H a=some (.tup [])/\∀H',ai H H'->Q .non H'
noncomputable abbrev N38:List Str:=["web","roots","spare","lot"]
theorem kD:aL N38 ["web","roots"] (aB (top 38)):=⟨rfl,rfl,rfl,by decide +kernel,rfl,by decide +kernel,by decide +kernel⟩
theorem uw (rs:List (Addr×Row)) (l:List Str):0<=spr rs [] l:=by
 unfold spr need
 simp
theorem rN {f:Addr}{fd:FuncData} (F:Fun K "need_enough" "need_enough" (top 38) f fd)
  (F1:Fn P w K mg base 3 "spare_into" ["rows","lots","roots"] nu) (F2:Fn P w K mg base 1 "lots_among" ["places"] jo):aA P w K mg base CX0 4 f fd ["web","roots"] lA:=by
 refine F.ok kD (fun vs H Q E h=>?_) (fun cdv A outer s H vs Q E hr h=>?_)
 ·obtain⟨v,pa,ra,a,ps,rs,rfl,_⟩:=h
  rfl
 ·obtain⟨v,pa,ra,a,ps,rs,rfl,W,hnd,h7,hrz,ha,k⟩:=h
  have hr1:aK 1 _:=hr.mono (by decide)
  have hr2:aK 2 _:=hr.mono (by decide)
  refine⟨_,am (aU (i:=2) kD.nd rfl (Or.inl rfl) (ar F1 hr (ae (aG aO (pv 0) aj (fun _ _=>rfl)) (ae (ar F2 hr1 (ae (aG aO (pv 0) aj (fun _ _=>rfl)) ag)) (ae (pv 1) ag)))))
   (ay (dm PassesOwn.never rfl (nQ (pv 2)) (br (i:=3) kD.nd rfl (Or.inl rfl))
    (ay (aY (aV oY (eG (dZ hr) (pv 2) (pv 3) (fun _ _=>rfl)) aj (aT _)) cx aX)))),?_⟩
  refine⟨_,rfl,aI (j:=1) (.inr (SqT.of W.tp)) rfl rfl ⟨_,rfl,aI (j:=0) (.inr (SqT.of W.tp)) rfl rfl ⟨pa,ps,rfl,.inr W.pl,by omega,fun q lts H1 s1 q1 A1 e1=>?_⟩⟩⟩
  have W1:=W.same s1
  have hll:lts.length<=255:=by
   have e2:=congrArg List.length e1
   rw [List.length_map] at e2
   have e3:=me ps
   have e4:=jL (show ps.length<=8 by omega)
   omega
  refine⟨_,rfl,ra,q,a,rs,lts,[],rfl,.inr W1.rl,W1.rows,hrz,q1,A1,by rw [e1];exact la hnd,hll,s1 _ _ ha,by simp,fun sd H2 s2 hsd0 d2=>?_⟩
  rw [e1] at d2
  have s02:=s1.trans s2
  have hsd:H sd=none:=s1.free hsd0
  refine⟨_,rfl,sd,_,rfl,d2,fun o=>?_⟩
  have s3:ai H (upd H2 sd (.frz o (.dT (du rs [] (cP ps))))):=ai.upd0 s02 hsd
  have d3:upd H2 sd (.frz o (.dT (du rs [] (cP ps)))) sd=some (.frz o (.dT (du rs [] (cP ps)))):=ak
  generalize upd H2 sd (.frz o (.dT (du rs [] (cP ps))))=H3 at s3 d3 ⊢
  refine uo (a:=sd) (o:=o) (kvs:=du rs [] (cP ps)) (fun i σ H4=>(∃g,σ=[some (.ref v),some (.ref a),some (.ref sd),g])/\ai H3 H4)
   ⟨⟨_,rfl⟩,ai.refl _⟩ (fun i σ H4 _ p=>p.2 _ _ d3) ?_ ?_
  ·rintro i p b σ H4 hp hb ⟨⟨g,rfl⟩,s4⟩
   rw [List.getElem?_map] at hp
   cases hc:(cP ps)[i]? with
   | none=>rw [hc] at hp;cases hp
   | some l =>
    rw [hc] at hp
    cases hp
    have hl:l∈cP ps:=List.mem_of_getElem? hc
    have gd:bZ H4 sd (.ref b) (some (.int (spr rs [] l))):=.inr ⟨_,bp l,b,.inr ⟨o,s4 _ _ d3⟩,rfl,hb,(lh hl).symm⟩
    refine⟨_,rfl,_,rfl,sd,_,rfl,gd,_,_,rfl,rfl,_,rfl,?_⟩
    rw [decide_eq_false (by have:=uw rs l;omega)]
    exact aH ⟨⟨_,rfl⟩,s4⟩
  ·rintro σ H4 ⟨⟨g,rfl⟩,s4⟩
   exact k H4 (s3.trans s4)
noncomputable def mm:Sp:=fun vs H Q _=>∃(v pa ra a:Addr) (ps:List Str) (rs:List (Addr×Row)),vs=[.ref v,.ref a]/\bg H v pa ra ps rs/\Good ps (rs.map (·.2))/\ps.length<=8/\H a=some (.tup [])/\∀(q:Addr) (H':Hp),ai H H'->H' q=some (.lst [])->Q (.ref q) H'
noncomputable abbrev N39:List Str:=["web","roots","places","rows","trees","at","root","tree"]
theorem fT:aL N39 ["web","roots"] (aB (top 39)):=⟨rfl,rfl,rfl,by decide +kernel,rfl,by decide +kernel,by decide +kernel⟩
theorem uf {f:Addr}{fd:FuncData} (F:Fun K "trees_from" "trees_from" (top 39) f fd) (B:Bl mg) (F1:Fn P w K mg base 4 "need_enough" ["web","roots"] lA):aA P w K mg base CX0 5 f fd ["web","roots"] mm:=by
 refine F.ok fT (fun vs H Q E h=>?_) (fun cdv A outer s H vs Q E hr h=>?_)
 ·obtain⟨v,pa,ra,a,ps,rs,rfl,_⟩:=h
  rfl
 ·obtain⟨v,pa,ra,a,ps,rs,rfl,W,G,h8,ha,k⟩:=h
  refine⟨_,am (bN (ar F1 hr (ae (pv 0) (ae (pv 1) ag))))
   (am (dR (pv 0) (dj rfl (n:=2) (bC (br (i:=2) fT.nd rfl (Or.inl rfl)) (bC (br (i:=3) fT.nd rfl (Or.inl rfl)) cX))))
   (am (aU (i:=4) fT.nd rfl (Or.inl rfl) (ba ag))
   (am (dm PassesOwn.never rfl (wX rfl B.enumerate (ae (pv 1) ag)) (dj rfl (n:=2) (bC (br (i:=5) fT.nd rfl (Or.inl rfl)) (bC (br (i:=6) fT.nd rfl (Or.inl rfl)) cX))) cx)
   (ay (aD (pv 4)))))),?_⟩
  have hnd:=mL G.so
  have hrz:rs.length<=60:=by have:=G.rz;simpa using this
  refine⟨_,rfl,_,rfl,v,pa,ra,a,ps,rs,rfl,W,hnd,h8,hrz,ha,fun H1 s1=>?_⟩
  have W1:=W.same s1
  refine⟨_,rfl,v,_,rfl,SqT.of W1.tp,rfl,_,_,rfl,_,_,rfl,rfl,Nat.zero_le _,fun tk htk=>?_⟩
  have s2:=au (o:=.lst []) s1 htk
  have t2:upd H1 tk (.lst []) tk=some (.lst []):=ak
  generalize upd H1 tk (.lst [])=H2 at s2 t2 ⊢
  refine⟨_,rfl,a,_,rfl,SqT.of (s2 _ _ ha),vw (K:=K) (a:=a) (xs:=[]) (fun i σ H3=>ai H2 H3/\σ[4]?=some (some (.ref tk))) ⟨ai.refl _,rfl⟩ (fun i σ H3 _ p=>SqT.of (p.1 _ _ (s2 _ _ ha))) (fun i x σ H3 T hx=>by simp at hx) (fun σ H3 p=>⟨_,p.2,k tk H3 (s2.trans p.1) (p.1 _ _ t2)⟩)⟩
end
theorem uu {K:PySem.W.Frag}{H:Hp}{a b:Addr}{xs ys:List V}{Q:VK} (ha:H a=some (.tup xs)) (hb:H b=some (.tup ys)) (hz:xs.length + ys.length<=sizeLine) (h:∀p H',ai H H'->H' p=some (.tup (xs++ys))->Q (.ref p) H'):iD K (.ref a) (.ref b) H Q :=
 ⟨a,b,xs,ys,rfl,rfl,SqT.of ha,SqT.of hb,hz,fun e=>h b H (ai.refl _) (by subst e;exact hb),fun e=>h a H (ai.refl _) (by subst e;rw [List.append_nil];exact ha),fun p hp=>h p _ (au (ai.refl _) hp) ak⟩
noncomputable def Yd (t:TE) (σ:St) (H:Hp) (f:V->Hp->Prop):Prop:=∀H',ai H H'->∀Q:VK,(∀x H2,ai H' H2->f x H2->Q x H2)->t σ H' Q
noncomputable def Ya (f:V->Hp->Prop) (t:TA) (σ:St) (H:Hp) (n:Nat):Prop:=∀H',ai H H'->∀Q:List V->Hp->Prop,(∀xs H2,ai H' H2->(∀x∈xs,f x H2)->xs.length=n->Q xs H2)->t σ H' Q
noncomputable abbrev Keeps (f:V->Hp->Prop):Prop:=∀x H H',f x H->ai H H'->f x H'
theorem Yd.imp {t:TE}{σ:St}{H:Hp}{f g:V->Hp->Prop} (h:Yd t σ H f) (i:∀x H',f x H'->g x H'):Yd t σ H g:=fun H' s Q k=>h H' s Q fun x H2 s2 hx=>k x H2 s2 (i x H2 hx)
theorem Yd.var {σ:St}{i:Nat}{v:V}{H:Hp}{f:V->Hp->Prop} (h:σ[i]?=some (some v)) (hf:∀H',ai H H'->f v H'):Yd (bz i) σ H f:=fun H' s Q k=>⟨v,h,k v H' (ai.refl _) (hf H' s)⟩
theorem Yd.con {σ:St}{H:Hp}{v:V}{f:V->Hp->Prop} (h:∀H',f v H'):Yd (tC v) σ H f:=fun H' s Q k=>k _ _ (ai.refl _) (h _)
theorem DVs.append {H:Hp}:∀{xs ys:List V}{ds es:List PyData},DVs H xs ds->DVs H ys es->DVs H (xs++ys) (ds++es)
 | _,_,_,_,.nil,h=>h
 | _,_,_,_,.cons a b,h=>.cons a (DVs.append b h)
theorem DVs.rev {H:Hp}:∀{xs:List V}{ds:List PyData},DVs H xs ds->DVs H xs.reverse ds.reverse
 | _,_,.nil=>.nil
 | _,_,.cons a b=>by rw [List.reverse_cons,List.reverse_cons];exact DVs.append (DVs.rev b) (.cons a .nil)
theorem Ya.nil {f:V->Hp->Prop}{σ:St}{H:Hp}:Ya f bx σ H 0:=fun H' s Q k=>k _ _ (ai.refl _) (fun x hx=>(by cases hx)) rfl
theorem Ya.cons {f:V->Hp->Prop} (kf:Keeps f) {te:TE}{t:TA}{σ:St}{H:Hp}{n:Nat} (h:Yd te σ H f) (hs:Ya f t σ H n):Ya f (bQ te t) σ H (n + 1):=fun H' s Q k=>h H' s _ fun x H1 s1 hx=>hs H1 (s.trans s1) _ fun xs H2 s2 hxs hl=>k _ _ (s1.trans s2) (fun y hy=>by
 rcases List.mem_cons.mp hy with e | e
 ·subst e;exact kf _ _ _ hx s2
 ·exact hxs y e) (by simp [hl])
theorem gD {f:V->Hp->Prop} (kf:Keeps f) {t:TA}{g:TG}{u:TS}{D:Ends}{σ:St}{H:Hp}{n:Nat} (h:Ya f t σ H n) (hn:n<=900) (k:∀(p:Addr) (xs:List V) (H':Hp),ai H H'->H' p=some (.lst xs)->(∀x∈xs,f x H')->xs.length=n->H p=none->g (.ref p) σ H' (u D)):kL (iK (fY t) g) u D σ H :=
 h H (ai.refl _) _ fun xs H2 s2 hx hl=>⟨Nat.le_of_lt (fits (by omega)),fun p hp=>k p xs _ (au s2 hp) ak (fun x hm=>kf _ _ _ (hx x hm) (au (ai.refl _) hp)) hl (by
  cases hc:H p with
  | none=>rfl
  | some o=>have:=s2 _ _ hc;rw [hp] at this;cases this)⟩
theorem gG {f:V->Hp->Prop} (kf:Keeps f) {t:TA}{g:TG}{u:TS}{D:Ends}{σ:St}{H:Hp}{n i:Nat}{q:Addr}{ys:List V} (hi:σ[i]?=some (some (.ref q))) (hq:H q=some (.lst ys)) (hy:∀x∈ys,f x H) (h:Ya f t σ H n) (hn:ys.length + n<=900)
  (k:∀(p:Addr) (xs:List V) (H':Hp),ai H H'->H' p=some (.lst xs)->(∀x∈xs,f x H')->xs.length=ys.length + n->H p=none->g (.ref p) σ H' (u D)):kL (iK (tOp pR (bz i) (fY t)) g) u D σ H :=
 ⟨_,hi,h H (ai.refl _) _ fun xs H2 s2 hx hl=>⟨Nat.le_of_lt (fits (by omega)),fun p hp=>by
  have s3:=au (o:=.lst xs) s2 hp
  have h3:upd H2 p (.lst xs) p=some (.lst xs):=ak
  have x3:∀x∈xs,f x (upd H2 p (.lst xs)):=fun x hm=>kf _ _ _ (hx x hm) (au (ai.refl _) hp)
  generalize upd H2 p (.lst xs)=H3 at s3 h3 x3 ⊢
  refine⟨q,p,_,_,rfl,rfl,s3 _ _ hq,h3,Nat.le_of_lt (fits (by omega)),fun r hr=>?_⟩
  have s4:=au (o:=.lst (ys++xs)) (ai.refl H3) hr
  refine k r (ys++xs) _ (s3.trans s4) ak (fun x hm=>?_) (by simp [hl]) ?_
  ·rcases List.mem_append.mp hm with z | z
   ·exact kf _ _ _ (hy x z) (s3.trans s4)
   ·exact kf _ _ _ (x3 x z) s4
  ·cases hc:H r with
   | none=>rfl
   | some o=>have:=s3 _ _ hc;rw [hr] at this;cases this⟩⟩
theorem Pot.same {H H':Hp}{p:Addr} (h:Pot H p) (s:ai H H'):Pot H' p:=h.keep fun o e=>s _ _ e
mutual
theorem DV.kp {H H':Hp}{p:Addr} (k:Kp [p] H H') (hp:Pot H p):∀{x:V}{d:PyData},DV H x d->Dok d->DV H' x d
 | _,_,.non,_=>.non
 | _,_,.bl b,_=>.bl b
 | _,_,.int i,_=>.int i
 | _,_,.str x,_=>.str x
 | _,_,.tup (a:=a) (xs:=xs) e q,hd=>.tup (k _ _ e fun z=>by
   have z:a=p:=by simpa using z
   subst z
   obtain⟨i,j,q,_⟩:=hp
   rw [e] at q;cases q) (DVs.kp k hp q (by cases hd with | tup _ _ h=>exact h))
 | _,_,.lst (a:=a) (xs:=xs) e q,hd=>.lst (k _ _ e fun z=>by
   have z:a=p:=by simpa using z
   subst z
   obtain⟨i,j,q',_⟩:=hp
   rw [e] at q'
   cases q'
   cases hd with
   | lst _ _ _ hn =>
    cases q with
    | cons r1 r =>
     cases r with
     | cons r2 r3 =>
      cases r3
      cases r1
      cases r2
      exact hn _ _ rfl) (DVs.kp k hp q (by cases hd with | lst _ _ h _=>exact h))
theorem DVs.kp {H H':Hp}{p:Addr} (k:Kp [p] H H') (hp:Pot H p):∀{xs:List V}{ds:List PyData},DVs H xs ds->(∀d∈ds,Dok d)->DVs H' xs ds
 | _,_,.nil,_=>.nil
 | _,_,.cons a b,h=>.cons (DV.kp k hp a (h _ List.mem_cons_self)) (DVs.kp k hp b fun d hd=>h d (List.mem_cons_of_mem _ hd))
end
theorem aS {c:Const}{k:Nat}{p:Pos}{es:List Expr}{env:Env}:starEach (.Constant c k p::es) env=(false,eval (.Constant c k p) env)::starEach es env:=rfl
theorem aR {xs:List Expr}{k:Nat}{p:Pos}{es:List Expr}{env:Env}:starEach (.Tuple xs k p::es) env=(false,eval (.Tuple xs k p) env)::starEach es env:=rfl
theorem dJ {xs:List Expr}{p:Pos}{es:List Expr}{env:Env}:starEach (.List xs p::es) env=(false,eval (.List xs p) env)::starEach es env:=rfl
theorem fC {xs:List (Option Expr)}{ys:List Expr}{p:Pos}{es:List Expr}{env:Env}:starEach (.Dict xs ys p::es) env=(false,eval (.Dict xs ys p) env)::starEach es env:=rfl
noncomputable abbrev Dv (d:PyData) (x:V) (H:Hp):Prop:=DV H x d
noncomputable def Yas (t:TA) (σ:St) (H:Hp) (ds:List PyData):Prop:=∀H',ai H H'->∀Q:List V->Hp->Prop,(∀xs H2,ai H' H2->DVs H2 xs ds->Q xs H2)->t σ H' Q
theorem Yas.nil {σ:St}{H:Hp}:Yas bx σ H []:=fun H' s Q k=>k _ _ (ai.refl _) .nil
theorem Yas.cons {te:TE}{t:TA}{σ:St}{H:Hp}{d:PyData}{ds:List PyData} (h:Yd te σ H (Dv d)) (hs:Yas t σ H ds):Yas (bQ te t) σ H (d::ds):=fun H' s Q k=>h H' s _ fun x H1 s1 hx=>hs H1 (s.trans s1) _ fun xs H2 s2 hxs=>k _ _ (s1.trans s2) (.cons (DV.same s2 hx) hxs)
theorem Yd.tupD {t:TA}{σ:St}{H:Hp}{ds:List PyData} (h:Yas t σ H ds) (hn:ds.length<=60):Yd (iH t) σ H (Dv (.tuple ds)):=fun H' s Q k=>h H' s _ fun xs H1 s1 hx=>by
 have:=DVs.len hx
 refine⟨Nat.le_of_lt (fits (by omega)),fun p hp=>?_⟩
 have s2:=au (o:=.tup xs) (ai.refl H1) hp
 exact k _ _ (s1.trans s2) (.tup ak (DVs.same s2 hx))
theorem Yd.lsD {t:TA}{σ:St}{H:Hp}{ds:List PyData} (h:Yas t σ H ds) (hn:ds.length<=60):Yd (fY t) σ H (Dv (.list ds)):=fun H' s Q k=>h H' s _ fun xs H1 s1 hx=>by
 have:=DVs.len hx
 refine⟨Nat.le_of_lt (fits (by omega)),fun p hp=>?_⟩
 have s2:=au (o:=.lst xs) (ai.refl H1) hp
 exact k _ _ (s1.trans s2) (.lst ak (DVs.same s2 hx))
theorem gv {H H':Hp}{p a:Addr} (k:Kp [p] H H') (hp:Pot H p) (h:H a=some (.dK [])):H' a=some (.dK []):=k a _ h fun z=>by
 have z:a=p:=by simpa using z
 subst z
 obtain⟨i,j,q,_⟩:=hp
 rw [h] at q;cases q
theorem aW.kp {x:V}{H H':Hp}{p:Addr} (h:aW x H) (k:Kp [p] H H') (hp:Pot H p):aW x H':=by
 rcases h with ⟨d,a,b,c⟩ | ⟨a,e,ha⟩
 ·exact .inl ⟨d,DV.kp k hp a b,b,c⟩
 ·exact .inr ⟨a,e,gv k hp ha⟩
theorem bF.kp {ps:List Str}{x:V}{H H':Hp}{p:Addr} (h:bF ps x H) (k:Kp [p] H H') (hp:Pot H p):bF ps x H':=by
 rcases h with ⟨d,a,b,c⟩ | ⟨a,e,ha⟩
 ·exact .inl ⟨d,DV.kp k hp a b,b,c⟩
 ·exact .inr ⟨a,e,gv k hp ha⟩
theorem bD.kp {lo hi:Int}{x:V}{H H':Hp}{p:Addr} (h:bD lo hi x H) (k:Kp [p] H H') (hp:Pot H p):bD lo hi x H':=by
 rcases h with ⟨d,a,b,c⟩ | ⟨a,e,ha⟩
 ·exact .inl ⟨d,DV.kp k hp a b,b,c⟩
 ·exact .inr ⟨a,e,gv k hp ha⟩
theorem cI {t:TE}{σ:St}{H:Hp}{d:PyData} (h:Yd t σ H (Dv d)) (ok:Dok d) (n:dw d=false):Yd t σ H aW:=h.imp fun x H' z=>.inl ⟨d,z,ok,n⟩
theorem dU {ps:List Str}{t:TE}{σ:St}{H:Hp}{d:PyData} (h:Yd t σ H (Dv d)) (ok:Dok d) (n:bj d ps=false):Yd t σ H (bF ps):=h.imp fun x H' z=>.inl ⟨d,z,ok,n⟩
theorem dE {lo hi:Int}{t:TE}{σ:St}{H:Hp}{d:PyData} (h:Yd t σ H (Dv d)) (ok:Dok d) (n:∀i,d=.int i->¬ (lo<=i/\i<=hi)):Yd t σ H (bD lo hi):=h.imp fun x H' z=>.inl ⟨d,z,ok,n⟩
theorem gw {σ:St}{H:Hp}{f:V->Hp->Prop} (h:∀p H',H' p=some (.dK [])->f (.ref p) H'):Yd iw σ H f:=fun H' s Q k p hp=>k _ _ (au (ai.refl _) hp) (h _ _ ak)
theorem Yd.i {σ:St}{H:Hp} (i:Int):Yd (tC (.int i)) σ H (Dv (.int i)):=Yd.con fun _=>.int i
theorem Yd.s {σ:St}{H:Hp} (x:Str):Yd (tC (.str x)) σ H (Dv (.str x)):=Yd.con fun _=>.str x
theorem Yd.b {σ:St}{H:Hp} (b:Bool):Yd (tC (.bl b)) σ H (Dv (.bool b)):=Yd.con fun _=>.bl b
theorem Yd.n {σ:St}{H:Hp}:Yd (tC .non) σ H (Dv .none):=Yd.con fun _=>.non
theorem pM {op:UnaryOp}{a:Expr}{p:Pos}{es:List Expr}{env:Env}:starEach (.UnaryOp op a p::es) env=(false,eval (.UnaryOp op a p) env)::starEach es env:=rfl
theorem fv {a:Expr}{op:Operator}{b:Expr}{p:Pos}{es:List Expr}{env:Env}:starEach (.BinOp a op b p::es) env=(false,eval (.BinOp a op b p) env)::starEach es env:=rfl
theorem kA {a b:Expr}{p:Pos}{es:List Expr}{env:Env}:starEach (.Subscript a b p::es) env=(false,eval (.Subscript a b p) env)::starEach es env:=rfl
theorem bq {x:Str}{p:Pos}{es:List Expr}{env:Env}:starEach (.Name x p::es) env=(false,eval (.Name x p) env)::starEach es env:=rfl
theorem Yd.neg {t:TE}{σ:St}{H:Hp}{i:Int} (h:Yd t σ H (Dv (.int i))):Yd (tUn (rU fun i=>.int (-i)) t) σ H (Dv (.int (-i))):=fun H' s Q k=>h H' s _ fun x H1 s1 hx=>by
 cases hx
 exact⟨i,rfl,k _ _ s1 (.int _)⟩
theorem Yd.pow {σ:St}{H:Hp} (i j:Int) (h:kh i j):Yd (tOp (rI kh fun i j=>.int (i ^ j.toNat)) (tC (.int i)) (tC (.int j))) σ H (Dv (.int (i ^ j.toNat))):=fun H' s Q k=>⟨i,j,rfl,rfl,h,k _ _ (ai.refl _) (.int _)⟩
section
variable {P:Program}{w:World}{K:PySem.W.Frag}{mg:Str->Option Value}{base:Heap}
noncomputable def mX:Sp:=fun vs H Q _=>∃(p:Addr),vs=[.ref p]/\Pot H p/\∀(x:V) (H':Hp),Pot H' p->Kp [p] H H'->bD 0 6 x H'->Q x H'
noncomputable abbrev N64:List Str:=["_law_pot_here","_law_some"]
theorem pf:aL N64 ["_law_pot_here"] (aB (top 64)):=⟨rfl,rfl,rfl,by decide +kernel,rfl,by decide +kernel,by decide +kernel⟩
theorem bD.keeps {lo hi:Int}:Keeps (bD lo hi):=fun x H H' h s=>h.same s
theorem bF.keeps {ps:List Str}:Keeps (bF ps):=fun x H H' h s=>h.same s
theorem aW.keeps:Keeps aW:=fun x H H' h s=>h.same s
theorem qu {f:Addr}{fd:FuncData} (F:Fun K "_law_no_number" "_law_no_number" (top 64) f fd) (B:Bl mg) (Ft:Fn P w K mg base 1 "_law_take" ["_law_pot_here","_law_many"] cK):aA P w K mg base CX0 2 f fd ["_law_pot_here"] mX:=by
 refine F.ok pf (fun vs H Q E h=>?_) (fun cdv A outer s H vs Q E hr h=>?_)
 ·obtain⟨p,rfl,_⟩:=h
  rfl
 ·obtain⟨p,rfl,hp,k⟩:=h
  refine' ⟨_,am ?s1 ?r1,?main⟩
  case s1 =>
   refine' aU (i:=1) ?nd ?x ?y ?z ?hs ?hf
   case nd=>exact pf.nd
   case x=>exact rfl
   case y=>exact Or.inl rfl
   case hf=>first | exact .inl rfl | exact .inr rfl
   case' z=>refine' ba ?l0
   case' l0=>refine' ae ?i0 ?l1 ?h0
   case i0=>exact eI
   case h0=>exact aS
   case' l1=>refine' ae ?i1 ?l2 ?h1
   case i1=>exact gI gC aj
   case h1=>exact pM
   case' l2=>refine' ae ?i2 ?l3 ?h2
   case i2=>exact aj
   case h2=>exact aS
   case' l3=>refine' ae ?i3 ?l4 ?h3
   case i3=>exact bW
   case h3=>exact aS
   case' l4=>refine' ae ?i4 ?l5 ?h4
   case i4=>exact bW
   case h4=>exact aS
   case' l5=>refine' ae ?i5 ?l6 ?h5
   case i5=>exact aM
   case h5=>exact aS
   case' l6=>refine' ae ?i6 ?l7 ?h6
   case i6=>exact aM
   case h6=>exact aS
   case' l7=>refine' ae ?i7 ?l8 ?h7
   case i7=>exact aE (ae aj ag aS)
   case h7=>exact aR
   case' l8=>refine' ae ?i8 ?l9 ?h8
   case i8=>exact ba (ae aj ag aS)
   case h8=>exact dJ
   case' l9=>refine' ae ?i9 ?l10 ?h9
   case i9=>exact fb
   case h9=>exact fC
   case' l10=>refine' ae ?i10 ?l11 ?h10
   case i10=>exact aF jS aj aj
   case h10=>exact fv
   case' l11=>refine' ae ?i11 ?l12 ?h11
   case i11=>exact gI gC (aF jS aj aj)
   case h11=>exact pM
   case l12=>exact ag
   case hs=>kernel_rfl
  case r1=>exact ay (aD (aG aO (pv 1) (ar Ft hr (ae (pv 0) (ae (aC bB rfl B.len PySem.boot_len (ae (pv 1) ag)) ag))) (fun _ _=>rfl)))
  case main =>
   have a12:Ya (bD 0 6) bx [some (.ref p),none] H 0:=.nil
   have a11:=Ya.cons bD.keeps (dE (lo:=0) (hi:=6) (Yd.neg (Yd.pow 10 29 ⟨by decide,by decide,by decide⟩)) (.int _) (fun i e=>by first | (cases e;done) | (cases e;decide))) a12
   have a10:=Ya.cons bD.keeps (dE (lo:=0) (hi:=6) (Yd.pow 10 29 ⟨by decide,by decide,by decide⟩) (.int _) (fun i e=>by first | (cases e;done) | (cases e;decide))) a11
   have a9:=Ya.cons bD.keeps (gw (f:=bD 0 6) fun p H z=>.inr ⟨p,rfl,z⟩) a10
   have a8:=Ya.cons bD.keeps (dE (lo:=0) (hi:=6) (Yd.lsD (.cons (Yd.i 1) .nil) (by decide)) (.lst _ (by decide) (by simp;exact .int _) (by simp)) (fun i e=>by first | (cases e;done) | (cases e;decide))) a9
   have a7:=Ya.cons bD.keeps (dE (lo:=0) (hi:=6) (Yd.tupD (.cons (Yd.i 1) .nil) (by decide)) (.tup _ (by decide) (by simp;exact .int _)) (fun i e=>by first | (cases e;done) | (cases e;decide))) a8
   have a6:=Ya.cons bD.keeps (dE (lo:=0) (hi:=6) (Yd.s (Str.ofString "")) (.str _ ⟨by decide +kernel,by decide +kernel⟩) (fun i e=>by first | (cases e;done) | (cases e;decide))) a7
   have a5:=Ya.cons bD.keeps (dE (lo:=0) (hi:=6) (Yd.s (Str.ofString "1")) (.str _ ⟨by decide +kernel,by decide +kernel⟩) (fun i e=>by first | (cases e;done) | (cases e;decide))) a6
   have a4:=Ya.cons bD.keeps (dE (lo:=0) (hi:=6) (Yd.b false) (.bl _) (fun i e=>by first | (cases e;done) | (cases e;decide))) a5
   have a3:=Ya.cons bD.keeps (dE (lo:=0) (hi:=6) (Yd.b true) (.bl _) (fun i e=>by first | (cases e;done) | (cases e;decide))) a4
   have a2:=Ya.cons bD.keeps (dE (lo:=0) (hi:=6) (Yd.i 7) (.int _) (fun i e=>by first | (cases e;done) | (cases e;decide))) a3
   have a1:=Ya.cons bD.keeps (dE (lo:=0) (hi:=6) (Yd.neg (Yd.i 1)) (.int _) (fun i e=>by first | (cases e;done) | (cases e;decide))) a2
   have a0:=Ya.cons bD.keeps (dE (lo:=0) (hi:=6) Yd.n .non (fun i e=>by first | (cases e;done) | (cases e;decide))) a1
   refine gD bD.keeps a0 (by decide) fun q xs H1 s1 h1 t1 l1 n1=>?_
   have nqp:q≠p:=fun z=>by obtain⟨i,j,e,_⟩:=hp;rw [<- z,n1] at e;cases e
   have P1:=hp.same s1
   refine⟨_,rfl,_,rfl,_,rfl,q,_,rfl,.inl (SqL.of h1),p,_,rfl,P1,by omega,by omega,fun i H2 b0 b1 P2 K2=>?_⟩
   have hi:i.toNat < xs.length:=by omega
   refine aI (j:=i.toNat) (.inl (SqL.of (K2.at nqp h1))) (by omega) (List.getElem?_eq_getElem hi) ?_
   exact k _ H2 P2 ((Kp.same s1).trans K2) ((t1 _ (List.getElem_mem hi)).kp K2 P1)
end
noncomputable abbrev fj (r:Addr×Row):PyData:=.tuple [.str r.2.1,.str r.2.2.1,.str r.2.2.2]
noncomputable abbrev j0 (ps:List Str) (rs:List (Addr×Row)):PyData:=.tuple [.tuple (ps.map PyData.str),.tuple (rs.map fj)]
theorem jD {H:Hp}:∀{rs:List (Addr×Row)},(∀r∈rs,eu H r.1 r.2)->DVs H (bL rs) (rs.map fj)
 | [],_=>.nil
 | r::t,h=>.cons (.tup (h r List.mem_cons_self) (.cons (.str _) (.cons (.str _) (.cons (.str _) .nil)))) (jD fun x hx=>h x (List.mem_cons_of_mem _ hx))
theorem bg.dv {H:Hp}{v pa ra:Addr}{ps:List Str}{rs:List (Addr×Row)} (W:bg H v pa ra ps rs):DV H (.ref v) (j0 ps rs):=.tup W.tp (.cons (.tup W.pl (DVs.strs _)) (.cons (.tup W.rl (jD W.rows)) .nil))
theorem cU {x:Str} (h:aP x):Dok (.str x):=.str x ⟨by have:=h.hi;omega,h.ascii⟩
theorem gh {ps:List Str} (h:∀x∈ps,aP x) (hl:ps.length<=60):Dok (.tuple (ps.map PyData.str)):=.tup _ (by simpa using hl) fun d hd=>by
 obtain⟨x,hx,rfl⟩:=List.mem_map.mp hd
 exact cU (h x hx)
theorem jq {ps:List Str}{rs:List (Addr×Row)} (G:Good ps (rs.map (·.2))):∀d∈rs.map fj,Dok d:=fun d hd=>by
 obtain⟨r,hr,rfl⟩:=List.mem_map.mp hd
 obtain⟨h1,h2,h3,_⟩:=G.rn r.2 (List.mem_map_of_mem hr)
 refine .tup _ (by simp) fun d hd=>?_
 simp only [List.mem_cons,List.not_mem_nil,or_false] at hd
 rcases hd with rfl | rfl | rfl
 ·exact cU h1
 ·exact cU (G.nm _ h2)
 ·exact cU (G.nm _ h3)
theorem wn {ps:List Str}{rs:List (Addr×Row)} (G:Good ps (rs.map (·.2))) (hl:ps.length<=60):Dok (j0 ps rs):=.tup _ (by simp) fun d hd=>by
 simp only [List.mem_cons,List.not_mem_nil,or_false] at hd
 rcases hd with rfl | rfl
 ·exact gh G.nm hl
 ·exact .tup _ (by have:=G.rz;simpa using this) (jq G)
theorem dk {ps:List Str}{x:Str} (G:∀y∈ps,aP y) (h:¬ aP x):bj (.str x) ps=false:=decide_eq_false fun z=>h (G x z)
theorem Yd.addS {t:TE}{σ:St}{H:Hp}{x:Str} (h:Yd t σ H (Dv (.str x))) (y:Str) (hl:x.length + y.length<=1000):Yd (tOp (fun x y H Q=>∃i j,x=V.str i/\y=V.str j/\i.length + j.length<=sizeLine/\Q (V.str (i++j)) H) t (tC (.str y))) σ H (Dv (.str (x++y))):=fun H' s Q k=>h H' s _ fun z H1 s1 hz=>by
 cases hz
 exact⟨x,y,rfl,rfl,Nat.le_of_lt (fits hl),k _ _ s1 (.str _)⟩
theorem Yd.ix00 {K:PySem.W.Frag}{σ:St}{H:Hp}{i:Nat}{v pa ra:Addr}{p0:Str}{r:List V} (hi:σ[i]?=some (some (.ref v))) (h1:H v=some (.tup [.ref pa,.ref ra])) (h2:H pa=some (.tup (.str p0::r))):Yd (tOp (rIx K) (tOp (rIx K) (bz i) (tC (.int 0))) (tC (.int 0))) σ H (Dv (.str p0)):=fun H' s Q k =>
 ⟨_,hi,aI (j:=0) (.inr (SqT.of (s _ _ h1))) rfl rfl (aI (j:=0) (.inr (SqT.of (s _ _ h2))) rfl rfl (k _ _ (ai.refl _) (.str _)))⟩
section
variable {P:Program}{w:World}{K:PySem.W.Frag}{mg:Str->Option Value}{base:Heap}
noncomputable def lI:Sp:=fun vs H Q _=>∃(p v pa ra:Addr) (ps:List Str) (rs:List (Addr×Row)),vs=[.ref p,.ref v]/\Pot H p/\bg H v pa ra ps rs/\Good ps (rs.map (·.2))/\ps.length<=8/\(∀x∈ps,x.length<=7)/\∀(x:V) (H':Hp),Pot H' p->Kp [p] H H'->bF ps x H'->Q x H'
noncomputable abbrev N63:List Str:=["_law_pot_here","_law_web_here","_law_some"]
theorem pF:aL N63 ["_law_pot_here","_law_web_here"] (aB (top 63)):=⟨rfl,rfl,rfl,by decide +kernel,rfl,by decide +kernel,by decide +kernel⟩
theorem qS {f:Addr}{fd:FuncData} (F:Fun K "_law_no_place" "_law_no_place" (top 63) f fd) (B:Bl mg) (Ft:Fn P w K mg base 1 "_law_take" ["_law_pot_here","_law_many"] cK):aA P w K mg base CX0 2 f fd ["_law_pot_here","_law_web_here"] lI:=by
 refine F.ok pF (fun vs H Q E h=>?_) (fun cdv A outer s H vs Q E hr h=>?_)
 ·obtain⟨p,v,pa,ra,ps,rs,rfl,_⟩:=h
  rfl
 ·obtain⟨p,v,pa,ra,ps,rs,rfl,hp,W,G,h8,h7,k⟩:=h
  refine' ⟨_,am ?s1 ?r1,?main⟩
  case s1 =>
   refine' aU (i:=2) ?nd ?x ?y ?z ?hs ?hf
   case nd=>exact pF.nd
   case x=>exact rfl
   case y=>exact Or.inl rfl
   case hf=>first | exact .inl rfl | exact .inr rfl
   case' z=>refine' ba ?l0
   case' l0=>refine' ae ?i0 ?l1 ?h0
   case i0=>exact eI
   case h0=>exact aS
   case' l1=>refine' ae ?i1 ?l2 ?h1
   case i1=>exact aj
   case h1=>exact aS
   case' l2=>refine' ae ?i2 ?l3 ?h2
   case i2=>exact bW
   case h2=>exact aS
   case' l3=>refine' ae ?i3 ?l4 ?h3
   case i3=>exact aM
   case h3=>exact aS
   case' l4=>refine' ae ?i4 ?l5 ?h4
   case i4=>exact aM
   case h4=>exact aS
   case' l5=>refine' ae ?i5 ?l6 ?h5
   case i5=>exact aM
   case h5=>exact aS
   case' l6=>refine' ae ?i6 ?l7 ?h6
   case i6=>exact aE (ae (aG aO (aG aO (pv 1) aj (fun _ _=>rfl)) aj (fun _ _=>rfl)) ag kA)
   case h6=>exact aR
   case' l7=>refine' ae ?i7 ?l8 ?h7
   case i7=>exact ba (ae (aG aO (aG aO (pv 1) aj (fun _ _=>rfl)) aj (fun _ _=>rfl)) ag kA)
   case h7=>exact dJ
   case' l8=>refine' ae ?i8 ?l9 ?h8
   case i8=>exact fb
   case h8=>exact fC
   case' l9=>refine' ae ?i9 ?l10 ?h9
   case i9=>exact aF eD (aG aO (aG aO (pv 1) aj (fun _ _=>rfl)) aj (fun _ _=>rfl)) aM
   case h9=>exact fv
   case' l10=>refine' ae ?i10 ?l11 ?h10
   case i10=>exact pv 1
   case h10=>exact bq
   case l11=>exact ag
   case hs=>kernel_rfl
  case r1=>exact ay (aD (aG aO (pv 2) (ar Ft hr (ae (pv 0) (ae (aC bB rfl B.len PySem.boot_len (ae (pv 2) ag)) ag))) (fun _ _=>rfl)))
  case main =>
   obtain⟨p0,pr,hps⟩:∃p0 pr,ps=p0::pr:=by
    cases ps with
    | nil=>exact absurd rfl G.ne
    | cons a b=>exact⟨a,b,rfl⟩
   have hp0:aP p0:=G.nm p0 (by rw [hps];simp)
   have hpa:H pa=some (.tup (.str p0::pr.map V.str)):=by rw [W.pl,hps];rfl
   have n1:bj (.str (Str.ofString "")) ps=false:=dk G.nm fun z=>by have:=z.lo;revert this;decide +kernel
   have n2:bj (.str (Str.ofString "nowheres")) ps=false:=decide_eq_false fun z=>by have:=h7 _ z;revert this;decide +kernel
   have n3:bj (.str (Str.ofString "A")) ps=false:=dk G.nm fun z=>by have:=z.az 65 (by decide +kernel);revert this;decide
   have n4:bj (.str (p0++Str.ofString "~")) ps=false:=dk G.nm fun z=>by
    have:=z.az 126 (by rw [Str.cps_append,Array.toList_append];exact List.mem_append_right _ (by decide +kernel))
    revert this;decide
   have hl0:=hp0.hi
   have kp:Dok (.str p0):=cU hp0
   have kw:=wn G (by omega)
   have kt:Dok (.str (p0++Str.ofString "~")):=.str _ ⟨by rw [Str.length_append,show (Str.ofString "~").length=1 by decide +kernel];omega,by
    have:=hp0.ascii
    rw [Str.cps_append,Array.all_append,this]
    decide +kernel⟩
   have yp:Yd (tOp (rIx (be CX0 P w K mg base N63 (Str.ofString "_law_no_place") (aB (top 63)) f cdv A outer s H E).nox.K) (tOp (rIx (be CX0 P w K mg base N63 (Str.ofString "_law_no_place") (aB (top 63)) f cdv A outer s H E).nox.K) (bz 1) (tC (.int 0))) (tC (.int 0))) [some (.ref p),some (.ref v),none] H (Dv (.str p0)):=Yd.ix00 rfl W.tp hpa
   have yw:Yd (bz 1) [some (.ref p),some (.ref v),none] H (Dv (j0 ps rs)):=Yd.var rfl fun H' s=>(W.same s).dv
   have a11:Ya (bF ps) bx [some (.ref p),some (.ref v),none] H 0:=.nil
   have a10:=Ya.cons bF.keeps (dU (ps:=ps) yw kw rfl) a11
   have a9:=Ya.cons bF.keeps (dU (ps:=ps) (Yd.addS yp (Str.ofString "~") (by rw [show (Str.ofString "~").length=1 by decide +kernel];omega)) kt n4) a10
   have a8:=Ya.cons bF.keeps (gw (f:=bF ps) fun p H z=>.inr ⟨p,rfl,z⟩) a9
   have a7:=Ya.cons bF.keeps (dU (ps:=ps) (Yd.lsD (.cons yp .nil) (by simp)) (.lst _ (by simp) (by simp;exact kp) (by simp)) rfl) a8
   have a6:=Ya.cons bF.keeps (dU (ps:=ps) (Yd.tupD (.cons yp .nil) (by simp)) (.tup _ (by simp) (by simp;exact kp)) rfl) a7
   have a5:=Ya.cons bF.keeps (dU (ps:=ps) (Yd.s (Str.ofString "A")) (.str _ ⟨by decide +kernel,by decide +kernel⟩) n3) a6
   have a4:=Ya.cons bF.keeps (dU (ps:=ps) (Yd.s (Str.ofString "nowheres")) (.str _ ⟨by decide +kernel,by decide +kernel⟩) n2) a5
   have a3:=Ya.cons bF.keeps (dU (ps:=ps) (Yd.s (Str.ofString "")) (.str _ ⟨by decide +kernel,by decide +kernel⟩) n1) a4
   have a2:=Ya.cons bF.keeps (dU (ps:=ps) (Yd.b true) (.bl _) rfl) a3
   have a1:=Ya.cons bF.keeps (dU (ps:=ps) (Yd.i 0) (.int _) rfl) a2
   have a0:=Ya.cons bF.keeps (dU (ps:=ps) Yd.n .non rfl) a1
   refine gD bF.keeps a0 (by decide) fun q xs H1 s1 h1 t1 l1 n1=>?_
   have nqp:q≠p:=fun z=>by obtain⟨i,j,e,_⟩:=hp;rw [<- z,n1] at e;cases e
   have P1:=hp.same s1
   refine⟨_,rfl,_,rfl,_,rfl,q,_,rfl,.inl (SqL.of h1),p,_,rfl,P1,by omega,by omega,fun i H2 b0 b1 P2 K2=>?_⟩
   have hi:i.toNat < xs.length:=by omega
   refine aI (j:=i.toNat) (.inl (SqL.of (K2.at nqp h1))) (by omega) (List.getElem?_eq_getElem hi) ?_
   exact k _ H2 P2 ((Kp.same s1).trans K2) ((t1 _ (List.getElem_mem hi)).kp K2 P1)
end
theorem wb1 {a b:PyData} (h:ck a=false):dw (.tuple [a,b])=false:=by
 show (ck a && _)=false
 rw [h];rfl
theorem wb2 {a b:PyData} (h:(cB a).isEmpty=true):dw (.tuple [a,b])=false:=by
 show (ck a && (!(cB a).isEmpty && _))=false
 rw [h];simp
theorem wb3 {a b:PyData} (h:gF b=false):dw (.tuple [a,b])=false:=by
 show (ck a && (!(cB a).isEmpty && (gF b && _)))=false
 rw [h];simp
theorem wb4 {a:PyData}{ds:List PyData}{d:PyData} (hd:d∈ds) (h:bU (dq (cB a)) d=false):dw (.tuple [a,.tuple ds])=false:=by
 show (ck a && (!(cB a).isEmpty && (gF (.tuple ds) && (ds.all (bU (dq (cB a))) && _))))=false
 have:ds.all (bU (dq (cB a)))=false:=by
  rw [List.all_eq_false]
  exact⟨d,hd,by rw [h];simp⟩
 rw [this];simp
theorem so1 {ds:List PyData}{d:PyData} (hd:d∈ds) (h:bI d=false):ck (.tuple ds)=false:=by
 show (ds.all bI && _)=false
 have:ds.all bI=false:=by
  rw [List.all_eq_false]
  exact⟨d,hd,by rw [h];simp⟩
 rw [this];rfl
theorem so2 {ss:List Str} (h:¬ ss.Pairwise nlt):ck (.tuple (ss.map PyData.str))=false:=by
 show ((ss.map PyData.str).all bI && cu (dq (ss.map PyData.str)))=false
 rw [gm,jI h];simp
theorem c9:Dok (.tuple []):=.tup _ (by simp) (by simp)
theorem bM {a:PyData} (h:Dok a):Dok (.tuple [a]):=.tup _ (by simp) (by simpa using h)
theorem cA {a b:PyData} (h:Dok a) (g:Dok b):Dok (.tuple [a,b]):=.tup _ (by simp) (by simp;exact⟨h,g⟩)
theorem dr {a b c:PyData} (h:Dok a) (g:Dok b) (i:Dok c):Dok (.tuple [a,b,c]):=.tup _ (by simp) (by simp;exact⟨h,g,i⟩)
theorem df {x:Str} (h1:x.length<=100) (h2:x.cps.all (· < 128)=true):Dok (.str x):=.str x ⟨h1,h2⟩
theorem vT {ps:List Str} (h:ps.Pairwise nlt) (h2:1 < ps.length):¬ ps.reverse.Pairwise nlt:=fun z=>by
 rw [List.pairwise_reverse] at z
 match ps,h2 with
 | a::b::r,_ =>
  have h3:=(List.pairwise_cons.mp h).1 b (by simp)
  have h4:=(List.pairwise_cons.mp z).1 b (by simp)
  exact List.lt_irrefl _ (List.lt_trans (show a.cps.toList < b.cps.toList from h3) h4)
theorem jv {ps:List Str}{x:Str} (h:x∈ps):¬ (ps++[x]).Pairwise nlt:=fun z=>by
 have:=(List.pairwise_append.mp z).2.2 x h x (by simp)
 exact List.lt_irrefl _ (show x.cps.toList < x.cps.toList from this)
structure Cn (σ:St) (H:Hp) (pa ra:Addr) (ps:List Str) (rs:List (Addr×Row)) (p0:Str):Prop where
 s2:σ[2]?=some (some (.ref pa))
 s3:σ[3]?=some (some (.ref ra))
 s4:σ[4]?=some (some (.str p0))
 h2:H pa=some (.tup (ps.map V.str))
 h3:H ra=some (.tup (bL rs))
 rw:∀r∈rs,eu H r.1 r.2
section
variable {σ:St}{H:Hp}{pa ra:Addr}{ps:List Str}{rs:List (Addr×Row)}{p0:Str}
theorem Cn.P (c:Cn σ H pa ra ps rs p0):Yd (bz 2) σ H (Dv (.tuple (ps.map PyData.str))):=Yd.var c.s2 fun H' s=>.tup (s _ _ c.h2) (DVs.strs _)
theorem Cn.R (c:Cn σ H pa ra ps rs p0):Yd (bz 3) σ H (Dv (.tuple (rs.map fj))):=Yd.var c.s3 fun H' s=>.tup (s _ _ c.h3) (jD fun r hr=>s _ _ (c.rw r hr))
theorem Cn.F (c:Cn σ H pa ra ps rs p0):Yd (bz 4) σ H (Dv (.str p0)):=Yd.var c.s4 fun H' s=>.str _
theorem Yd.lsO {K:PySem.W.Frag}{te:TE}{ds:List PyData} (h:Yd te σ H (Dv (.tuple ds))):Yd (tCB (fun xs H Q=>∃p ys,xs=[.ref p]/\(SqL K H p ys\/SqT K H p ys)/\∀l,H l=none->Q (.ref l) (upd H l (.lst ys))) (bQ te bx)) σ H (Dv (.list ds)):=fun H' s Q k=>h H' s _ fun x H1 s1 hx=>by
 cases hx with
 | @tup a xs _ e q =>
  refine⟨a,_,rfl,.inr (SqT.of e),fun l hl=>?_⟩
  have s2:=au (o:=.lst xs) (ai.refl H1) hl
  exact k _ _ (s1.trans s2) (.lst ak (DVs.same s2 q))
theorem Yd.catD {K:PySem.W.Frag}{ta tb:TE}{ds es:List PyData} (ha:Yd ta σ H (Dv (.tuple ds))) (hb:Yd tb σ H (Dv (.tuple es))) (hz:ds.length + es.length<=900):Yd (tOp (iD K) ta tb) σ H (Dv (.tuple (ds++es))):=fun H' s Q k=>ha H' s _ fun x H1 s1 hx=>hb H1 (s.trans s1) _ fun y H2 s2 hy=>by
 cases hx with
 | @tup a xs _ e q =>
  cases hy with
  | @tup b ys _ e' q' =>
   have l1:=DVs.len q
   have l2:=DVs.len q'
   exact uu (s2 _ _ e) e' (Nat.le_of_lt (fits (by omega))) fun r H3 s3 hr=>k _ _ (s1.trans (s2.trans s3)) (.tup hr (DVs.append (DVs.same (s2.trans s3) q) (DVs.same s3 q')))
end
inductive EV (H:Hp):V->Option PyData->Prop
 | da {x:V}{d:PyData}:DV H x d->Dok d->EV H x (some d)
 | di {a:Addr}:H a=some (.dK [])->EV H (.ref a) none
inductive EVs (H:Hp):List V->List (Option PyData)->Prop
 | nil:EVs H [] []
 | cons {x:V}{xs:List V}{e:Option PyData}{es:List (Option PyData)}:EV H x e->EVs H xs es->EVs H (x::xs) (e::es)
theorem EV.same {H H':Hp}{x:V}{e:Option PyData} (h:EV H x e) (s:ai H H'):EV H' x e:=by
 cases h with
 | da a b=>exact .da (DV.same s a) b
 | di a=>exact .di (s _ _ a)
theorem EVs.same {H H':Hp} (s:ai H H'):∀{xs:List V}{es:List (Option PyData)},EVs H xs es->EVs H' xs es
 | _,_,.nil=>.nil
 | _,_,.cons a b=>.cons (a.same s) (EVs.same s b)
theorem EV.kp {H H':Hp}{p:Addr} (k:Kp [p] H H') (hp:Pot H p) {x:V}{e:Option PyData} (h:EV H x e):EV H' x e:=by
 cases h with
 | da a b=>exact .da (DV.kp k hp a b) b
 | di a=>exact .di (gv k hp a)
theorem EVs.kp {H H':Hp}{p:Addr} (k:Kp [p] H H') (hp:Pot H p):∀{xs:List V}{es:List (Option PyData)},EVs H xs es->EVs H' xs es
 | _,_,.nil=>.nil
 | _,_,.cons a b=>.cons (EV.kp k hp a) (EVs.kp k hp b)
theorem EVs.len {H:Hp}:∀{xs:List V}{es:List (Option PyData)},EVs H xs es->xs.length=es.length
 | _,_,.nil=>rfl
 | _,_,.cons _ b=>by rw [List.length_cons,List.length_cons,EVs.len b]
theorem EVs.at {H:Hp}:∀{xs:List V}{es:List (Option PyData)},EVs H xs es->∀{i:Nat}{x:V},xs[i]?=some x->∃e,es[i]?=some e/\EV H x e
 | _,_,.nil,i,x,h=>by simp at h
 | _,_,.cons a b,0,x,h=>by cases h;exact⟨_,rfl,a⟩
 | _,_,.cons a b,i + 1,x,h=>EVs.at b (i:=i) (by simpa using h)
theorem EVs.append {H:Hp}:∀{xs ys:List V}{ds es:List (Option PyData)},EVs H xs ds->EVs H ys es->EVs H (xs++ys) (ds++es)
 | _,_,_,_,.nil,h=>h
 | _,_,_,_,.cons a b,h=>.cons a (EVs.append b h)
theorem EVs.strs {H:Hp}:∀{ss:List Str},(∀x∈ss,okS x)->EVs H (ss.map V.str) (ss.map fun x=>some (.str x))
 | [],_=>.nil
 | s::r,h=>.cons (.da (.str s) (.str s (h s List.mem_cons_self))) (EVs.strs fun x hx=>h x (List.mem_cons_of_mem _ hx))
theorem EVs.of {H:Hp}:∀{xs:List V}{ds:List PyData},DVs H xs ds->(∀d∈ds,Dok d)->EVs H xs (ds.map some)
 | _,_,.nil,_=>.nil
 | _,_,.cons a b,h=>.cons (.da a (h _ List.mem_cons_self)) (EVs.of b fun d hd=>h d (List.mem_cons_of_mem _ hd))
theorem EVs.txt {H:Hp}:∀{xs:List V}{ss:List Str},EVs H xs (ss.map fun x=>some (PyData.str x))->xs=ss.map V.str
 | _,[],.nil=>rfl
 | _,s::r,.cons a b=>by
  cases a with
  | da a _=>cases a;rw [EVs.txt b];rfl
noncomputable def ce:Option PyData->Bool
 | some d=>bI d
 | none=>false
noncomputable def cm (e:Option PyData) (ss:List Str):Bool:=match e with | some d=>bj d ss | none=>false
theorem md {es:List (Option PyData)}:es.all ce=true->∃ss:List Str,es=(ss.map fun x=>some (PyData.str x))/\∀x∈ss,aP x:=by
 induction es with
 | nil=>intro _;exact⟨[],rfl,by simp⟩
 | cons d r ih =>
  intro h
  rw [List.all_cons,Bool.and_eq_true] at h
  cases d with
  | none=>cases h.1
  | some d =>
   obtain⟨s,rfl,hs⟩:=jb (show bI d=true from h.1)
   obtain⟨ss,rfl,hss⟩:=ih h.2
   exact⟨s::ss,rfl,fun x hx=>by
    rcases List.mem_cons.mp hx with e | e
    ·rw [e];exact hs
    ·exact hss x e⟩
inductive TV (H:Hp):V->Option (List (Option PyData))->Prop
 | no {x:V}{d:PyData}:DV H x d->Dok d->(∀ds,d≠.tuple ds)->TV H x none
 | di {a:Addr}:H a=some (.dK [])->TV H (.ref a) none
 | tu {a:Addr}{vs:List V}{es:List (Option PyData)}:H a=some (.tup vs)->EVs H vs es->es.length<=60->TV H (.ref a) (some es)
theorem TV.same {H H':Hp}{x:V}{t:Option (List (Option PyData))} (h:TV H x t) (s:ai H H'):TV H' x t:=by
 cases h with
 | no a b c=>exact .no (DV.same s a) b c
 | di a=>exact .di (s _ _ a)
 | tu a b c=>exact .tu (s _ _ a) (EVs.same s b) c
theorem TV.kp {H H':Hp}{p:Addr} (k:Kp [p] H H') (hp:Pot H p) {x:V}{t:Option (List (Option PyData))} (h:TV H x t):TV H' x t:=by
 cases h with
 | no a b c=>exact .no (DV.kp k hp a b) b c
 | di a=>exact .di (gv k hp a)
 | tu a b c=>exact .tu (k.tup hp a) (EVs.kp k hp b) c
theorem TV.of {H:Hp}{x:V}{d:PyData} (h:DV H x d) (ok:Dok d):∃t,TV H x t/\(∀ds,d=.tuple ds->t=some (ds.map some))/\((∀ds,d≠.tuple ds)->t=none):=by
 cases h with
 | @tup a xs ds e q =>
  cases ok with
  | tup _ hl hd=>exact⟨_,.tu e (EVs.of q hd) (by simpa using hl),fun ds z=>by cases z;rfl,fun z=>absurd rfl (z _)⟩
 | non=>exact⟨none,.no .non .non (by intro _ z;cases z),fun _ z=>(by cases z),fun _=>rfl⟩
 | int i=>exact⟨none,.no (.int i) (.int i) (by intro _ z;cases z),fun _ z=>(by cases z),fun _=>rfl⟩
 | bl i=>exact⟨none,.no (.bl i) (.bl i) (by intro _ z;cases z),fun _ z=>(by cases z),fun _=>rfl⟩
 | str i=>exact⟨none,.no (.str i) ok (by intro _ z;cases z),fun _ z=>(by cases z),fun _=>rfl⟩
 | lst e q=>exact⟨none,.no (.lst e q) ok (by intro _ z;cases z),fun _ z=>(by cases z),fun _=>rfl⟩
noncomputable def dW (es:List (Option PyData)):List Str:=es.filterMap fun | some (.str s)=>some s | _=>none
theorem iW (ss:List Str):dW (ss.map fun x=>some (PyData.str x))=ss:=by
 unfold dW
 induction ss with
 | nil=>rfl
 | cons s r ih=>rw [List.map_cons,List.filterMap_cons];simp only [ih]
noncomputable def ig:Option (List (Option PyData))->Bool
 | some es=>es.all ce && cu (dW es)
 | none=>false
noncomputable def cD (ps:List Str):Option (List (Option PyData))->Bool
 | some es=>(es.all ce && cu (dW es)) && (!decide (es.length=0) && es.all (cm · ps))
 | none=>false
noncomputable def eK (ps:List Str):Option (List (Option PyData))->Bool
 | some es=>decide (es.length<=6) && es.all (cm · ps)
 | none=>false
section
variable {P:Program}{w:World}{K:PySem.W.Frag}{mg:Str->Option Value}{base:Heap}
noncomputable def v7:Sp:=fun vs H Q _=>∃a,vs=[.ref a]/\H a=some (.dK [])/\Q (.bl false) H
theorem uV {f:Addr}{fd:FuncData} (F:Fun K "is_name" "is_name" (top 15) f fd) (B:Bl mg):aA P w K mg base CX0 1 f fd ["thing"] v7:=by
 refine F.ok kC (fun vs H Q E h=>?_) (fun cdv A outer s H vs Q E hr h=>?_)
 ·obtain⟨a,rfl,_⟩:=h
  rfl
 ·obtain⟨a,rfl,ha,k⟩:=h
  obtain⟨tl,hl⟩:=B.lng
  refine⟨_,am (aY (PW.pt (bS (bw (bE (aC (cb (T:="str")) rfl B.isinstance bG (ae (pv 0) (ae (bV (v:=.ty "str") rfl B.str eS rfl) ag)))))
    (cc (bw (fF dX dX aj (aC gR rfl B.len PySem.boot_len (ae (pv 0) ag)) (cG (v:=.int 8) rfl hl ⟨_,rfl⟩)))))) (ay (aD bW)) aX) cx,?_⟩
  exact⟨_,rfl,_,_,false,rfl,.dK ha,rfl,false,rfl,ao (ao k)⟩
noncomputable def nE:Sp:=fun vs H Q _=>∃(x:V) (e:Option PyData),vs=[x]/\EV H x e/\∀H',ai H H'->Q (.bl (ce e)) H'
theorem uW {f:Addr}{fd:FuncData} (F:Fun K "is_name" "is_name" (top 15) f fd) (B:Bl mg):aA P w K mg base CX0 1 f fd ["thing"] nE :=
 (aA.or (mG F B) (uV F B)).imp fun vs H Q E h=>by
  obtain⟨x,e,rfl,hx,k⟩:=h
  cases hx with
  | da a b=>exact .inl ⟨x,_,rfl,a,b,k⟩
  | di a=>exact .inr ⟨_,rfl,a,k H (ai.refl _)⟩
noncomputable def lW (K:PySem.W.Frag):Sp:=fun vs H Q _=>∃(x:V) (e:Option PyData) (p:Addr) (ss:List Str),vs=[x,.ref p]/\EV H x e/\Sq K H p (ss.map V.str)/\Q (.bl (cm e ss)) H
theorem sM {f:Addr}{fd:FuncData} (F:Fun K "is_among" "is_among" (top 19) f fd) (B:Bl mg):aA P w K mg base CX0 1 f fd ["thing","names"] (lW K) :=
 (aA.or (lq F B) (lR F B)).imp fun vs H Q E h=>by
  obtain⟨x,e,p,ss,rfl,hx,hp,k⟩:=h
  cases hx with
  | da a b=>exact .inl ⟨x,_,p,ss,rfl,a,hp,k⟩
  | di a=>exact .inr ⟨_,p,ss,rfl,.inr ⟨_,rfl,a⟩,hp,k⟩
noncomputable def lE:Sp:=fun vs H Q _=>∃(x:V) (t:Option (List (Option PyData))),vs=[x]/\TV H x t/\∀H',ai H H'->Q (.bl (ig t)) H'
theorem rE {f:Addr}{fd:FuncData} (F:Fun K "is_sorted_names" "is_sorted_names" (top 18) f fd) (B:Bl mg) (F1:Fn P w K mg base 1 "is_name" ["thing"] nE) (F2:Fn P w K mg base 1 "is_rising" ["names"] (gX K)) :
  aA P w K mg base CX0 2 f fd ["thing"] lE:=by
 refine F.ok ku (fun vs H Q E h=>?_) (fun cdv A outer s H vs Q E hr h=>?_)
 ·obtain⟨x,t,rfl,_⟩:=h
  rfl
 ·obtain⟨x,t,rfl,hx,k⟩:=h
  refine⟨_,am (aY (bw (bE (aC (cb (T:="tuple")) rfl B.isinstance bG (ae (pv 0) (ae (bV (v:=.ty "tuple") rfl B.tuple cM rfl) ag))))) (ay (aD bW)) aX)
   (ay (aD (cH (aC (dz rfl) rfl B.all dF (ae (bY (N:=["name"]) (ix:=[none]) ⟨rfl,rfl,rfl,by decide⟩ rfl (cJ (pv 0)) (fun _ _ _ _=>bo 0 (by decide) rfl rfl) (fun _ _ _ _=>bK)
    (fun _ _ _ _=>ar F1 hr (ae (pv 0) ag))) ag)) (cZ (ar F2 hr (ae (pv 0) ag)))))),?_⟩
  cases hx with
  | no a okd c =>
   have k0:=k H (ai.refl _)
   cases a with
   | non=>exact⟨_,rfl,_,_,false,rfl,.non,rfl,false,rfl,ao k0⟩
   | int i=>exact⟨_,rfl,_,_,false,rfl,.int i,rfl,false,rfl,ao k0⟩
   | bl i=>exact⟨_,rfl,_,_,false,rfl,.bl i,rfl,false,rfl,ao k0⟩
   | str z=>exact⟨_,rfl,_,_,false,rfl,.str z,rfl,false,rfl,ao k0⟩
   | lst e _=>exact⟨_,rfl,_,_,false,rfl,.lst e,rfl,false,rfl,ao k0⟩
   | tup e _=>exact absurd rfl (c _)
  | di a=>exact⟨_,rfl,_,_,false,rfl,.dK a,rfl,false,rfl,ao (k H (ai.refl _))⟩
  | @tu p xs es hp q hz =>
   have hxl:=EVs.len q
   refine⟨_,rfl,_,_,true,rfl,.tup hp,rfl,true,rfl,aH ?_⟩
   refine⟨_,rfl,p,rfl,⟨_,SqT.of hp⟩,dN (xs:=xs) (fits (by omega)) (fun i ys σ H1=>ys=(es.take i).map (fun d=>V.bl (ce d))/\ai H H1/\∃v,σ=[v]) ⟨rfl,ai.refl _,_,rfl⟩
    (fun i ys σ H1 _ q=>⟨by rw [q.1];simp;omega,dB q.2.1 (SqT.of hp)⟩) ?_ ?_⟩
   ·rintro i x ys σ H1 hx ⟨rfl,hs1,v,rfl⟩
    obtain⟨d',hd',dv⟩:=EVs.at q hx
    exact⟨_,rfl,x,d',rfl,dv.same hs1,fun H2 hs2=>⟨(ee _ _ _ _ hd').symm,hs1.trans hs2,_,rfl⟩⟩
   ·rintro ys σ H1 ⟨rfl,hs1,v,rfl⟩ r hr'
    have ea:(es.take xs.length).map (fun d=>V.bl (ce d))=(es.map ce).map V.bl:=by rw [hxl,List.take_length,List.map_map];rfl
    rw [ea]
    have hs2:=au (o:=.lst ((es.map ce).map V.bl)) hs1 hr'
    refine⟨r,es.map ce,rfl,SqL.of ak,_,rfl,?_⟩
    have e2:(es.map ce).all id=es.all ce:=by rw [List.all_map];rfl
    rw [e2]
    cases c:es.all ce with
    | false =>
     have:=k _ hs2
     have e:ig (some es)=false:=by show (es.all ce && _)=false;rw [c];rfl
     rw [e] at this
     exact aH this
    | true =>
     obtain⟨ss,rfl,hss⟩:=md c
     have ex:=EVs.txt q
     subst ex
     refine ao ⟨_,rfl,p,ss,rfl,.inr (dB hs2 (SqT.of hp)),by simp at hz;omega,fun H3 hs3=>?_⟩
     have:=k _ (hs2.trans hs3)
     have e:ig (some (ss.map fun x=>some (PyData.str x)))=cu ss:=by show ((ss.map fun x=>some (PyData.str x)).all ce && cu (dW _))=_;rw [c,iW];rfl
     rw [e] at this
     exact this
theorem xW:aL ["web","thing"] ["web","thing"] (aB (top 25)):=⟨rfl,rfl,rfl,by decide +kernel,rfl,by decide +kernel,by decide +kernel⟩
noncomputable def oM:Sp:=fun vs H Q _=>∃(v pa ra:Addr) (ps:List Str) (rs:List (Addr×Row)) (x:V) (t:Option (List (Option PyData))),vs=[.ref v,x]/\bg H v pa ra ps rs/\TV H x t/\∀H',ai H H'->Q (.bl (cD ps t)) H'
theorem vm {f:Addr}{fd:FuncData} (F:Fun K "is_lot" "is_lot" (top 25) f fd) (B:Bl mg) (F1:Fn P w K mg base 2 "is_sorted_names" ["thing"] lE):aA P w K mg base CX0 3 f fd ["web","thing"] oM:=by
 refine F.ok xW (fun vs H Q E h=>?_) (fun cdv A outer s H vs Q E hr h=>?_)
 ·obtain⟨v,pa,ra,ps,rs,x,t,rfl,_⟩:=h
  rfl
 ·obtain⟨v,pa,ra,ps,rs,x,t,rfl,W,hx,k⟩:=h
  refine⟨_,am (aY (PW.pt (bS (bw (bE (ar F1 hr (ae (pv 1) ag)))) (cc (aV dG (aC bB rfl B.len PySem.boot_len (ae (pv 1) ag)) aj (aT _))))) (ay (aD bW)) aX)
   (ay (aD (aC (dz rfl) rfl B.all dF (ae (bY (N:=["place","web"]) (ix:=[none,some 0]) ⟨rfl,rfl,rfl,by decide⟩ rfl (cJ (pv 1)) (fun _ _ _ _=>bo 0 (by decide) rfl rfl) (fun _ _ _ _=>bK)
    (fun _ _ _ _=>dC (mY K) (pv 0) (aG (cF K) (pv 1) aj (fun _ _=>rfl)) (by with_unfolding_all rfl))) ag)))),?_⟩
  refine⟨_,rfl,x,t,rfl,hx,fun H1 s1=>⟨_,rfl,?_⟩⟩
  cases c:ig t with
  | false =>
   have e:cD ps t=false:=by
    cases t with
    | none=>rfl
    | some es=>show ((es.all ce && cu (dW es)) && _)=false;rw [show (es.all ce && cu (dW es))=false from c];rfl
   have:=k H1 s1
   rw [e] at this
   exact ao (ao this)
  | true =>
   obtain⟨es,rfl⟩:∃es,t=some es:=by cases t with | none=>cases c | some es=>exact⟨es,rfl⟩
   have hx1:=hx.same s1
   cases hx1 with
   | @tu p xs _ hp q hz =>
    have c':(es.all ce && cu (dW es))=true:=c
    have c1:=c'
    rw [Bool.and_eq_true] at c1
    obtain⟨ss,rfl,hss⟩:=md c1.1
    have ex:=EVs.txt q
    subst ex
    have hl:∀b,cD ps (some (ss.map fun x=>some (PyData.str x)))=b ↔ (!decide (ss.length=0) && ss.all fun x=>decide (x∈ps))=b:=fun b=>by
     have e:cD ps (some (ss.map fun x=>some (PyData.str x)))=(!decide (ss.length=0) && ss.all fun x=>decide (x∈ps)):=by
      show ((_ && _) && (!decide (List.length _=0) && List.all _ _))=_
      rw [c',List.length_map,List.all_map,Bool.true_and]
      rfl
     rw [e]
    refine aH ⟨_,rfl,p,_,rfl,.inr (SqT.of hp),rfl,_,rfl,?_⟩
    rw [List.length_map]
    refine bA (fun c2=>?_) (fun c2=>?_)
    ·have c2':ss.length=0:=by have:=V.int.inj (of_decide_eq_true c2);omega
     have:=k H1 s1
     rw [(hl false).mpr (by rw [decide_eq_true c2'];rfl)] at this
     exact this
    ·have c2':ss.length≠0:=fun z=>c2 (decide_eq_true (by rw [z];rfl))
     have W1:=W.same s1
     have hz':ss.length<=60:=by simpa using hz
     refine⟨_,rfl,p,rfl,⟨_,SqT.of hp⟩,dN (xs:=ss.map V.str) (fits (by rw [List.length_map];omega)) (fun i ys σ H2=>ys=(ss.take i).map (fun x=>V.bl (decide (x∈ps)))/\H2=H1/\∃g,σ=[g,some (.ref v)]) ⟨rfl,rfl,_,rfl⟩
      (fun i ys σ H2 _ q=>⟨by rw [q.1];simp;omega,by rw [q.2.1];exact SqT.of hp⟩) ?_ ?_⟩
     ·rintro i y ys σ H2 hy ⟨rfl,rfl,g,rfl⟩
      rw [List.getElem?_map] at hy
      cases hc:ss[i]? with
      | none=>rw [hc] at hy;cases hy
      | some z =>
       rw [hc] at hy
       cases hy
       refine⟨_,rfl,_,rfl,aI (j:=0) (.inr (SqT.of W1.tp)) rfl rfl ⟨pa,ps.map V.str,rfl,.inr (SqT.of W1.pl),rfl,ef ps,?_⟩⟩
       show (ss.take i).map (fun x=>V.bl (decide (x∈ps)))++[V.bl (inV (.str z) (ps.map V.str))]=_/\_
       rw [eE]
       exact⟨(ee _ _ _ _ hc).symm,rfl,_,rfl⟩
     ·rintro ys σ H2 ⟨rfl,rfl,g,rfl⟩ r hr'
      have ea:(ss.take (ss.map V.str).length).map (fun x=>V.bl (decide (x∈ps)))=(ss.map fun x=>decide (x∈ps)).map V.bl:=by rw [List.length_map,List.take_length,List.map_map];rfl
      rw [ea]
      have s2:=au (o:=.lst ((ss.map fun x=>decide (x∈ps)).map V.bl)) s1 hr'
      refine⟨r,ss.map fun x=>decide (x∈ps),rfl,SqL.of ak,?_⟩
      have:=k _ s2
      rw [(hl ((ss.map fun x=>decide (x∈ps)).all id)).mpr (by rw [decide_eq_false c2',List.all_map];rfl)] at this
      exact this
end
section
variable {P:Program}{w:World}{K:PySem.W.Frag}{mg:Str->Option Value}{base:Heap}
theorem xU:aL ["web","thing"] ["web","thing"] (aB (top 26)):=⟨rfl,rfl,rfl,by decide +kernel,rfl,by decide +kernel,by decide +kernel⟩
noncomputable def gS (C:Addr):Sp:=fun vs H Q E=>∃(v pa ra:Addr) (ps:List Str) (rs:List (Addr×Row)) (x:V) (t:Option (List (Option PyData))),vs=[.ref v,x]/\bg H v pa ra ps rs/\TV H x t/\(cD ps t=true->∀H',ai H H'->Q .non H')/\(cD ps t=false->∀H',ai H H'->E (.ref C) none H')
theorem qH {f C:Addr}{fd:FuncData} (F:Fun K "need_lot" "need_lot" (top 26) f fd) (hx:mg "NoLot"=some (.ref C)) (hC:d9 base C) (F1:Fn P w K mg base 3 "is_lot" ["web","thing"] oM):aA P w K mg base (CXE P w) 4 f fd ["web","thing"] (gS C):=by
 refine F.okX xU (fun vs H Q E h=>?_) (fun cdv A outer s H vs Q E hr h=>?_)
 ·obtain⟨v,pa,ra,ps,rs,x,t,rfl,_⟩:=h
  rfl
 ·obtain⟨v,pa,ra,ps,rs,x,t,rfl,W,hx',k1,k2⟩:=h
  refine⟨_,ay (aY (bw (bE (ar F1 hr (ae (pv 0) (ae (pv 1) ag))))) (ay (fH (W:=fun H=>E (.ref C) none H) hx hC hr.hd (ae aM ag) (fun pins σ H s h' ea args I m hW=>fP I m hW))) aX),?_⟩
  refine⟨_,rfl,_,rfl,v,pa,ra,ps,rs,x,t,rfl,W,hx',fun H1 s1=>⟨_,rfl,?_⟩⟩
  cases c:cD ps t with
  | true=>exact aH (k1 c H1 s1)
  | false=>exact ao ⟨by show 1<=sizeLine;decide,k2 c H1 s1⟩
theorem xY:aL ["web","thing"] ["web","thing"] (aB (top 41)):=⟨rfl,rfl,rfl,by decide +kernel,rfl,by decide +kernel,by decide +kernel⟩
noncomputable def f6 (C:Addr):Sp:=fun vs H Q E=>∃(v pa ra:Addr) (ps:List Str) (rs:List (Addr×Row)) (x:V) (t:Option (List (Option PyData))),vs=[.ref v,x]/\bg H v pa ra ps rs/\TV H x t/\(eK ps t=true->∀H',ai H H'->Q .non H')/\(eK ps t=false->∀H',ai H H'->E (.ref C) none H')
theorem qe {f C:Addr}{fd:FuncData} (F:Fun K "need_roots" "need_roots" (top 41) f fd) (B:Bl mg) (hx:mg "NoRoots"=some (.ref C)) (hC:d9 base C) (F1:Fn P w K mg base 1 "is_among" ["thing","names"] (lW K)):aA P w K mg base (CXE P w) 2 f fd ["web","thing"] (f6 C):=by
 refine F.okX xY (fun vs H Q E h=>?_) (fun cdv A outer s H vs Q E hr h=>?_)
 ·obtain⟨v,pa,ra,ps,rs,x,t,rfl,_⟩:=h
  rfl
 ·obtain⟨v,pa,ra,ps,rs,x,t,rfl,W,hx',k1,k2⟩:=h
  obtain⟨tl,hmost⟩:=B.most
  refine⟨_,am (aY (PW.pt (bS (bw (bE (aC (cb (T:="tuple")) rfl B.isinstance bG (ae (pv 1) (ae (bV (v:=.ty "tuple") rfl B.tuple cM rfl) ag)))))
    (cc (aV eP (aC bB rfl B.len PySem.boot_len (ae (pv 1) ag)) (cG (v:=.int 6) rfl hmost ⟨_,rfl⟩) (aT _))))) (ay (fH (W:=fun H=>E (.ref C) none H) hx hC hr.hd (ae aM ag) (fun pins σ H s h' ea args I m hW=>fP I m hW))) aX)
   (ay (aY (bw (bE (aC (dz rfl) rfl B.all dF (ae (bY (N:=["place","web"]) (ix:=[none,some 0]) ⟨rfl,rfl,rfl,by decide⟩ rfl (cJ (pv 1)) (fun _ _ _ _=>bo 0 (by decide) rfl rfl) (fun _ _ _ _=>bK)
    (fun _ _ _ _=>ar F1 hr (ae (pv 0) (ae (aG (cF K) (pv 1) aj (fun _ _=>rfl)) ag)))) ag)))) (ay (fH (W:=fun H=>E (.ref C) none H) hx hC hr.hd (ae aM ag) (fun pins σ H s h' ea args I m hW=>fP I m hW))) aX)),?_⟩
  cases hx' with
  | no a okd c =>
   have k0:=k2 rfl H (ai.refl _)
   cases a with
   | non=>exact⟨_,rfl,_,_,false,rfl,.non,rfl,false,rfl,ao (ao ⟨by show 1<=sizeLine;decide,k0⟩)⟩
   | int i=>exact⟨_,rfl,_,_,false,rfl,.int i,rfl,false,rfl,ao (ao ⟨by show 1<=sizeLine;decide,k0⟩)⟩
   | bl i=>exact⟨_,rfl,_,_,false,rfl,.bl i,rfl,false,rfl,ao (ao ⟨by show 1<=sizeLine;decide,k0⟩)⟩
   | str z=>exact⟨_,rfl,_,_,false,rfl,.str z,rfl,false,rfl,ao (ao ⟨by show 1<=sizeLine;decide,k0⟩)⟩
   | lst e _=>exact⟨_,rfl,_,_,false,rfl,.lst e,rfl,false,rfl,ao (ao ⟨by show 1<=sizeLine;decide,k0⟩)⟩
   | tup e _=>exact absurd rfl (c _)
  | di a=>exact⟨_,rfl,_,_,false,rfl,.dK a,rfl,false,rfl,ao (ao ⟨by show 1<=sizeLine;decide,k2 rfl H (ai.refl _)⟩)⟩
  | @tu p xs es hp q hz =>
   have hxl:=EVs.len q
   refine⟨_,rfl,_,_,true,rfl,.tup hp,rfl,true,rfl,aH ⟨_,rfl,p,_,rfl,.inr (SqT.of hp),_,_,rfl,rfl,_,rfl,?_⟩⟩
   by_cases c6:es.length<=6
   ·refine fQ (by omega) ?_
    refine⟨_,rfl,p,rfl,⟨_,SqT.of hp⟩,dN (xs:=xs) (fits (by omega)) (fun i ys σ H1=>ys=(es.take i).map (fun d=>V.bl (cm d ps))/\H1=H/\∃g,σ=[g,some (.ref v)]) ⟨rfl,rfl,_,rfl⟩
     (fun i ys σ H1 _ q=>⟨by rw [q.1];simp;omega,by rw [q.2.1];exact SqT.of hp⟩) ?_ ?_⟩
    ·rintro i y ys σ H1 hy ⟨rfl,rfl,g,rfl⟩
     obtain⟨d',hd',dv⟩:=EVs.at q hy
     exact⟨_,rfl,_,rfl,aI (j:=0) (.inr (SqT.of W.tp)) rfl rfl ⟨y,d',pa,ps,rfl,dv,.inr (SqT.of W.pl),(ee _ _ _ _ hd').symm,rfl,_,rfl⟩⟩
    ·rintro ys σ H1 ⟨rfl,rfl,g,rfl⟩ r hr'
     have ea:(es.take xs.length).map (fun d=>V.bl (cm d ps))=(es.map (cm · ps)).map V.bl:=by rw [hxl,List.take_length,List.map_map];rfl
     rw [ea]
     have s2:=au (o:=.lst ((es.map (cm · ps)).map V.bl)) (ai.refl H1) hr'
     refine⟨r,es.map (cm · ps),rfl,SqL.of ak,_,rfl,?_⟩
     have e2:(es.map (cm · ps)).all id=es.all (cm · ps):=by rw [List.all_map];rfl
     have e3:eK ps (some es)=es.all (cm · ps):=by show (decide _ && _)=_;rw [decide_eq_true c6];rfl
     rw [e2]
     rw [e3] at k1 k2
     cases c:es.all (cm · ps) with
     | true=>exact aH (k1 c _ s2)
     | false=>exact ao ⟨by show 1<=sizeLine;decide,k2 c _ s2⟩
   ·refine fB (by omega) ⟨by show 1<=sizeLine;decide,k2 ?_ H (ai.refl _)⟩
    show (decide _ && _)=false
    rw [decide_eq_false c6];rfl
theorem nJ {ps:List Str}{rs:List Row} (G:Good ps rs):cD ps (some (ps.map fun x=>some (PyData.str x)))=true:=by
 show ((List.all _ ce && cu (dW _)) && (!decide (List.length _=0) && List.all _ _))=true
 rw [iW,jM.mpr G.so,List.length_map,List.all_map,List.all_map]
 have a1:ps.all (ce ∘ fun x=>some (PyData.str x))=true:=List.all_eq_true.mpr fun x hx=>kY.mpr (G.nm x hx)
 have a2:ps.all ((cm · ps) ∘ fun x=>some (PyData.str x))=true:=List.all_eq_true.mpr fun x hx=>decide_eq_true hx
 have a3:ps.length≠0:=fun z=>G.ne (List.length_eq_zero_iff.mp z)
 rw [a1,a2,decide_eq_false a3];rfl
theorem ir {H:Hp}{a:Addr}{ps:List Str} (h:H a=some (.tup (ps.map V.str))) (hn:∀x∈ps,aP x) (hl:ps.length<=60):TV H (.ref a) (some (ps.map fun x=>some (PyData.str x))) :=
 .tu h (EVs.strs fun x hx=>⟨by have:=(hn x hx).hi;omega,(hn x hx).ascii⟩) (by simpa using hl)
theorem yc:aL ["web","lot"] ["web","lot"] (aB (top 28)):=⟨rfl,rfl,rfl,by decide +kernel,rfl,by decide +kernel,by decide +kernel⟩
noncomputable def lb:Sp:=fun vs H Q _=>∃(v pa ra:Addr) (ps:List Str) (rs:List (Addr×Row)),vs=[.ref v,.ref pa]/\bg H v pa ra ps rs/\Good ps (rs.map (·.2))/\ps.length<=8/\∀q H',ai H H'->H' q=some (.lst [])->Q (.ref q) H'
theorem qK {f CW CL:Addr}{fd:FuncData} (F:Fun K "leading_in" "leading_in" (top 28) f fd) (F1:FnX P w K mg base 4 "need_web" ["thing"] (cC (dY .non) (eO CW))) (F2:FnX P w K mg base 4 "need_lot" ["web","thing"] (gS CL)) (F3:Fn P w K mg base 1 "leads_into" ["row","lot"] jV):aA P w K mg base (CXE P w) 5 f fd ["web","lot"] lb:=by
 refine F.okX yc (fun vs H Q E h=>?_) (fun cdv A outer s H vs Q E hr h=>?_)
 ·obtain⟨v,pa,ra,ps,rs,rfl,_⟩:=h
  rfl
 ·obtain⟨v,pa,ra,ps,rs,rfl,W,G,h8,k⟩:=h
  have hr1:aK 1 _:=hr.mono (by decide)
  refine⟨_,am (bN (bT (E:=E) F1 hr cq (ae (pv 0) ag))) (am (bN (bT (E:=E) F2 hr cq (ae (pv 0) (ae (pv 1) ag))))
   (ay (aD (bY (N:=["row","lot"]) (ix:=[none,some 1]) ⟨rfl,rfl,rfl,by decide⟩ rfl (cJ (aG aO (pv 0) aj (fun _ _=>rfl))) (fun _ _ _ _=>bo 0 (by decide) rfl rfl)
    (fun _ _ _ _=>fe (bE (ar F3 hr1 (ae (pv 0) (ae (pv 1) ag))))) (fun _ _ _ _=>aG (cF K) (pv 0) aj (fun _ _=>rfl)))))),?_⟩
  have hrz:rs.length<=60:=by have:=G.rz;simpa using this
  refine⟨_,rfl,.inl ⟨v,pa,ra,ps,rs,rfl,W,G,fun H1 s1=>?_⟩⟩
  have W1:=W.same s1
  refine⟨_,rfl,_,rfl,v,pa,ra,ps,rs,.ref pa,_,rfl,W1,ir W1.pl G.nm (by omega),fun _ H2 s2=>?_,fun z=>by rw [nJ G] at z;cases z⟩
  have W2:=W1.same s2
  refine⟨_,rfl,aI (j:=1) (.inr (SqT.of W2.tp)) rfl rfl ⟨ra,rfl,⟨_,SqT.of W2.rl⟩,gr (xs:=bL rs) (fits (by rw [List.length_map];omega)) (fun i ys σ H3=>ys=[]/\H3=H2/\∃g,σ=[g,some (.ref pa)]) ⟨rfl,rfl,_,rfl⟩
   (fun i ys σ H3 _ q=>⟨by rw [q.1];simp,by rw [q.2.1];exact SqT.of W2.rl⟩) ?_ ?_⟩⟩
  ·rintro i x ys σ H3 hx ⟨rfl,rfl,g,rfl⟩
   rw [List.getElem?_map] at hx
   cases hc:rs[i]? with
   | none=>rw [hc] at hx;cases hx
   | some r =>
    rw [hc] at hx
    cases hx
    have hm:=List.mem_of_getElem? hc
    refine⟨_,rfl,_,rfl,pa,r,ps,rfl,W2.rows r hm,W2.pl,_,rfl,?_⟩
    have e:lead ps r=false:=by
     obtain⟨_,h2,_⟩:=G.rn r.2 (List.mem_map_of_mem hm)
     unfold lead
     rw [decide_eq_true h2];simp
    rw [e]
    exact aH ⟨rfl,rfl,_,rfl⟩
  ·rintro ys σ H3 ⟨rfl,rfl,g,rfl⟩ q hq
   exact k q _ (s1.trans (s2.trans (au (ai.refl _) hq))) ak
end
section
variable {P:Program}{w:World}{K:PySem.W.Frag}{mg:Str->Option Value}{base:Heap}
theorem pI:aL ["web","roots","lot"] ["web","roots","lot"] (aB (top 42)):=⟨rfl,rfl,rfl,by decide +kernel,rfl,by decide +kernel,by decide +kernel⟩
noncomputable def jy (CW CR CL:Addr):Sp:=fun vs H _ E=>(∃x y z:V,vs=[x,y,z]/\aW x H/\∀H',ai H H'->E (.ref CW) none H') \/
 (∃(v pa ra:Addr) (ps:List Str) (rs:List (Addr×Row)) (y z:V) (t:Option (List (Option PyData))),vs=[.ref v,y,z]/\bg H v pa ra ps rs/\Good ps (rs.map (·.2))/\TV H y t/\eK ps t=false/\∀H',ai H H'->E (.ref CR) none H') \/
 ∃(v pa ra:Addr) (ps:List Str) (rs:List (Addr×Row)) (y z:V) (t u:Option (List (Option PyData))),vs=[.ref v,y,z]/\bg H v pa ra ps rs/\Good ps (rs.map (·.2))/\TV H y t/\eK ps t=true/\TV H z u/\cD ps u=false/\∀H',ai H H'->E (.ref CL) none H'
theorem uG {f CW CR CL:Addr}{fd:FuncData} (F:Fun K "lack" "lack" (top 42) f fd) (F1:FnX P w K mg base 4 "need_web" ["thing"] (cC (dY .non) (eO CW))) (F2:FnX P w K mg base 2 "need_roots" ["web","thing"] (f6 CR)) (F3:FnX P w K mg base 4 "need_lot" ["web","thing"] (gS CL)) :
  aA P w K mg base (CXE P w) 6 f fd ["web","roots","lot"] (jy CW CR CL):=by
 refine F.okX pI (fun vs H Q E h=>?_) (fun cdv A outer s H vs Q E hr h=>?_)
 ·rcases h with ⟨x,y,z,rfl,_⟩ | ⟨v,pa,ra,ps,rs,y,z,t,rfl,_⟩ | ⟨v,pa,ra,ps,rs,y,z,t,u,rfl,_⟩ <;> rfl
 ·have hr4:aK 4 _:=hr.mono (by decide)
  have hr2:aK 2 _:=hr.mono (by decide)
  refine⟨_,am (bN (bT (E:=E) F1 hr4 cq (ae (pv 0) ag))) (am (bN (bT (E:=E) F2 hr2 cq (ae (pv 0) (ae (pv 1) ag))))
   (am (bN (bT (E:=E) F3 hr4 cq (ae (pv 0) (ae (pv 2) ag)))) cx)),?_⟩
  rcases h with ⟨x,y,z,rfl,hw,k⟩ | ⟨v,pa,ra,ps,rs,y,z,t,rfl,W,G,hy,ht,k⟩ | ⟨v,pa,ra,ps,rs,y,z,t,u,rfl,W,G,hy,ht,hz,hu,k⟩
  ·exact⟨_,rfl,.inr ⟨x,rfl,hw,k⟩⟩
  ·exact⟨_,rfl,.inl ⟨v,pa,ra,ps,rs,rfl,W,G,fun H1 s1=>⟨_,rfl,_,rfl,v,pa,ra,ps,rs,y,t,rfl,W.same s1,hy.same s1,fun e=>(by rw [ht] at e;cases e),fun _ H2 s2=>k H2 (s1.trans s2)⟩⟩⟩
  ·exact⟨_,rfl,.inl ⟨v,pa,ra,ps,rs,rfl,W,G,fun H1 s1=>⟨_,rfl,_,rfl,v,pa,ra,ps,rs,y,t,rfl,W.same s1,hy.same s1,fun _ H2 s2 =>
    ⟨_,rfl,_,rfl,v,pa,ra,ps,rs,z,u,rfl,W.same (s1.trans s2),hz.same (s1.trans s2),fun e=>(by rw [hu] at e;cases e),fun _ H3 s3=>k H3 (s1.trans (s2.trans s3))⟩,fun e=>(by rw [ht] at e;cases e)⟩⟩⟩
noncomputable def jC:Sp:=fun vs H Q _=>∃(v pa ra a:Addr) (ps:List Str) (rs:List (Addr×Row)),vs=[.ref v,.ref a,.ref pa]/\bg H v pa ra ps rs/\Good ps (rs.map (·.2))/\ps.length<=8/\H a=some (.tup [])/\∀H',ai H H'->Q (.int 0) H'
theorem uv {f CW CR CL:Addr}{fd:FuncData} (F:Fun K "lack" "lack" (top 42) f fd) (B:Bl mg) (F1:FnX P w K mg base 4 "need_web" ["thing"] (cC (dY .non) (eO CW))) (F2:FnX P w K mg base 2 "need_roots" ["web","thing"] (f6 CR)) (F3:FnX P w K mg base 4 "need_lot" ["web","thing"] (gS CL))
  (F4:Fn P w K mg base 1 "need_of" ["roots","lot"] jn) (F5:FnX P w K mg base 5 "leading_in" ["web","lot"] lb):aA P w K mg base (CXE P w) 6 f fd ["web","roots","lot"] jC:=by
 refine F.okX pI (fun vs H Q E h=>?_) (fun cdv A outer s H vs Q E hr h=>?_)
 ·obtain⟨v,pa,ra,a,ps,rs,rfl,_⟩:=h
  rfl
 ·obtain⟨v,pa,ra,a,ps,rs,rfl,W,G,h8,ha,k⟩:=h
  have hr4:aK 4 _:=hr.mono (by decide)
  have hr2:aK 2 _:=hr.mono (by decide)
  have hr1:aK 1 _:=hr.mono (by decide)
  refine⟨_,am (bN (bT (E:=E) F1 hr4 cq (ae (pv 0) ag))) (am (bN (bT (E:=E) F2 hr2 cq (ae (pv 0) (ae (pv 1) ag))))
   (am (bN (bT (E:=E) F3 hr4 cq (ae (pv 0) (ae (pv 2) ag))))
   (ay (aD (aF dS (ar F4 hr1 (ae (pv 1) (ae (pv 2) ag))) (aC bB rfl B.len PySem.boot_len (ae (bT (E:=E) F5 hr cq (ae (pv 0) (ae (pv 2) ag))) ag))))))),?_⟩
  refine⟨_,rfl,.inl ⟨v,pa,ra,ps,rs,rfl,W,G,fun H1 s1=>?_⟩⟩
  refine⟨_,rfl,_,rfl,v,pa,ra,ps,rs,.ref a,some [],rfl,W.same s1,.tu (s1 _ _ ha) .nil (by simp),fun _ H2 s2=>?_,fun z=>(by cases z)⟩
  have t2:=s1.trans s2
  refine⟨_,rfl,_,rfl,v,pa,ra,ps,rs,.ref pa,_,rfl,W.same t2,ir (W.same t2).pl G.nm (by omega),fun _ H3 s3=>?_,fun z=>by rw [nJ G] at z;cases z⟩
  have t3:=t2.trans s3
  refine⟨_,rfl,_,rfl,a,pa,[],ps,rfl,t3 _ _ ha,(W.same t3).pl,by simp,fun H4 s4=>?_⟩
  have t4:=t3.trans s4
  refine⟨_,rfl,_,rfl,v,pa,ra,ps,rs,rfl,W.same t4,G,h8,fun q H5 s5 hq=>⟨q,_,rfl,.inl (SqL.of hq),_,_,rfl,rfl,?_⟩⟩
  exact k H5 (t4.trans s5)
theorem pD:aL ["web","roots"] ["web","roots"] (aB (top 43)):=⟨rfl,rfl,rfl,by decide +kernel,rfl,by decide +kernel,by decide +kernel⟩
noncomputable def iR (CW CR:Addr):Sp:=fun vs H _ E=>(∃x y:V,vs=[x,y]/\aW x H/\∀H',ai H H'->E (.ref CW) none H') \/
 ∃(v pa ra:Addr) (ps:List Str) (rs:List (Addr×Row)) (y:V) (t:Option (List (Option PyData))),vs=[.ref v,y]/\bg H v pa ra ps rs/\Good ps (rs.map (·.2))/\TV H y t/\eK ps t=false/\∀H',ai H H'->E (.ref CR) none H'
theorem qQ {f CW CR:Addr}{fd:FuncData} (F:Fun K "shares_from" "shares_from" (top 43) f fd) (F1:FnX P w K mg base 4 "need_web" ["thing"] (cC (dY .non) (eO CW))) (F2:FnX P w K mg base 2 "need_roots" ["web","thing"] (f6 CR)) :
  aA P w K mg base (CXE P w) 6 f fd ["web","roots"] (iR CW CR):=by
 refine F.okX pD (fun vs H Q E h=>?_) (fun cdv A outer s H vs Q E hr h=>?_)
 ·rcases h with ⟨x,y,rfl,_⟩ | ⟨v,pa,ra,ps,rs,y,t,rfl,_⟩ <;> rfl
 ·have hr4:aK 4 _:=hr.mono (by decide)
  have hr2:aK 2 _:=hr.mono (by decide)
  refine⟨_,am (bN (bT (E:=E) F1 hr4 cq (ae (pv 0) ag))) (am (bN (bT (E:=E) F2 hr2 cq (ae (pv 0) (ae (pv 1) ag)))) cx),?_⟩
  rcases h with ⟨x,y,rfl,hw,k⟩ | ⟨v,pa,ra,ps,rs,y,t,rfl,W,G,hy,ht,k⟩
  ·exact⟨_,rfl,.inr ⟨x,rfl,hw,k⟩⟩
  ·exact⟨_,rfl,.inl ⟨v,pa,ra,ps,rs,rfl,W,G,fun H1 s1=>⟨_,rfl,_,rfl,v,pa,ra,ps,rs,y,t,rfl,W.same s1,hy.same s1,fun e=>(by rw [ht] at e;cases e),fun _ H2 s2=>k H2 (s1.trans s2)⟩⟩⟩
noncomputable def iQ:Sp:=fun vs H Q _=>∃(v pa ra a:Addr) (ps:List Str) (rs:List (Addr×Row)),vs=[.ref v,.ref a]/\bg H v pa ra ps rs/\Good ps (rs.map (·.2))/\ps.length<=8/\H a=some (.tup [])/\∀(q:Addr) (H':Hp),ai H H'->H' q=some (.lst [])->Q (.ref q) H'
theorem qM {f CW CR:Addr}{fd:FuncData} (F:Fun K "shares_from" "shares_from" (top 43) f fd) (F1:FnX P w K mg base 4 "need_web" ["thing"] (cC (dY .non) (eO CW))) (F2:FnX P w K mg base 2 "need_roots" ["web","thing"] (f6 CR)) (F3:Fn P w K mg base 5 "trees_from" ["web","roots"] mm) :
  aA P w K mg base (CXE P w) 6 f fd ["web","roots"] iQ:=by
 refine F.okX pD (fun vs H Q E h=>?_) (fun cdv A outer s H vs Q E hr h=>?_)
 ·obtain⟨v,pa,ra,a,ps,rs,rfl,_⟩:=h
  rfl
 ·obtain⟨v,pa,ra,a,ps,rs,rfl,W,G,h8,ha,k⟩:=h
  have hr4:aK 4 _:=hr.mono (by decide)
  have hr2:aK 2 _:=hr.mono (by decide)
  refine⟨_,am (bN (bT (E:=E) F1 hr4 cq (ae (pv 0) ag))) (am (bN (bT (E:=E) F2 hr2 cq (ae (pv 0) (ae (pv 1) ag))))
   (ay (aD (ar F3 hr (ae (pv 0) (ae (pv 1) ag)))))),?_⟩
  refine⟨_,rfl,.inl ⟨v,pa,ra,ps,rs,rfl,W,G,fun H1 s1=>?_⟩⟩
  refine⟨_,rfl,_,rfl,v,pa,ra,ps,rs,.ref a,some [],rfl,W.same s1,.tu (s1 _ _ ha) .nil (by simp),fun _ H2 s2=>?_,fun z=>(by cases z)⟩
  have t2:=s1.trans s2
  exact⟨_,rfl,_,rfl,v,pa,ra,a,ps,rs,rfl,W.same t2,G,h8,t2 _ _ ha,fun q H3 s3 hq=>k q H3 (t2.trans s3) hq⟩
end
end K45
namespace K45
open PySem L2 PySem.Spec PyProof.Rows
noncomputable def eX (ns:List Int):Int:=ns.getD (argBest (fun i j=>decide (ns.getD i 0 > ns.getD j 0)) (ns.length - 1)) 0
theorem uM {ns:List Int} (h:ns≠[]):eX ns∈ns:=by
 have hp:0 < ns.length:=by cases ns with | nil=>exact absurd rfl h | cons _ _=>simp
 have hb:=nk (fun i j=>decide (ns.getD i 0 > ns.getD j 0)) (ns.length - 1)
 unfold eX
 rw [List.getD_eq_getElem?_getD,List.getElem?_eq_getElem (by omega)]
 exact List.getElem_mem _
theorem vB {ns:List Int}{x:Int} (h:x∈ns):x<=eX ns:=by
 obtain⟨j,hj,rfl⟩:=List.mem_iff_getElem.mp h
 have q:=lZ (fun i j=>decide (ns.getD i 0 > ns.getD j 0)) (fun i=>- ns.getD i 0) (fun i j h=>by have:=of_decide_eq_true h;omega) (fun i j h=>by have:=of_decide_eq_false h;omega) (ns.length - 1) j (by omega)
 have e:ns.getD j 0=ns[j]:=by rw [List.getD_eq_getElem?_getD,List.getElem?_eq_getElem hj];rfl
 unfold eX
 simp only [e] at q
 omega
theorem ud {X:Cx} (hc:X.calm=true):bX X (.builtin "max") (fun xs H Q=>∃(p:Addr) (ns:List Int),xs=[.ref p]/\SqL X.K H p (ns.map V.int)/\ns≠[]/\Q (.int (eX ns)) H):=by
 intro pins s σ H xs us Q I r h
 obtain⟨p,ns,rfl,hq,hne,q⟩:=h
 obtain⟨u,rfl,rx⟩:=vals1 r
 cases rx
 obtain⟨its,rv,pl,hz⟩:=I.list hq
 have hlen:=rv.length
 rw [List.length_map] at hlen
 have hpos:0 < ns.length:=by cases ns with | nil=>exact absurd rfl hne | cons _ _=>simp
 have hitem:∀(i:Nat) (v:Value),its.toArray[i]?=some v->∃t,v=Value.int (ns.getD i 0) t:=fun i v hv=>by
  obtain⟨t,e⟩:=ints_get rv (i:=i) (by simpa using hv)
  exact⟨t,by rw [e,List.getD_eq_getElem?_getD]⟩
 have il:=pl.isList
 have hlt:p < s.heap.objs.size:=by obtain⟨_,e,_⟩:=il;exact Heap.lt_size e
 refine call_max_walk (wpAny_pyIter_list il ⟨s.heap.objs.size,[s.heap.objs.size,p],[s.heap.objs.size],its.toArray.size,_,_,_,rfl,Walks.list (A:=X.A.in1) (I.ok.hd hc) _ p (Nat.ne_of_lt hlt) its.toArray,
  ⟨⟨_,Heap.get?_push_size _ rfl,rfl,rfl⟩,il.push _⟩,fun b hb=>?_,by rw [List.size_toArray];omega,CmpOf.ints_gt (fun i=>ns.getD i 0) hitem,fun v h' tk hv hk=>?_⟩)
 ·show b < (s.heap.push _).objs.size
  rw [Heap.size_push]
  simp only [List.mem_cons,List.not_mem_nil,or_false] at hb
  rcases hb with rfl | rfl
  ·exact Nat.lt_succ_self _
  ·exact Nat.lt_succ_of_lt hlt
 ·obtain⟨t,rfl⟩:=hitem _ v hv
  rw [List.size_toArray,<- hlen]
  exact⟨.int (eX ns),H,I.kept (t':=tk) fun b o e=>hk b o (fun z=>absurd (Heap.lt_size e) (by rw [List.mem_singleton.mp z];exact Nat.lt_irrefl _)) (Heap.get?_push_of_some _ e),⟨t,rfl⟩,q⟩
theorem uK {ns:List Int} (h:∀x∈ns,x<=0):eX (0::ns)=0:=by
 have a:(0:Int)<=eX (0::ns):=vB List.mem_cons_self
 have b:=uM (ns:=0::ns) (by simp)
 rcases List.mem_cons.mp b with e | e
 ·exact e
 ·have:=h _ e;omega
noncomputable abbrev kv0 (ps:List Str):List (Key×V):=ps.map fun x=>((Sum.inr x:Key),V.int 0)
theorem gu:∀{ps:List Str}{x:Str},x∈ps->bc (kv0 ps) (Sum.inr x)=some (.int 0)
 | m::r,x,h=>by
  show bc (((Sum.inr m:Key),V.int 0)::kv0 r) (Sum.inr x)=_
  by_cases e:m=x
  ·subst e;exact cV rfl
  ·rw [cE (fun z=>e (Sum.inr.inj z))]
   exact gu ((List.mem_cons.mp h).resolve_left fun z=>e z.symm)
theorem mi:∀{ps:List Str}{x:Str},x∉ps->bc (kv0 ps) (Sum.inr x)=none
 | [],x,_=>rfl
 | m::r,x,h=>by
  have h':x≠m/\x∉r:=by simpa using h
  show bc (((Sum.inr m:Key),V.int 0)::kv0 r) (Sum.inr x)=none
  rw [cE (fun e=>h'.1 (Sum.inr.inj e).symm)]
  exact mi h'.2
theorem vX {ps:List Str}{x:Str} (h:x∈ps):putK (kv0 ps) (Sum.inr x) (.int 0)=kv0 ps:=by
 unfold putK
 rw [e8,gu h]
 show (if true=true then _ else _)=_
 rw [if_pos rfl]
 refine (List.map_congr_left fun kv hkv=>?_).trans (List.map_id _)
 obtain⟨y,_,rfl⟩:=List.mem_map.mp hkv
 by_cases e:(Sum.inr y:Key)=Sum.inr x
 ·rw [if_pos e];rfl
 ·rw [if_neg e];rfl
theorem rF {K:PySem.W.Frag}{a D:Addr}{xs:List V}{tk tv:TE}{j:Nat}{σ':L2.St}{fin:Hp->Prop}{H1:Hp} (Pv:Nat->L2.St->Hp->Prop) (h0:Pv 0 σ' H1) (hl:∀i σ H,i<=xs.length->Pv i σ H->SqL K H a xs)
  (hs:∀i x σ H,xs[i]?=some x->Pv i σ H->tk (σ.set j (some x)) H (fun y H4=>tv (σ.set j (some x)) H4 fun v H5=>∃H6,j5 H5 D y v H6/\Pv (i + 1) (σ.set j (some x)) H6)) (hd:∀σ H,Pv xs.length σ H->fin H):kI D (Itl K a) (cy j) cL tk tv σ' fin H1:=by
 refine⟨fun i m σ H=>m=xs.length - i/\i<=xs.length/\Pv i σ H,⟨xs.length,by simp,Nat.zero_le _,h0⟩,?_⟩
 rintro i m σ H ⟨rfl,hi,p⟩
 have q:=hl i σ H hi p
 by_cases hlt:i < xs.length
 ·refine .inr ⟨⟨xs,xs[i],q,by simp [hlt]⟩,Pv (i + 1),fun σ' H' p'=>⟨xs.length - (i + 1),by omega,rfl,hlt,p'⟩,fun x H' y=>?_⟩
  obtain⟨e,y⟩:=y
  subst e
  unfold cy cL
  exact ao (hs i x σ _ (y xs q) p)
 ·have e:i=xs.length:=by omega
  subst e
  exact .inl ⟨⟨xs,q,Nat.le_refl _⟩,hd σ H p⟩
noncomputable abbrev kvF (f:List Str->Int) (ls:List (List Str)):List (List Key×V):=ls.map fun l=>(bp l,V.int (f l))
theorem my {f:List Str->Int}:∀{ls:List (List Str)}{l:List Str},l∉ls->bc (kvF f ls) (bp l)=none
 | [],l,_=>rfl
 | m::r,l,h=>by
  have h':l≠m/\l∉r:=by simpa using h
  show bc ((bp m,V.int (f m))::kvF f r) (bp l)=none
  rw [cE (fun e=>h'.1 (gn e).symm)]
  exact my h'.2
theorem jj {f:List Str->Int}:∀{ls:List (List Str)}{l:List Str},l∈ls->bc (kvF f ls) (bp l)=some (.int (f l))
 | m::r,l,h=>by
  show bc ((bp m,V.int (f m))::kvF f r) (bp l)=_
  by_cases e:m=l
  ·subst e;exact cV rfl
  ·rw [cE (fun z=>e (gn z))]
   exact jj ((List.mem_cons.mp h).resolve_left fun z=>e z.symm)
theorem xh {H:Hp}{a:Addr}{o:HO} (h:H a=some o):upd H a o=H:=by
 funext b
 by_cases e:b=a
 ·rw [e,ak,h]
 ·rw [aq e]
section
variable {P:Program}{w:World}{K:PySem.W.Frag}{mg:Str->Option Value}{base:Heap}
theorem oR:bootBuiltins "sum"=some (.builtin "sum"):=by decide +kernel
theorem xO:aL ["put","lot"] ["put","lot"] (aB (top 45)):=⟨rfl,rfl,rfl,by decide +kernel,rfl,by decide +kernel,by decide +kernel⟩
noncomputable def jR:Sp:=fun vs H Q _=>∃(d l:Addr) (ps ls:List Str),vs=[.ref d,.ref l]/\H d=some (.dK (kv0 ps))/\H l=some (.tup (ls.map V.str))/\(∀x∈ls,x∈ps)/\ls.length<=60/\∀H',ai H H'->Q (.int 0) H'
theorem vE {f:Addr}{fd:FuncData} (F:Fun K "put_into" "put_into" (top 45) f fd) (hsum:mg "sum"=none):aA P w K mg base CX0 1 f fd ["put","lot"] jR:=by
 refine F.ok xO (fun vs H Q E h=>?_) (fun cdv A outer s H vs Q E hr h=>?_)
 ·obtain⟨d,l,ps,ls,rfl,_⟩:=h
  rfl
 ·obtain⟨d,l,ps,ls,rfl,hd,hl,hin,hz,k⟩:=h
  refine⟨_,ay (aD (aC (ue rfl) rfl hsum oR (ae (bY (N:=["place","put"]) (ix:=[none,some 0]) ⟨rfl,rfl,rfl,by decide⟩ rfl (cJ (pv 1)) (fun _ _ _ _=>bo 0 (by decide) rfl rfl) (fun _ _ _ _=>bK)
   (fun _ _ _ _=>eG (dZ hr) (pv 1) (pv 0) (fun _ _=>rfl))) ag))),?_⟩
  refine⟨_,rfl,l,rfl,⟨_,SqT.of hl⟩,dN (xs:=ls.map V.str) (fits (by rw [List.length_map];omega)) (fun i ys σ H1=>ys=(List.replicate i (0:Int)).map V.int/\H1=H/\∃g,σ=[g,some (.ref d)]) ⟨rfl,rfl,_,rfl⟩
   (fun i ys σ H1 _ q=>⟨by rw [q.1];simp,by rw [q.2.1];exact SqT.of hl⟩) ?_ ?_⟩
  ·rintro i x ys σ H1 hx ⟨rfl,rfl,g,rfl⟩
   rw [List.getElem?_map] at hx
   cases hc:ls[i]? with
   | none=>rw [hc] at hx;cases hx
   | some z =>
    rw [hc] at hx
    cases hx
    refine⟨_,rfl,_,rfl,d,.int 0,rfl,?_,?_,rfl,_,rfl⟩
    ·rw [<- gu (hin z (List.mem_of_getElem? hc))]
     exact bZ.k (k:=Sum.inr z) hd
    ·rw [List.replicate_succ',List.map_append];rfl
  ·rintro ys σ H1 ⟨rfl,rfl,g,rfl⟩ q hq
   refine⟨q,_,rfl,.inl (SqL.of ak),?_⟩
   rw [show (List.replicate (ls.map V.str).length (0:Int)).sum=0 by simp]
   exact k _ (au (ai.refl _) hq)
noncomputable abbrev N46:List Str:=["places","short","many","put","place","needed"]
theorem iJ:aL N46 ["places","short","many"] (aB (top 46)):=⟨rfl,rfl,rfl,by decide +kernel,rfl,by decide +kernel,by decide +kernel⟩
noncomputable def lU:Sp:=fun vs H Q _=>∃(pl sd:Addr) (ps:List Str) (f:List Str->Int) (ls:List (List Str)),vs=[.ref pl,.ref sd,.int 0]/\H pl=some (.lst (ps.map V.str))/\ps.Nodup/\ps.length<=8/\H sd=some (.dT (kvF f ls))/\ls.length<=255/\(∀l∈ls,f l<=0/\l.length<=60/\∀x∈l,x∈ps) /\
 ∀(d:Addr) (H':Hp),ai H H'->H d=none->H' d=some (.dK (kv0 ps))->Q (.ref d) H'
theorem rj {f:Addr}{fd:FuncData} (F:Fun K "fewest_put" "fewest_put" (top 46) f fd) (B:Bl mg) (F1:Fn P w K mg base 1 "put_into" ["put","lot"] jR):aA P w K mg base CX0 2 f fd ["places","short","many"] lU:=by
 refine F.ok iJ (fun vs H Q E h=>?_) (fun cdv A outer s H vs Q E hr h=>?_)
 ·obtain⟨pl,sd,ps,f,ls,rfl,_⟩:=h
  rfl
 ·obtain⟨pl,sd,ps,f,ls,rfl,hpl,hnd,h8,hsd,hl255,hle,k⟩:=h
  refine⟨_,am (aU (i:=3) iJ.nd rfl (Or.inr rfl) (wK (N:=["place","many"]) (ix:=[none,some 2]) ⟨rfl,rfl,rfl,by decide⟩ rfl (dh (pv 0)) (fun _ _ _ _=>bo 0 (by decide) rfl rfl) (fun _ _ _ _=>bK) (fun _ _ _ _=>pv 0) (fun _ _ _ _=>pv 1)))
   (am (dm PassesOwn.never rfl (dh (pv 0)) (br (i:=4) iJ.nd rfl (Or.inr rfl))
    (am (vM (fG (i:=5) (N:=["lot","short","put","place"]) (ix:=[none,some 1,some 3,some 4]) iJ.nd rfl (Or.inl rfl) ⟨rfl,rfl,rfl,by decide⟩ rfl (nQ (pv 1)) (fun _ _ _ _=>bo 0 (by decide) rfl rfl) (fun _ _ _ _=>fe (aV (mY K) (pv 3) (pv 0) (by with_unfolding_all rfl)))
     (fun _ _ _ _=>aF cO (aF dS (eG (dZ hr) (pv 1) (pv 0) (fun _ _=>rfl)) (ar F1 hr (ae (pv 2) (ae (pv 0) ag)))) (eG (dZ hr) (pv 2) (pv 3) (fun _ _=>rfl)))))
    (ay (vS (dZ hr) (pv 3) (pv 4) (aC (ud rfl) rfl B.max j8 (ae (aF eJ (ba (ae aj ag)) (pv 5)) ag)) rfl))))
   (ay (aD (pv 3)))),?_⟩
  refine⟨_,rfl,pl,rfl,⟨_,SqL.of hpl⟩,fun D hD=>?_⟩
  have s1:=au (o:=.dK []) (ai.refl H) hD
  refine rF (K:=K) (a:=pl) (xs:=ps.map V.str) (fun i σ H2=>ai H H2/\(∃x,σ=[x,some (.int 0)])/\H2 D=some (.dK (kv0 (ps.take i)))) ⟨s1,⟨_,rfl⟩,ak⟩
   (fun i σ H2 _ q=>SqL.of (q.1 _ _ hpl)) ?_ ?_
  ·rintro i x σ H2 hx ⟨s2,⟨g,rfl⟩,d2⟩
   rw [List.getElem?_map] at hx
   cases hc:ps[i]? with
   | none=>rw [hc] at hx;cases hx
   | some z =>
    rw [hc] at hx
    cases hx
    have hfresh:z∉ps.take i:=fun hmm=>by
     have nd:=hnd.sublist (List.take_sublist (i + 1) ps)
     rw [List.take_add_one,hc] at nd
     exact (List.nodup_append.mp nd).2.2 _ hmm z (by simp) rfl
    refine⟨_,rfl,_,rfl,_,⟨_,Sum.inr z,d2,rfl,fits (by rw [List.length_map,List.length_take];omega),rfl⟩,eZ s2 hD,⟨_,rfl⟩,?_⟩
    rw [ak,js _ (mi hfresh),List.take_add_one,hc]
    simp [kv0]
  rintro σ H2 ⟨s2,⟨g,rfl⟩,d2⟩
  rw [take_all ps (by simp)] at d2
  refine⟨_,rfl,pl,rfl,⟨_,SqL.of (s2 _ _ hpl)⟩,gs (xs:=ps.map V.str) (fun i σ H3=>ai H H3/\(∃g1 g2,σ=[some (.ref pl),some (.ref sd),some (.int 0),some (.ref D),g1,g2])/\H3 D=some (.dK (kv0 ps))) ⟨s2,⟨_,_,rfl⟩,d2⟩ (fun i σ H3 _ q=>SqL.of (q.1 _ _ hpl)) ?_ ?_⟩
  ·rintro i x σ H3 hx ⟨s3,⟨g1,g2,rfl⟩,d3⟩
   rw [List.getElem?_map] at hx
   cases hc:ps[i]? with
   | none=>rw [hc] at hx;cases hx
   | some z =>
    rw [hc] at hx
    cases hx
    have hz:z∈ps:=List.mem_of_getElem? hc
    have hd3:=s3 _ _ hsd
    have nDs:D≠sd:=fun e=>by rw [e,hsd] at hD;cases hD
    refine⟨_,rfl,sd,_,rfl,hd3,fun o=>?_⟩
    have e1:upd H3 sd (.frz o (.dT (kvF f ls))) sd=some (.frz o (.dT (kvF f ls))):=ak
    refine uq (a:=sd) (o:=o) (kvs:=kvF f ls) (fits (by rw [List.length_map];omega)) (fun j ys σ H4=>ai (upd H3 sd (.frz o (.dT (kvF f ls)))) H4/\(∃x,σ=[x,some (.ref sd),some (.ref D),some (.str z)])/\∃ns:List Int,ys=ns.map V.int/\ns.length<=j/\∀n∈ns,n<=0)
     ⟨ai.refl _,⟨_,rfl⟩,[],rfl,Nat.le_refl _,by simp⟩ (fun j ys σ H4 _ p=>by obtain⟨s4,_,ns,rfl,hz,_⟩:=p;exact⟨by simpa using hz,s4 _ _ e1⟩) ?_ ?_
    ·rintro j p b ys σ H4 hp hb ⟨s4,⟨x,rfl⟩,ns,rfl,hzn,hns⟩
     rw [List.getElem?_map] at hp
     cases hcl:ls[j]? with
     | none=>rw [hcl] at hp;cases hp
     | some l =>
      rw [hcl] at hp
      cases hp
      have hlm:=List.mem_of_getElem? hcl
      obtain⟨h0,h60,hlin⟩:=hle l hlm
      have hb':H4 b=some (.tup (l.map V.str)):=by rw [<- dQ];exact hb
      have dD:H4 D=some (.dK (kv0 ps)):=s4 _ _ (by rw [aq nDs];exact d3)
      refine⟨_,rfl,_,rfl,b,l.map V.str,rfl,.inr (SqT.of hb'),rfl,ef l,_,rfl,?_⟩
      refine bA (fun _=>?_) (fun _=>⟨s4,⟨_,rfl⟩,ns,rfl,by omega,hns⟩)
      have gd:bZ H4 sd (.ref b) (some (.int (f l))):=.inr ⟨_,bp l,b,.inr ⟨o,s4 _ _ e1⟩,rfl,by rw [dQ];exact hb',(jj hlm).symm⟩
      refine⟨_,rfl,_,rfl,sd,_,rfl,gd,?_⟩
      refine⟨_,rfl,_,rfl,D,b,ps,l,rfl,dD,hb',hlin,h60,fun H5 s5=>⟨_,_,rfl,rfl,?_⟩⟩
      have gz:bZ H5 D (.str z) (some (.int 0)):=by
       rw [<- gu hz]
       exact bZ.k (k:=Sum.inr z) (s5 _ _ dD)
      refine⟨_,rfl,_,rfl,D,_,rfl,gz,_,_,rfl,rfl,s4.trans s5,⟨_,rfl⟩,ns++[f l - 0 + 0],by simp,by simp;omega,fun n hn=>?_⟩
      rcases List.mem_append.mp hn with q | q
      ·exact hns n q
      ·have:n=f l - 0 + 0:=by simpa using q
       omega
    rintro ys σ H4 ⟨s4,⟨x,rfl⟩,ns,rfl,hzn,hns⟩ en hen
    have nen:en≠sd:=fun e=>by rw [e,s4 _ _ e1] at hen;cases hen
    refine⟨sd,o,_,by rw [aq nen.symm];exact s4 _ _ e1,fun o' u' (q:H sd=_)=>(by rw [hsd] at q;cases q),?_⟩
    have s5:ai H3 (upd (upd H4 en (.lst (ns.map V.int))) sd (.dT (kvF f ls))):=fun b ob e=>by
     by_cases q:b=sd
     ·subst q;rw [ak,<- e,hd3]
     ·have e4:H4 b=some ob:=s4 _ _ (by rw [aq q];exact e)
      rw [aq q,aq (bu e4 hen)];exact e4
    have n5:upd (upd H4 en (.lst (ns.map V.int))) sd (.dT (kvF f ls)) en=some (.lst (ns.map V.int)):=by rw [aq nen,ak]
    generalize upd (upd H4 en (.lst (ns.map V.int))) sd (.dT (kvF f ls))=H5 at s5 n5 ⊢
    refine⟨by show 1<=sizeLine;decide,fun l1 hl1=>?_⟩
    have s6:=au (o:=.lst [V.int 0]) (ai.refl H5) hl1
    have e6:upd H5 l1 (.lst [V.int 0]) l1=some (.lst [V.int 0]):=ak
    generalize upd H5 l1 (.lst [V.int 0])=H6 at s6 e6 ⊢
    have hn255:ns.length<=255:=by
     have:(kvF f ls).length=ls.length:=by simp
     omega
    refine⟨_,rfl,l1,en,[V.int 0],ns.map V.int,rfl,rfl,e6,s6 _ _ n5,Nat.le_of_lt (fits (by simp;omega)),fun l2 hl2=>?_⟩
    have s7:=au (o:=.lst ([V.int 0]++ns.map V.int)) (ai.refl H6) hl2
    have e7:upd H6 l2 (.lst ([V.int 0]++ns.map V.int)) l2=some (.lst ((0::ns).map V.int)):=ak
    generalize upd H6 l2 (.lst ([V.int 0]++ns.map V.int))=H7 at s7 e7 ⊢
    refine⟨l2,0::ns,rfl,SqL.of e7,by simp,?_⟩
    rw [uK hns]
    have t7:=s5.trans (s6.trans s7)
    have d7:=t7 _ _ d3
    refine⟨_,rfl,_,rfl,D,_,rfl,eB.k (k:=Sum.inr z) d7 (fits (by rw [List.length_map];omega)),?_⟩
    rw [vX hz,xh d7]
    exact⟨s3.trans t7,⟨_,_,rfl⟩,d7⟩
  ·rintro σ H3 ⟨s3,⟨g1,g2,rfl⟩,d3⟩
   exact⟨_,rfl,k D H3 s3 hD d3⟩
noncomputable abbrev N47:List Str:=["lots","told","lot","wider"]
theorem ky:aL N47 ["lots"] (aB (top 47)):=⟨rfl,rfl,rfl,by decide +kernel,rfl,by decide +kernel,by decide +kernel⟩
noncomputable def kT:Sp:=fun vs H Q _=>∃l:Addr,vs=[.ref l]/\H l=some (.lst [])/\∀(q:Addr) (H':Hp),ai H H'->H' q=some (.lst [])->Q (.ref q) H'
theorem qz {f:Addr}{fd:FuncData} (F:Fun K "greatest" "greatest" (top 47) f fd):aA P w K mg base CX0 1 f fd ["lots"] kT:=by
 refine F.ok ky (fun vs H Q E h=>?_) (fun cdv A outer s H vs Q E hr h=>?_)
 ·obtain⟨l,rfl,_⟩:=h
  rfl
 ·obtain⟨l,rfl,hl,k⟩:=h
  refine⟨_,am (aU (i:=1) ky.nd rfl (Or.inl rfl) (ba ag)) (am (dm PassesOwn.never rfl (dh (pv 0)) (br (i:=2) ky.nd rfl (Or.inr rfl)) cx) (ay (aD (pv 1)))),?_⟩
  refine⟨Nat.zero_le _,fun q hq=>?_⟩
  have s1:=au (o:=.lst []) (ai.refl H) hq
  have e1:upd H q (.lst []) q=some (.lst []):=ak
  generalize upd H q (.lst [])=H1 at s1 e1 ⊢
  refine⟨_,rfl,l,rfl,⟨_,SqL.of (s1 _ _ hl)⟩,gs (K:=K) (xs:=[]) (fun i σ H3=>ai H1 H3/\σ[1]?=some (some (.ref q))) ⟨ai.refl _,rfl⟩ (fun i σ H3 _ p=>SqL.of (p.1 _ _ (s1 _ _ hl))) (fun i x σ H3 hx=>by simp at hx) (fun σ H3 p=>⟨_,p.2,k q H3 (s1.trans p.1) (p.1 _ _ e1)⟩)⟩
end
section
variable {P:Program}{w:World}{K:PySem.W.Frag}{mg:Str->Option Value}{base:Heap}
noncomputable abbrev N48:List Str:=["web","root","many","lots","counts","short","put","just"]
theorem fA:aL N48 ["web","root","many"] (aB (top 48)):=⟨rfl,rfl,rfl,by decide +kernel,rfl,by decide +kernel,by decide +kernel⟩
noncomputable def iZ (CW CP CN:Addr):Sp:=fun vs H _ E=>(∃x y z:V,vs=[x,y,z]/\aW x H/\∀H',ai H H'->E (.ref CW) none H') \/
 (∃(v pa ra:Addr) (ps:List Str) (rs:List (Addr×Row)) (y z:V),vs=[.ref v,y,z]/\bg H v pa ra ps rs/\Good ps (rs.map (·.2))/\bF ps y H/\∀H',ai H H'->E (.ref CP) none H') \/
 ∃(v pa ra:Addr) (ps:List Str) (rs:List (Addr×Row)) (root:Str) (z:V),vs=[.ref v,.str root,z]/\bg H v pa ra ps rs/\Good ps (rs.map (·.2))/\root∈ps/\bD 0 6 z H/\∀H',ai H H'->E (.ref CN) none H'
theorem rK {f CW CP CN:Addr}{fd:FuncData} (F:Fun K "mended" "mended" (top 48) f fd) (B:Bl mg) (F1:FnX P w K mg base 4 "need_web" ["thing"] (cC (dY .non) (eO CW))) (F2:FnX P w K mg base 2 "need_place" ["web","thing"] (cC iO (jm CP))) (F3:FnX P w K mg base 2 "need_number" ["thing","low","high"] (cC jk (iU CN))) :
  aA P w K mg base (CXE P w) 6 f fd ["web","root","many"] (iZ CW CP CN):=by
 refine F.okX fA (fun vs H Q E h=>?_) (fun cdv A outer s H vs Q E hr h=>?_)
 ·rcases h with ⟨x,y,z,rfl,_⟩ | ⟨v,pa,ra,ps,rs,y,z,rfl,_⟩ | ⟨v,pa,ra,ps,rs,root,z,rfl,_⟩ <;> rfl
 ·have hr4:aK 4 _:=hr.mono (by decide)
  have hr2:aK 2 _:=hr.mono (by decide)
  obtain⟨tm,hmost⟩:=B.most
  refine⟨_,am (bN (bT (E:=E) F1 hr4 cq (ae (pv 0) ag))) (am (bN (bT (E:=E) F2 hr2 cq (ae (pv 0) (ae (pv 1) ag))))
   (am (bN (bT (E:=E) F3 hr2 cq (ae (pv 2) (ae aj (ae (cG (v:=.int 6) rfl hmost ⟨_,rfl⟩) ag))))) cx)),?_⟩
  rcases h with ⟨x,y,z,rfl,hw,k⟩ | ⟨v,pa,ra,ps,rs,y,z,rfl,W,G,hp,k⟩ | ⟨v,pa,ra,ps,rs,root,z,rfl,W,G,hroot,hz,k⟩
  ·exact⟨_,rfl,.inr ⟨x,rfl,hw,k⟩⟩
  ·exact⟨_,rfl,.inl ⟨v,pa,ra,ps,rs,rfl,W,G,fun H1 s1=>⟨_,rfl,_,rfl,.inr ⟨v,pa,ra,ps,rs,y,rfl,W.same s1,hp.same s1,k H1 s1⟩⟩⟩⟩
  ·exact⟨_,rfl,.inl ⟨v,pa,ra,ps,rs,rfl,W,G,fun H1 s1=>⟨_,rfl,_,rfl,.inl ⟨v,pa,ra,ps,rs,root,rfl,W.same s1,hroot,_,rfl,.inr ⟨z,0,6,rfl,hz.same s1,by decide +kernel,by decide +kernel,by decide +kernel,by decide +kernel,k H1 s1⟩⟩⟩⟩⟩
noncomputable def ja:Sp:=fun vs H Q _=>∃(v pa ra:Addr) (ps:List Str) (rs:List (Addr×Row)) (root:Str),vs=[.ref v,.str root,.int 0]/\bg H v pa ra ps rs/\Good ps (rs.map (·.2))/\ps.length<=8/\root∈ps/\∀(q a b:Addr) (H':Hp),ai H H'->H' q=some (.tup [.ref a,.ref b])->H' a=some (.tup [])->H' b=some (.lst [])->Q (.ref q) H'
theorem qZ {f CW CP CN:Addr}{fd:FuncData} (F:Fun K "mended" "mended" (top 48) f fd) (B:Bl mg) (F1:FnX P w K mg base 4 "need_web" ["thing"] (cC (dY .non) (eO CW))) (F2:FnX P w K mg base 2 "need_place" ["web","thing"] (cC iO (jm CP))) (F3:FnX P w K mg base 2 "need_number" ["thing","low","high"] (cC jk (iU CN)))
  (F4:Fn P w K mg base 2 "lots_without" ["web","root"] nW) (F5:Fn P w K mg base 2 "counts_into" ["rows","lots"] jt) (F6:Fn P w K mg base 2 "fewest_put" ["places","short","many"] lU) (F7:Fn P w K mg base 1 "put_into" ["put","lot"] jR) (F8:Fn P w K mg base 1 "greatest" ["lots"] kT) :
  aA P w K mg base (CXE P w) 6 f fd ["web","root","many"] ja:=by
 refine F.okX fA (fun vs H Q E h=>?_) (fun cdv A outer s H vs Q E hr h=>?_)
 ·obtain⟨v,pa,ra,ps,rs,root,rfl,_⟩:=h
  rfl
 ·obtain⟨v,pa,ra,ps,rs,root,rfl,W,G,h8,hroot,k⟩:=h
  have hr4:aK 4 _:=hr.mono (by decide)
  have hr2:aK 2 _:=hr.mono (by decide)
  have hr1:aK 1 _:=hr.mono (by decide)
  obtain⟨tm,hmost⟩:=B.most
  refine' ⟨_,?d0,?main⟩
  case' d0=>refine' am (bN (bT (E:=E) F1 hr4 cq (ae (pv 0) ag))) ?d1
  case' d1=>refine' am (bN (bT (E:=E) F2 hr2 cq (ae (pv 0) (ae (pv 1) ag)))) ?d2
  case' d2=>refine' am (bN (bT (E:=E) F3 hr2 cq (ae (pv 2) (ae aj (ae (cG (v:=.int 6) rfl hmost ⟨_,rfl⟩) ag))))) ?d3
  case' d3=>refine' am (aU (i:=3) fA.nd rfl (Or.inl rfl) (ar F4 hr2 (ae (pv 0) (ae (pv 1) ag)))) ?d4
  case' d4=>refine' am (aU (i:=4) fA.nd rfl (Or.inr rfl) (ar F5 hr2 (ae (aG aO (pv 0) aj (fun _ _=>rfl)) (ae (pv 3) ag)))) ?d5
  case' d5=>refine' am (aU (i:=5) fA.nd rfl (Or.inr rfl) (o9 (N:=["lot","many","counts"]) (ix:=[none,some 2,some 4]) (lt0 hr) ⟨rfl,rfl,rfl,by decide⟩ rfl (dh (pv 3)) (fun _ _ _ _=>bo 0 (by decide) rfl rfl) (fun _ _ _ _=>bK) (fun _ _ _ _=>pv 0) (fun _ _ _ _=>aF dS (pv 1) (eG (dZ hr) (pv 2) (pv 0) (fun _ _=>rfl))))) ?d6
  case' d6=>refine' am (aU (i:=6) fA.nd rfl (Or.inr rfl) (ar F6 hr2 (ae (bY (N:=["place","root"]) (ix:=[none,some 1]) ⟨rfl,rfl,rfl,by decide⟩ rfl (cJ (aG aO (pv 0) aj (fun _ _=>rfl))) (fun _ _ _ _=>bo 0 (by decide) rfl rfl) (fun _ _ _ _=>fe (aV cf (pv 0) (pv 1) (aT _))) (fun _ _ _ _=>pv 0)) (ae (pv 5) (ae (pv 2) ag))))) ?d7
  case' d7=>refine' am (fG (i:=7) (N:=["lot","put","short"]) (ix:=[none,some 6,some 5]) fA.nd rfl (Or.inl rfl) ⟨rfl,rfl,rfl,by decide⟩ rfl (dh (pv 3)) (fun _ _ _ _=>bo 0 (by decide) rfl rfl) (fun _ _ _ _=>fe (fF dG eP (ar F7 hr1 (ae (pv 1) (ae (pv 0) ag))) (eG (dZ hr) (pv 2) (pv 0) (fun _ _=>rfl)) aj)) (fun _ _ _ _=>pv 0)) ?d8
  case d8=>exact ay (aD (aE (ae (dA fZ rfl B.tuple cM (ae (xl (N:=["place","step","put"]) (ix:=[none,none,some 6]) ⟨rfl,rfl,rfl,by decide⟩ rfl (vh (pv 6)) (fun _ _ _ _=>bo 0 (by decide) rfl rfl) (fun _ _ _ _=>bK) (fun _ _ _ _=>eY rfl B.range (ae (eG (dZ hr) (pv 2) (pv 0) (fun _ _=>rfl)) ag)) (fun _ _ _ _=>bo 1 (by decide) rfl rfl) (fun _ _ _ _=>bK) (fun _ _ _ _=>pv 0)) ag)) (ae (ar F8 hr1 (ae (pv 7) ag)) ag))))
  case main =>
  have hz:rs.length<=60:=by have:=G.rz;simpa using this
  have hnd0:ps.Nodup:=mL G.so
  refine⟨_,rfl,.inl ⟨v,pa,ra,ps,rs,rfl,W,G,fun H1 s1=>⟨_,rfl,_,rfl,.inl ⟨v,pa,ra,ps,rs,root,rfl,W.same s1,hroot,_,rfl,.inl ⟨0,0,6,rfl,by decide,by decide,?_⟩⟩⟩⟩⟩
  refine⟨_,rfl,_,rfl,v,pa,ra,ps,rs,root,rfl,W.same s1,h8,fun lo lts H2 s2 lo2 A2 e2=>?_⟩
  have s12:=s1.trans s2
  have W2:=W.same s12
  have hnd:(lts.map (·.2)).Nodup:=by rw [e2];exact la (hnd0.filter _)
  have htl:(bH lts).length=lts.length:=by simp
  have hl255:lts.length<=255:=by
   have q:=me (others ps root)
   have q2:=congrArg List.length e2
   rw [List.length_map] at q2
   have q3:=jL (Nat.le_trans (f9 ps root) h8)
   omega
  have hsub:∀x∈lts,∀y∈x.2,y∈others ps root:=fun x hx y hy=>(mJ (by rw [<- e2];exact List.mem_map_of_mem (f:=fun z:Addr×List Str=>z.2) hx)).subset hy
  have hlen:∀x∈lts,x.2.length<=60:=fun x hx=>by
   have q:=(mJ (ps:=others ps root) (by rw [<- e2];exact List.mem_map_of_mem (f:=fun z:Addr×List Str=>z.2) hx)).length_le
   have:=f9 ps root
   omega
  refine⟨_,rfl,aI (j:=1) (.inr (SqT.of W2.tp)) rfl rfl ⟨_,rfl,ra,lo,rs,lts,rfl,.inr W2.rl,W2.rows,hz,lo2,A2,hnd,hl255,fun c kvs H3 s3 c3 v3=>?_⟩⟩
  have s13:=s12.trans s3
  have lo3:=s3 _ _ lo2
  have A3:=A2.same s3
  refine⟨_,rfl,lo,rfl,⟨_,SqL.of lo3⟩,fun D hD=>?_⟩
  have sd:=au (o:=.dT []) (ai.refl H3) hD
  refine jf (K:=K) (a:=lo) (xs:=bH lts) (fun i σ H4=>ai H3 H4/\(∃x,σ=[x,some (.int 0),some (.ref c)])/\H4 D=some (.dT (kvF (fun l=>0 - (cnt rs l:Int)) ((lts.take i).map (·.2))))) ⟨sd,⟨_,rfl⟩,ak⟩
   (fun i σ H4 _ q=>SqL.of (q.1 _ _ lo3)) ?_ ?_
  ·rintro i x σ H4 hx ⟨s4,⟨g,rfl⟩,d4⟩
   obtain⟨lt,hlt,rfl⟩:=fI hx
   have hm:=List.mem_of_getElem? hlt
   have hi:i < lts.length:=(List.getElem?_eq_some_iff.mp hlt).1
   have hlt4:=s4 _ _ (A3 lt hm)
   have gc:bZ H4 c (.ref lt.1) (some (.int (cnt rs lt.2))):=by
    rw [<- v3 lt hm];exact bZ.t (s4 _ _ c3) (by rw [dQ];exact hlt4)
   have hfresh:lt.2∉(lts.take i).map (·.2):=fun hmm=>by
    have nd:=hnd.sublist ((List.take_sublist (i + 1) lts).map (fun x:Addr×List Str=>x.2))
    rw [List.take_add_one,hlt,List.map_append] at nd
    exact (List.nodup_append.mp nd).2.2 _ hmm lt.2 (by simp) rfl
   refine⟨_,rfl,_,rfl,_,rfl,_,rfl,c,_,rfl,gc,_,_,rfl,rfl,_,⟨_,bp lt.2,lt.1,d4,rfl,by rw [dQ];exact hlt4,by rw [List.length_map,List.length_map,List.length_take,sizeLine_eq];omega,rfl⟩,eZ s4 hD,⟨_,rfl⟩,?_⟩
   rw [ak,js _ (my hfresh),List.take_add_one,hlt]
   simp [kvF]
  rintro σ H4 ⟨s4,⟨g,rfl⟩,d4⟩
  rw [htl,take_all lts rfl] at d4
  have s14:=s13.trans s4
  have W4:=W.same s14
  have lo4:=s4 _ _ lo3
  have A4:=A3.same s4
  refine⟨_,rfl,aI (j:=0) (.inr (SqT.of W4.tp)) rfl rfl ⟨pa,rfl,⟨_,SqT.of W4.pl⟩,gr (xs:=ps.map V.str) (fits (by rw [List.length_map];omega)) (fun i ys σ H5=>ys=((ps.take i).filter fun y=>!decide (y=root)).map V.str/\H5=H4/\∃x,σ=[x,some (.str root)]) ⟨rfl,rfl,_,rfl⟩
   (fun i ys σ H5 _ q=>⟨by rw [q.1,List.length_map];exact Nat.le_trans (List.length_filter_le _ _) (by rw [List.length_take];omega),by rw [q.2.1];exact SqT.of W4.pl⟩) ?_ ?_⟩⟩
  ·rintro i x ys σ H5 hx ⟨rfl,rfl,g,rfl⟩
   rw [List.getElem?_map] at hx
   cases hc:ps[i]? with
   | none=>rw [hc] at hx;cases hx
   | some z =>
    rw [hc] at hx
    cases hx
    have tf:=gQ (fun y:Str=>!decide (y=root)) ps i z hc
    refine⟨_,rfl,_,rfl,rfl,_,rfl,?_⟩
    have e:(!decide (V.str z=V.str root))=!decide (z=root):=by congr 1;exact decide_eq_decide.mpr ⟨fun h=>V.str.inj h,fun h=>by rw [h]⟩
    rw [e]
    refine bA (fun c=>⟨_,rfl,?_,rfl,_,rfl⟩) (fun c=>⟨?_,rfl,_,rfl⟩)
    ·rw [tf,c];simp
    ·rw [tf];simp only [Bool.not_eq_true] at c;rw [c];simp
  rintro ys σ H5 ⟨rfl,rfl,g,rfl⟩ pl hpl
  rw [take_all ps (by simp)]
  have s5:=au (o:=.lst ((ps.filter fun y=>!decide (y=root)).map V.str)) (ai.refl H5) hpl
  have p5:upd H5 pl (.lst ((ps.filter fun y=>!decide (y=root)).map V.str)) pl=some (.lst ((others ps root).map V.str)):=ak
  generalize upd H5 pl (.lst ((ps.filter fun y=>!decide (y=root)).map V.str))=H6 at s5 p5 ⊢
  have d6:=s5 _ _ d4
  refine⟨_,rfl,_,rfl,pl,D,others ps root,_,lts.map (·.2),rfl,p5,hnd0.filter _,Nat.le_trans (f9 ps root) h8,d6,by rw [List.length_map];exact hl255,fun l hl=>?_,fun d H7 s7 hd7 e7=>?_⟩
  ·obtain⟨x,hx,rfl⟩:=List.mem_map.mp hl
   exact⟨by omega,hlen x hx,hsub x hx⟩
  have t57:=s5.trans s7
  have lo7:=t57 _ _ lo4
  have A7:=A4.same t57
  have d7:=t57 _ _ d4
  refine⟨_,rfl,lo,rfl,⟨_,SqL.of lo7⟩,ub (xs:=bH lts) (fits (by omega)) (fun i ys σ H8=>ys=[]/\ai H7 H8/\∃x,σ=[x,some (.ref d),some (.ref D)]) ⟨rfl,ai.refl _,_,rfl⟩
   (fun i ys σ H8 _ q=>⟨by rw [q.1];simp,SqL.of (q.2.1 _ _ lo7)⟩) ?_ ?_⟩
  ·rintro i x ys σ H8 hx ⟨rfl,s8,g,rfl⟩
   obtain⟨lt,hlt,rfl⟩:=fI hx
   have hm:=List.mem_of_getElem? hlt
   have l8:=s8 _ _ (A7 lt hm)
   refine⟨_,rfl,_,rfl,d,lt.1,others ps root,lt.2,rfl,s8 _ _ e7,l8,hsub lt hm,hlen lt hm,fun H9 s9=>?_⟩
   have gd:bZ H9 D (.ref lt.1) (some (.int (0 - (cnt rs lt.2:Int)))):=by
    rw [<- jj (f:=fun l=>0 - (cnt rs l:Int)) (List.mem_map_of_mem (f:=fun z:Addr×List Str=>z.2) hm)]
    exact bZ.t (s9 _ _ (s8 _ _ d7)) (by rw [dQ];exact s9 _ _ l8)
   refine⟨_,rfl,_,rfl,D,_,rfl,gd,rfl,_,rfl,?_⟩
   refine bA (fun _=>⟨_,_,rfl,rfl,_,rfl,?_⟩) (fun _=>⟨_,rfl,aH ⟨rfl,s8.trans s9,_,rfl⟩⟩)
   exact fQ (by omega) ⟨rfl,s8.trans s9,_,rfl⟩
  rintro ys σ H8 ⟨rfl,s8,g,rfl⟩ ju hju
  have s9:=au (o:=.lst []) s8 hju
  have j9:upd H8 ju (.lst []) ju=some (.lst []):=ak
  generalize upd H8 ju (.lst [])=H9 at s9 j9 ⊢
  have e9:=s9 _ _ e7
  have njd:ju≠d:=fun z=>by rw [z,e9] at j9;cases j9
  refine⟨_,rfl,d,_,rfl,e9,fun o=>?_⟩
  have f10:upd H9 d (.frz o (.dK (kv0 (others ps root)))) d=some (.frz o (.dK (kv0 (others ps root)))):=ak
  have j10:upd H9 d (.frz o (.dK (kv0 (others ps root)))) ju=some (.lst []):=by rw [aq njd];exact j9
  have hdH:H d=none:=s14.free (s5.free hd7)
  have s10:ai H (upd H9 d (.frz o (.dK (kv0 (others ps root))))):=eZ (s14.trans (t57.trans s9)) hdH
  generalize upd H9 d (.frz o (.dK (kv0 (others ps root))))=H10 at f10 j10 s10 ⊢
  have hol:=f9 ps root
  refine⟨fun i m ys σ H=>m=(others ps root).length - i/\i<=(others ps root).length/\ys=[]/\H=H10/\∃x y,σ=[x,y,some (.ref d)],⟨(others ps root).length,by simp,Nat.zero_le _,rfl,rfl,_,_,rfl⟩,?_⟩
  rintro i m ys σ H' ⟨rfl,hi,rfl,rfl,x,y,rfl⟩
  by_cases hlt:i < (others ps root).length
  ·refine .inr ⟨⟨_,f10,by simpa using hlt⟩,fun ys' σ' H''=>ys'=[]/\H''=H'/\∃x y,σ'=[x,y,some (.ref d)],fun ys' σ' H'' q=>⟨(others ps root).length - (i + 1),by omega,rfl,hlt,q.1,q.2.1,q.2.2⟩,fun z H'' yl=>?_⟩
   obtain⟨rfl,yl⟩:=yl
   obtain⟨p,hp,rfl⟩:=yl _ f10
   rw [List.getElem?_map] at hp
   cases hc:(others ps root)[i]? with
   | none=>rw [hc] at hp;cases hp
   | some t =>
    rw [hc] at hp
    cases hp
    have gt:bZ H'' d (.str t) (some (.int 0)):=by
     rw [<- gu (List.mem_of_getElem? hc)]
     exact .inl ⟨_,Sum.inr t,.inr ⟨o,f10⟩,rfl,rfl⟩
    unfold cy cL
    refine ao ⟨_,rfl,_,rfl,d,_,rfl,gt,0,rfl,by omega,by omega,?_⟩
    refine⟨fun i m ys σ H=>i=0/\ys=[]/\H=H''/\∃x y,σ=[x,y,some (.ref d)],⟨0,rfl,rfl,rfl,_,_,rfl⟩,?_⟩
    rintro i m ys σ H3' ⟨rfl,rfl,rfl,hσ⟩
    exact .inl ⟨Nat.le_refl _,by simp,rfl,rfl,hσ⟩
  ·refine .inl ⟨⟨_,f10,by simp;omega⟩,by simp,fun l1 hl1=>?_⟩
   have s11:=au (o:=.lst []) (ai.refl H') hl1
   have e11:upd H' l1 (.lst []) l1=some (.lst []):=ak
   have j11:=s11 _ _ j10
   generalize upd H' l1 (.lst [])=H11 at s11 e11 j11 ⊢
   refine⟨l1,_,rfl,.inl ⟨SqL.of e11,fun tt htt=>?_⟩⟩
   have s12':=au (o:=.tup []) (ai.refl H11) htt
   have e12:upd H11 tt (.tup []) tt=some (.tup []):=ak
   generalize upd H11 tt (.tup [])=H12 at s12' e12 ⊢
   refine⟨_,rfl,ju,rfl,s12' _ _ j11,fun gq H13 s13' e13=>?_⟩
   refine⟨by show 2<=sizeLine;decide,fun tq htq=>?_⟩
   have s14':=au (o:=.tup [.ref tt,.ref gq]) (ai.refl H13) htq
   exact k tq tt gq _ (s10.trans (s11.trans (s12'.trans (s13'.trans s14')))) ak (s14' _ _ (s13' _ _ e12)) (s14' _ _ e13)
end
end K45
namespace K45
open PySem L2
theorem kB {f:Expr}{as:List Expr}{ks:List Keyword}{p:Pos}{es:List Expr}{env:Env}:starEach (.Call f as ks p::es) env=(false,eval (.Call f as ks p) env)::starEach es env:=rfl
theorem ut (xs:List V) (x:V):cz (xs++[x]) (some (-1)) none=[x]:=by
 unfold cz
 simp [HT.sIx]
 have e:(-1 + ((xs.length:Int) + 1)).toNat=xs.length:=by omega
 rw [e]
 simp
theorem Yd.last {K:PySem.W.Frag}{σ:St}{H:Hp}{pa:Addr}{ps ini:List Str}{l:Str} (s2:σ[2]?=some (some (.ref pa))) (h2:H pa=some (.tup (ps.map V.str))) (e:ps=ini++[l]):Yd (tSl (pG K) (bz 2) (kc (tUn (rU fun i=>.int (-i)) (tC (.int 1)))) nj) σ H (Dv (.tuple [.str l])):=fun H' s Q k=>by
 have hc:cz (ps.map V.str) (some (-1)) none=[.str l]:=by rw [e,List.map_append];exact ut _ _
 refine⟨_,s2,1,rfl,_,rfl,pa,_,rfl,SqT.of (s _ _ h2),fun z=>?_,fun p hp=>?_⟩
 ·have z':ps.map V.str=[.str l]:=z.symm.trans hc
  exact k _ _ (ai.refl _) (.tup (by rw [<- z'];exact s _ _ h2) (.cons (.str _) .nil))
 ·have z':cz (ps.map V.str) (some (-1)) none=[V.str l]:=hc
  have s3:=au (o:=.tup [V.str l]) (ai.refl H') hp
  show Q (.ref p) (upd H' p (.tup (cz (ps.map V.str) (some (-1)) none)))
  rw [z']
  exact k _ _ s3 (.tup ak (.cons (.str _) .nil))
theorem Yd.revD {K:PySem.W.Frag}{te:TE}{σ:St}{H:Hp}{ds:List PyData} (h:Yd te σ H (Dv (.tuple ds))):Yd (oP K te (kc (tUn (rU fun i=>.int (-i)) (tC (.int 1))))) σ H (Dv (.tuple ds.reverse)):=fun H' s Q k=>h H' s _ fun x H1 s1 hx=>by
 cases hx with
 | @tup a xs _ e q =>
  refine⟨1,rfl,_,rfl,rfl,a,_,rfl,SqT.of e,fun p hp=>?_⟩
  have s2:=au (o:=.tup xs.reverse) (ai.refl H1) hp
  exact k _ _ (s1.trans s2) (.tup ak (DVs.same s2 (DVs.rev q)))
section
variable {P:Program}{w:World}{K:PySem.W.Frag}{mg:Str->Option Value}{base:Heap}
noncomputable def ny:Sp:=fun vs H Q _=>∃(p v pa ra:Addr) (ps:List Str) (rs:List (Addr×Row)),vs=[.ref p,.ref v]/\Pot H p/\bg H v pa ra ps rs/\Good ps (rs.map (·.2))/\ps.length<=8/\(∀x∈ps,x.length<=7)/\∀(x:V) (H':Hp),Pot H' p->Kp [p] H H'->aW x H'->Q x H'
noncomputable abbrev N58:List Str:=["_law_pot_here","_law_web_here","_law_places","_law_rows","_law_first","_law_some"]
theorem fz:aL N58 ["_law_pot_here","_law_web_here"] (aB (top 58)):=⟨rfl,rfl,rfl,by decide +kernel,rfl,by decide +kernel,by decide +kernel⟩
theorem rY {f:Addr}{fd:FuncData} (F:Fun K "_law_no_web" "_law_no_web" (top 58) f fd) (B:Bl mg) (Ft:Fn P w K mg base 1 "_law_take" ["_law_pot_here","_law_many"] cK):aA P w K mg base CX0 2 f fd ["_law_pot_here","_law_web_here"] ny:=by
 refine F.ok fz (fun vs H Q E h=>?_) (fun cdv A outer s H vs Q E hr h=>?_)
 ·obtain⟨p,v,pa,ra,ps,rs,rfl,_⟩:=h
  rfl
 ·obtain⟨p,v,pa,ra,ps,rs,rfl,hp,W,G,h8,h7,k⟩:=h
  refine' ⟨_,?d0,?main⟩
  case' d0=>refine' am ?s0 ?d1
  case' d1=>refine' am ?sf ?d2
  case' d2=>refine' am ?s1 ?d3
  case' d3=>refine' am ?s2 ?d4
  case' d4=>refine' am ?s3 ?r1
  case s0=>exact dR (pv 1) (dj rfl (n:=2) (bC (br (i:=2) fz.nd rfl (Or.inl rfl)) (bC (br (i:=3) fz.nd rfl (Or.inl rfl)) cX)))
  case sf=>exact aU (i:=4) fz.nd rfl (Or.inl rfl) (aG aO (pv 2) aj (fun _ _=>rfl))
  case s1 =>
   refine' aU (i:=5) ?kand ?kax ?kay ?kaz ?kahs ?kahf
   case kand=>exact fz.nd
   case kax=>exact rfl
   case kay=>exact Or.inl rfl
   case kahf=>first | exact .inl rfl | exact .inr rfl
   case' kaz=>refine' ba ?kal0
   case' kal0=>refine' ae ?kai0 ?kal1 ?kah0
   case kai0=>exact eI
   case kah0=>exact aS
   case' kal1=>refine' ae ?kai1 ?kal2 ?kah1
   case kai1=>exact aj
   case kah1=>exact aS
   case' kal2=>refine' ae ?kai2 ?kal3 ?kah2
   case kai2=>exact aM
   case kah2=>exact aS
   case' kal3=>refine' ae ?kai3 ?kal4 ?kah3
   case kai3=>exact aE ag
   case kah3=>exact aR
   case' kal4=>refine' ae ?kai4 ?kal5 ?kah4
   case kai4=>exact ba ag
   case kah4=>exact dJ
   case' kal5=>refine' ae ?kai5 ?kal6 ?kah5
   case kai5=>exact fb
   case kah5=>exact fC
   case' kal6=>refine' ae ?kai6 ?kal7 ?kah6
   case kai6=>exact aE (ae (pv 2) ag bq)
   case kah6=>exact aR
   case' kal7=>refine' ae ?kai7 ?kal8 ?kah7
   case kai7=>exact aE (ae (pv 2) (ae (pv 3) (ae (aE ag) ag aR) bq) bq)
   case kah7=>exact aR
   case' kal8=>refine' ae ?kai8 ?kal9 ?kah8
   case kai8=>exact ba (ae (pv 2) (ae (pv 3) ag bq) bq)
   case kah8=>exact dJ
   case' kal9=>refine' ae ?kai9 ?kal10 ?kah9
   case kai9=>exact aE (ae (dA iL rfl B.list jT (ae (pv 2) ag)) (ae (pv 3) ag bq) kB)
   case kah9=>exact aR
   case' kal10=>refine' ae ?kai10 ?kal11 ?kah10
   case kai10=>exact aE (ae (aE ag) (ae (aE ag) ag aR) aR)
   case kah10=>exact aR
   case kal11=>exact ag
   case kahs=>kernel_rfl
  case s2 =>
   refine' aU (i:=5) ?kbnd ?kbx ?kby ?kbz ?kbhs ?kbhf
   case kbnd=>exact fz.nd
   case kbx=>exact rfl
   case kby=>exact Or.inl rfl
   case kbhf=>first | exact .inl rfl | exact .inr rfl
   case' kbz=>refine' aF ?kbo ?kba ?kbb
   case kbo=>exact eJ
   case kba=>exact pv 5
   case' kbb=>refine' ba ?kbl0
   case' kbl0=>refine' ae ?kbi0 ?kbl1 ?kbh0
   case kbi0=>exact aE (ae (pv 2) (ae (dA iL rfl B.list jT (ae (pv 3) ag)) ag kB) bq)
   case kbh0=>exact aR
   case' kbl1=>refine' ae ?kbi1 ?kbl2 ?kbh1
   case kbi1=>exact aE (ae (aF jB (pv 2) (gk nB (pv 2) (fK (gI gC aj)) gA)) (ae (pv 3) ag bq) fv)
   case kbh1=>exact aR
   case' kbl2=>refine' ae ?kbi2 ?kbl3 ?kbh2
   case kbi2=>exact aE (ae (pv 2) (ae (aE (ae (aE (ae (pv 4) (ae (pv 4) (ae (pv 4) ag bq) bq) bq)) ag aR)) ag aR) bq)
   case kbh2=>exact aR
   case kbl3=>exact ag
   case kbhs=>kernel_rfl
  case s3 =>
   refine' aU (i:=5) ?kcnd ?kcx ?kcy ?kcz ?kchs ?kchf
   case kcnd=>exact fz.nd
   case kcx=>exact rfl
   case kcy=>exact Or.inl rfl
   case kchf=>first | exact .inl rfl | exact .inr rfl
   case' kcz=>refine' aF ?kco ?kca ?kcb
   case kco=>exact eJ
   case kca=>exact pv 5
   case' kcb=>refine' ba ?kcl0
   case' kcl0=>refine' ae ?kci0 ?kcl1 ?kch0
   case kci0=>exact aE (ae (pv 2) (ae (aE (ae (aE (ae (aM) (ae (pv 4) (ae (aM) ag aS) bq) aS)) ag aR)) ag aR) bq)
   case kch0=>exact aR
   case' kcl1=>refine' ae ?kci1 ?kcl2 ?kch1
   case kci1=>exact aE (ae (pv 2) (ae (aE (ae (aM) ag aS)) ag aR) bq)
   case kch1=>exact aR
   case' kcl2=>refine' ae ?kci2 ?kcl3 ?kch2
   case kci2=>exact aE (ae (aE (ae (aj) ag aS)) (ae (aE ag) ag aR) aR)
   case kch2=>exact aR
   case' kcl3=>refine' ae ?kci3 ?kcl4 ?kch3
   case kci3=>exact aE (ae (pv 4) (ae (pv 3) ag bq) bq)
   case kch3=>exact aR
   case kcl4=>exact ag
   case kchs=>kernel_rfl
  case r1=>exact ay (aD (aG aO (pv 5) (ar Ft hr (ae (pv 0) (ae (aC bB rfl B.len PySem.boot_len (ae (pv 5) ag)) ag))) (fun _ _=>rfl)))
  case main =>
   obtain⟨p0,pr,hps⟩:∃p0 pr,ps=p0::pr:=by
    cases ps with
    | nil=>exact absurd rfl G.ne
    | cons a b=>exact⟨a,b,rfl⟩
   obtain⟨ini,lst,hlast⟩:∃ini l,ps=ini++[l]:=⟨ps.dropLast,ps.getLast G.ne,(List.dropLast_concat_getLast G.ne).symm⟩
   have hp0:aP p0:=G.nm p0 (by rw [hps];simp)
   have hps0:(ps.map V.str)[0]?=some (.str p0):=by rw [hps];rfl
   have n2:decide (Str.ofString "nowheres"∈ps)=false:=decide_eq_false fun z=>by have:=h7 _ z;revert this;decide +kernel
   have et:dq (cB (.tuple (ps.map PyData.str)))=ps:=gm ps
   have hz:(rs.map fj).length<=60:=by have:=G.rz;simpa using this
   have hlm:lst∈ps:=by rw [hlast];simp
   have nl:ck (.tuple (ps.map PyData.str++[.str lst]))=false:=by
    have:=so2 (jv hlm)
    rwa [List.map_append] at this
   have _nz:ck (.tuple [.str (Str.ofString "zz"),.str (Str.ofString "a")])=false:=so2 (ss:=[Str.ofString "zz",Str.ofString "a"]) (fun z=>by
    have:=(List.pairwise_cons.mp z).1 _ (List.mem_singleton.mpr rfl)
    revert this;unfold nlt;decide +kernel)
   have kP:Dok (.tuple (ps.map PyData.str)):=gh G.nm (by omega)
   have kR:Dok (.tuple (rs.map fj)):=.tup _ hz (jq G)
   have kF:Dok (.str p0):=cU hp0
   have kLP:Dok (.list (ps.map PyData.str)):=.lst _ (by simp;omega) (fun d hd=>by obtain⟨x,hx,rfl⟩:=List.mem_map.mp hd;exact cU (G.nm x hx)) (fun i j e=>by rw [hps] at e;cases pr <;> simp at e)
   have kLR:Dok (.list (rs.map fj)):=.lst _ hz (jq G) (fun i j e=>by cases rs with
    | nil=>simp at e
    | cons r t=>cases t <;> simp at e)
   have kPl:Dok (.tuple (ps.map PyData.str++[.str lst])):=by
    have:=gh (ps:=ps++[lst]) (fun x hx=>(List.mem_append.mp hx).elim (G.nm x) fun z=>by rw [List.mem_singleton.mp z];exact G.nm _ hlm) (by simp;omega)
    rwa [List.map_append] at this
   have kPz:Dok (.tuple (ps.map PyData.str++[.str (Str.ofString "Zz")])):=.tup _ (by simp;omega) fun d hd=>by
    rcases List.mem_append.mp hd with z | z
    ·obtain⟨x,hx,rfl⟩:=List.mem_map.mp z;exact cU (G.nm x hx)
    ·rw [List.mem_singleton.mp z];exact df (by decide +kernel) (by decide +kernel)
   refine⟨_,rfl,v,_,rfl,SqT.of W.tp,rfl,_,_,rfl,_,_,rfl,rfl,?_⟩
   refine⟨_,rfl,aI (j:=0) (.inr (SqT.of W.pl)) rfl hps0 ?_⟩
   have c1:Cn [some (.ref p),some (.ref v),some (.ref pa),some (.ref ra),some (.str p0),none] H pa ra ps rs p0:=⟨rfl,rfl,rfl,W.pl,W.rl,W.rows⟩
   have ua11:Ya aW bx [some (.ref p),some (.ref v),some (.ref pa),some (.ref ra),some (.str p0),none] H 0:=.nil
   have ua10:=Ya.cons aW.keeps (cI (Yd.tupD (.cons (Yd.tupD .nil (by simp)) (.cons (Yd.tupD .nil (by simp)) .nil)) (by simp)) (by repeat (first | assumption | exact .non | exact .int _ | exact df (by decide +kernel) (by decide +kernel) | exact c9 | apply bM | apply cA | apply dr | apply dok4)) (wb2 rfl)) ua11
   have ua9:=Ya.cons aW.keeps (cI (Yd.tupD (.cons (Yd.lsO (K:=(be CX0 P w K mg base N58 (Str.ofString "_law_no_web") (aB (top 58)) f cdv A outer s H E).nox.K) c1.P) (.cons c1.R .nil)) (by simp)) (cA kLP kR) (wb1 rfl)) ua10
   have ua8:=Ya.cons aW.keeps (cI (Yd.lsD (.cons c1.P (.cons c1.R .nil)) (by simp)) (.lst _ (by simp) (by simp;exact⟨kP,kR⟩) (by simp)) rfl) ua9
   have ua7:=Ya.cons aW.keeps (cI (Yd.tupD (.cons c1.P (.cons c1.R (.cons (Yd.tupD .nil (by simp)) .nil))) (by simp)) (by repeat (first | assumption | exact .non | exact .int _ | exact df (by decide +kernel) (by decide +kernel) | exact c9 | apply bM | apply cA | apply dr | apply dok4)) (hV (by simp))) ua8
   have ua6:=Ya.cons aW.keeps (cI (Yd.tupD (.cons c1.P .nil) (by simp)) (by repeat (first | assumption | exact .non | exact .int _ | exact df (by decide +kernel) (by decide +kernel) | exact c9 | apply bM | apply cA | apply dr | apply dok4)) (hV (by simp))) ua7
   have ua5:=Ya.cons aW.keeps (gw (f:=aW) fun p H z=>.inr ⟨p,rfl,z⟩) ua6
   have ua4:=Ya.cons aW.keeps (cI (Yd.lsD .nil (by simp)) (.lst _ (by simp) (by simp) (by simp)) rfl) ua5
   have ua3:=Ya.cons aW.keeps (cI (Yd.tupD .nil (by simp)) (by repeat (first | assumption | exact .non | exact .int _ | exact df (by decide +kernel) (by decide +kernel) | exact c9 | apply bM | apply cA | apply dr | apply dok4)) (hV (by decide))) ua4
   have ua2:=Ya.cons aW.keeps (cI (Yd.s (Str.ofString "web")) (by repeat (first | assumption | exact .non | exact .int _ | exact df (by decide +kernel) (by decide +kernel) | exact c9 | apply bM | apply cA | apply dr | apply dok4)) rfl) ua3
   have ua1:=Ya.cons aW.keeps (cI (Yd.i 7) (by repeat (first | assumption | exact .non | exact .int _ | exact df (by decide +kernel) (by decide +kernel) | exact c9 | apply bM | apply cA | apply dr | apply dok4)) rfl) ua2
   have ua0:=Ya.cons aW.keeps (cI Yd.n (by repeat (first | assumption | exact .non | exact .int _ | exact df (by decide +kernel) (by decide +kernel) | exact c9 | apply bM | apply cA | apply dr | apply dok4)) rfl) ua1
   refine gD aW.keeps ua0 (by decide) fun q1 x1 H1 s1 h1 t1 l1 _=>?_
   have w1:=W.same s1
   have c2:Cn [some (.ref p),some (.ref v),some (.ref pa),some (.ref ra),some (.str p0),some (.ref q1)] H1 pa ra ps rs p0:=⟨rfl,rfl,rfl,w1.pl,w1.rl,w1.rows⟩
   have ub3:Ya aW bx [some (.ref p),some (.ref v),some (.ref pa),some (.ref ra),some (.str p0),some (.ref q1)] H1 0:=.nil
   have ub2:=Ya.cons aW.keeps (cI (Yd.tupD (.cons c2.P (.cons (Yd.tupD (.cons (Yd.tupD (.cons c2.F (.cons c2.F (.cons c2.F .nil))) (by simp)) .nil) (by simp)) .nil)) (by simp)) (by repeat (first | assumption | exact .non | exact .int _ | exact df (by decide +kernel) (by decide +kernel) | exact c9 | apply bM | apply cA | apply dr | apply dok4)) (wb4 (List.mem_singleton.mpr rfl) (by rw [et];exact (by rw [jP];show (_ && (_ && (_ && !decide (p0=p0))))=false;simp)))) ub3
   have ub1:=Ya.cons aW.keeps (cI (Yd.tupD (.cons (Yd.catD (K:=(be CX0 P w K mg base N58 (Str.ofString "_law_no_web") (aB (top 58)) f cdv A outer s H E).nox.K) c2.P (Yd.last (K:=(be CX0 P w K mg base N58 (Str.ofString "_law_no_web") (aB (top 58)) f cdv A outer s H E).nox.K) c2.s2 c2.h2 hlast) (by simp;omega)) (.cons c2.R .nil)) (by simp)) (cA kPl kR) (wb1 nl)) ub2
   have ub0:=Ya.cons aW.keeps (cI (Yd.tupD (.cons c2.P (.cons (Yd.lsO (K:=(be CX0 P w K mg base N58 (Str.ofString "_law_no_web") (aB (top 58)) f cdv A outer s H E).nox.K) c2.R) .nil)) (by simp)) (cA kP kLR) (wb3 rfl)) ub1
   refine gG aW.keeps (ys:=x1) rfl h1 t1 ub0 (by omega) fun q2 x2 H2 s2' h2 t2 l2 m2=>?_
   have s2:=s1.trans s2'
   have u2:H q2=none:=s1.free m2
   have w2:=W.same s2
   have c3:Cn [some (.ref p),some (.ref v),some (.ref pa),some (.ref ra),some (.str p0),some (.ref q2)] H2 pa ra ps rs p0:=⟨rfl,rfl,rfl,w2.pl,w2.rl,w2.rows⟩
   have uc4:Ya aW bx [some (.ref p),some (.ref v),some (.ref pa),some (.ref ra),some (.str p0),some (.ref q2)] H2 0:=.nil
   have uc3:=Ya.cons aW.keeps (cI (Yd.tupD (.cons c3.F (.cons c3.R .nil)) (by simp)) (by repeat (first | assumption | exact .non | exact .int _ | exact df (by decide +kernel) (by decide +kernel) | exact c9 | apply bM | apply cA | apply dr | apply dok4)) (wb1 rfl)) uc4
   have uc2:=Ya.cons aW.keeps (cI (Yd.tupD (.cons (Yd.tupD (.cons (Yd.i 1) .nil) (by simp)) (.cons (Yd.tupD .nil (by simp)) .nil)) (by simp)) (by repeat (first | assumption | exact .non | exact .int _ | exact df (by decide +kernel) (by decide +kernel) | exact c9 | apply bM | apply cA | apply dr | apply dok4)) (wb1 (so1 (List.mem_singleton.mpr rfl) rfl))) uc3
   have uc1:=Ya.cons aW.keeps (cI (Yd.tupD (.cons c3.P (.cons (Yd.tupD (.cons (Yd.s (Str.ofString "abc")) .nil) (by simp)) .nil)) (by simp)) (by repeat (first | assumption | exact .non | exact .int _ | exact df (by decide +kernel) (by decide +kernel) | exact c9 | apply bM | apply cA | apply dr | apply dok4)) (wb4 (List.mem_singleton.mpr rfl) (by rw [et];exact rfl))) uc2
   have uc0:=Ya.cons aW.keeps (cI (Yd.tupD (.cons c3.P (.cons (Yd.tupD (.cons (Yd.tupD (.cons (Yd.s (Str.ofString "zz")) (.cons c3.F (.cons (Yd.s (Str.ofString "nowheres")) .nil))) (by simp)) .nil) (by simp)) .nil)) (by simp)) (by repeat (first | assumption | exact .non | exact .int _ | exact df (by decide +kernel) (by decide +kernel) | exact c9 | apply bM | apply cA | apply dr | apply dok4)) (wb4 (List.mem_singleton.mpr rfl) (by rw [et];exact (by rw [jP];show (_ && (_ && (decide (Str.ofString "nowheres"∈ps) && _)))=false;rw [n2];simp)))) uc1
   refine gG aW.keeps (ys:=x2) rfl h2 t2 uc0 (by omega) fun q3 x3 H3 s3' h3 t3 l3 m3=>?_
   have s3:=s2.trans s3'
   have u3:H q3=none:=s2.free m3
   have fin:∀(q:Addr) (xs:List V) (H1:Hp),ai H H1->H1 q=some (.lst xs)->(∀x∈xs,aW x H1)->0 < xs.length->xs.length < 900->H q=none->gM (tOp (rIx (be CX0 P w K mg base N58 (Str.ofString "_law_no_web") (aB (top 58)) f cdv A outer s H E).nox.K) (bz 5) (eA cK [] E0 (bQ (bz 0) (bQ (tCB (fun xs H Q=>∃p ys,xs=[.ref p]/\(SqL (be CX0 P w K mg base N58 (Str.ofString "_law_no_web") (aB (top 58)) f cdv A outer s H E).nox.K H p ys\/SqT (be CX0 P w K mg base N58 (Str.ofString "_law_no_web") (aB (top 58)) f cdv A outer s H E).nox.K H p ys)/\Q (.int ys.length) H) (bQ (bz 5) bx)) bx)))) { nx:=fun _ H'=>Q .non H',rt:=Q } [some (.ref p),some (.ref v),some (.ref pa),some (.ref ra),some (.str p0),some (.ref q)] H1:=by
    intro q xs H1 s1 h1 t1 l0 l9 hq0
    have nqp:q≠p:=fun z=>by obtain⟨i,j,e,_⟩:=hp;rw [<- z,hq0] at e;cases e
    have P1:=hp.same s1
    refine⟨_,rfl,_,rfl,_,rfl,q,_,rfl,.inl (SqL.of h1),p,_,rfl,P1,by omega,by omega,fun i H2 b0 b1 P2 K2=>?_⟩
    have hi:i.toNat < xs.length:=by omega
    refine aI (j:=i.toNat) (.inl (SqL.of (K2.at nqp h1))) (by omega) (List.getElem?_eq_getElem hi) ?_
    exact k _ H2 P2 ((Kp.same s1).trans K2) ((t1 _ (List.getElem_mem hi)).kp K2 P1)
   exact fin q3 x3 H3 s3 h3 t3 (by omega) (by omega) u3
end
theorem qi (K:PySem.W.Frag) {X:Cx} (h:X.K=K:=by rfl):bX X (.builtin "len") (fun xs H Q=>∃p ys,xs=[.ref p]/\(SqL K H p ys\/SqT K H p ys)/\Q (.int ys.length) H):=by subst h;exact bB
noncomputable def bh (ps:List Str) (x:V) (H:Hp):Prop:=∃t,TV H x t/\eK ps t=false
noncomputable def aZ (ps:List Str) (x:V) (H:Hp):Prop:=∃t,TV H x t/\cD ps t=false
theorem bh.keeps {ps:List Str}:Keeps (bh ps):=fun x H H' h s=>by
 obtain⟨t,a,b⟩:=h
 exact⟨t,a.same s,b⟩
theorem aZ.keeps {ps:List Str}:Keeps (aZ ps):=fun x H H' h s=>by
 obtain⟨t,a,b⟩:=h
 exact⟨t,a.same s,b⟩
theorem bh.kp {ps:List Str}{x:V}{H H':Hp}{p:Addr} (h:bh ps x H) (k:Kp [p] H H') (hp:Pot H p):bh ps x H':=by
 obtain⟨t,a,b⟩:=h
 exact⟨t,TV.kp k hp a,b⟩
theorem aZ.kp {ps:List Str}{x:V}{H H':Hp}{p:Addr} (h:aZ ps x H) (k:Kp [p] H H') (hp:Pot H p):aZ ps x H':=by
 obtain⟨t,a,b⟩:=h
 exact⟨t,TV.kp k hp a,b⟩
theorem cR {ps:List Str}{t:TE}{σ:L2.St}{H:Hp}{d:PyData} (h:Yd t σ H (Dv d)) (ok:Dok d) (n:∀ds,d=.tuple ds->6 < ds.length\/∃e∈ds,bj e ps=false):Yd t σ H (bh ps):=h.imp fun x H' z=>by
 obtain⟨u,hu,h1,h2⟩:=TV.of z ok
 refine⟨u,hu,?_⟩
 cases u with
 | none=>rfl
 | some es =>
  have:∃ds,d=.tuple ds:=Classical.byContradiction fun c=>by
   have:=h2 fun ds e=>c ⟨ds,e⟩
   cases this
  obtain⟨ds,rfl⟩:=this
  have e:=h1 ds rfl
  cases e
  show (decide _ && _)=false
  rcases n ds rfl with c | ⟨e,he,c⟩
  ·rw [decide_eq_false (by simp;omega)];rfl
  ·rw [show (List.all (ds.map some) (cm · ps))=false from List.all_eq_false.mpr ⟨some e,List.mem_map_of_mem he,by show ¬ bj e ps=true;rw [c];decide⟩,Bool.and_false]
theorem nt {ps:List Str}{d:PyData} (h:∀ds,d≠.tuple ds):∀ds,d=.tuple ds->6 < ds.length\/∃e∈ds,bj e ps=false:=fun ds e=>absurd e (h ds)
theorem tu {ps:List Str}{es:List PyData}{x:PyData} (hx:x∈es) (h:bj x ps=false):∀ds,PyData.tuple es=.tuple ds->6 < ds.length\/∃e∈ds,bj e ps=false:=fun ds e=>by cases e;exact .inr ⟨x,hx,h⟩
theorem xM {ps:List Str}{σ:L2.St}{H:Hp}:Yd (iH (bQ iw bx)) σ H (bh ps):=fun H' s Q k d hd=>by
 refine⟨by show 1<=sizeLine;decide,fun p hp=>?_⟩
 have s1:=au (o:=.dK []) (ai.refl H') hd
 have s2:=au (o:=.tup [.ref d]) s1 hp
 have e1:upd H' d (.dK []) d=some (.dK []):=ak
 exact k _ _ s2 ⟨some [none],.tu ak (.cons (.di (au (ai.refl _) hp _ _ e1)) .nil) (by simp),rfl⟩
theorem Yd.rep7 {t:TE}{σ:L2.St}{H:Hp}{d:PyData} (h:Yd t σ H (Dv (.tuple [d]))):Yd (tOp oN t (tC (.int 7))) σ H (Dv (.tuple [d,d,d,d,d,d,d])):=fun H' s Q k=>h H' s _ fun x H1 s1 hx=>by
 cases hx with
 | @tup a xs _ e q =>
  cases q with
  | @cons y ys _ _ q1 q2 =>
   cases q2
   refine⟨a,7,[y],rfl,rfl,e,by simp,by simp,by decide,by decide,fun p H2 s2 h2=>?_⟩
   have q1':=DV.same s2 q1
   exact k _ _ (s1.trans s2) (.tup (xs:=[y,y,y,y,y,y,y]) h2 (.cons q1' (.cons q1' (.cons q1' (.cons q1' (.cons q1' (.cons q1' (.cons q1' .nil))))))))
theorem wW {f:V->Hp->Prop} (kf:Keeps f) {r:R2}{t:TA}{tb:TE}{D:Ends}{σ:L2.St}{H:Hp}{n:Nat} (h:Ya f t σ H n) (hn:n<=900) (k:∀(p:Addr) (xs:List V) (H':Hp),ai H H'->H' p=some (.lst xs)->(∀x∈xs,f x H')->xs.length=n->H p=none->tb σ H' fun y H2=>r (.ref p) y H2 D.rt):gM (tOp r (fY t) tb) D σ H :=
 h H (ai.refl _) _ fun xs H2 s2 hx hl=>⟨Nat.le_of_lt (fits (by omega)),fun p hp=>k p xs _ (au s2 hp) ak (fun x hm=>kf _ _ _ (hx x hm) (au (ai.refl _) hp)) hl (by
  cases hc:H p with
  | none=>rfl
  | some o=>have:=s2 _ _ hc;rw [hp] at this;cases this)⟩
inductive SV (H0:Hp) (ps:List Str):V->Hp->Prop
 | sc {x:V}{d:PyData}{H:Hp}:(∀H',DV H' x d)->Dok d->bj d ps=false->SV H0 ps x H
 | tu {a:Addr}{s:Str}{H:Hp}:H0 a=none->H a=some (.tup [.str s])->aP s->SV H0 ps (.ref a) H
 | ls {a:Addr}{s:Str}{H:Hp}:H0 a=none->H a=some (.lst [.str s])->aP s->SV H0 ps (.ref a) H
 | di {a:Addr}{H:Hp}:H0 a=none->H a=some (.dK [])->SV H0 ps (.ref a) H
theorem SV.keeps {H0:Hp}{ps:List Str}:Keeps (SV H0 ps):=fun x H H' h s=>by
 cases h with
 | sc a b c=>exact .sc a b c
 | tu a b c=>exact .tu a (s _ _ b) c
 | ls a b c=>exact .ls a (s _ _ b) c
 | di a b=>exact .di a (s _ _ b)
theorem SV.kp {H0:Hp}{ps:List Str}{x:V}{H H':Hp}{p:Addr} (h:SV H0 ps x H) (k:Kp [p] H H') (hp:Pot H0 p):SV H0 ps x H':=by
 have ne:∀{a:Addr},H0 a=none->a∉[p]:=fun {a} z q=>by
  have q:a=p:=by simpa using q
  obtain⟨i,j,e,_⟩:=hp
  rw [q,e] at z;cases z
 cases h with
 | sc a b c=>exact .sc a b c
 | tu a b c=>exact .tu a (k _ _ b (ne a)) c
 | ls a b c=>exact .ls a (k _ _ b (ne a)) c
 | di a b=>exact .di a (k _ _ b (ne a))
theorem SV.ev {H0:Hp}{ps:List Str}{x:V}{H H':Hp} (h:SV H0 ps x H) (k:∀b o,H0 b=none->H b=some o->H' b=some o):∃e,EV H' x e/\cm e ps=false:=by
 cases h with
 | sc a b c=>exact⟨some _,.da (a H') b,c⟩
 | tu a b c=>exact⟨some (.tuple [.str _]),.da (.tup (k _ _ a b) (.cons (.str _) .nil)) (.tup _ (by simp) (by simp;exact cU c)),rfl⟩
 | ls a b c=>exact⟨some (.list [.str _]),.da (.lst (k _ _ a b) (.cons (.str _) .nil)) (.lst _ (by simp) (by simp;exact cU c) (by simp)),rfl⟩
 | di a b=>exact⟨none,.di (k _ _ a b),rfl⟩
noncomputable def scD:PyData->Bool
 | .none=>true
 | .int _=>true
 | .bool _=>true
 | .str _=>true
 | _=>false
theorem fk {H0:Hp}{ps:List Str}{t:TE}{σ:L2.St}{H:Hp}{d:PyData} (h:Yd t σ H (Dv d)) (ok:Dok d) (n:bj d ps=false) (hs:scD d=true:=by rfl):Yd t σ H (SV H0 ps):=h.imp fun x H' z=>.sc (fun H2=>by
 cases z with
 | non=>exact .non
 | int i=>exact .int i
 | bl b=>exact .bl b
 | str s=>exact .str s
 | tup e q=>cases hs
 | lst e q=>cases hs) ok n
theorem xQ {ps:List Str}{σ:L2.St}{H:Hp}{i:Nat}{x:Str} (hi:σ[i]?=some (some (.str x))) (hn:aP x):Yd (iH (bQ (bz i) bx)) σ H (SV H ps):=fun H' s Q k=>⟨_,hi,by show 1<=sizeLine;decide,fun p hp=>k _ _ (au (ai.refl _) hp) (.tu (s.free hp) ak hn)⟩
theorem yo {ps:List Str}{σ:L2.St}{H:Hp}{i:Nat}{x:Str} (hi:σ[i]?=some (some (.str x))) (hn:aP x):Yd (fY (bQ (bz i) bx)) σ H (SV H ps):=fun H' s Q k=>⟨_,hi,by show 1<=sizeLine;decide,fun p hp=>k _ _ (au (ai.refl _) hp) (.ls (s.free hp) ak hn)⟩
theorem yi {ps:List Str}{σ:L2.St}{H:Hp}:Yd iw σ H (SV H ps):=fun H' s Q k p hp=>k _ _ (au (ai.refl _) hp) (.di (s.free hp) ak)
theorem jw {p:Addr}{H H1 H2:Hp} (s:ai H H1) (hp:H p=none) (k:Kp [p] H1 H2):ai H H2:=fun b o e=>k b o (s b o e) (by simp;exact bu e hp)
theorem bg.kp {H H':Hp}{p v pa ra:Addr}{ps:List Str}{rs:List (Addr×Row)} (W:bg H v pa ra ps rs) (k:Kp [p] H H') (hp:Pot H p):bg H' v pa ra ps rs:=⟨k.tup hp W.tp,k.tup hp W.pl,k.tup hp W.rl,fun r hr=>k.tup hp (W.rows r hr)⟩
theorem jW {X:Cx}:eM (CXE X.prog X.w) X E0:=fun _ _ _ _ _ _ _ h=>by
 obtain⟨_,_,_,_,_,_,_,_,_,_,_,_,_,_,_,_,f⟩:=h
 exact f.elim
theorem dO (t:Str):(!decide (V.str t=V.str t))=false:=by simp
section
variable {P:Program}{w:World}{K:PySem.W.Frag}{mg:Str->Option Value}{base:Heap}
noncomputable def gU:Sp:=fun vs H Q _=>∃(p:Addr) (p0:Str) (ps:List Str),vs=[.ref p,.str p0]/\Pot H p/\aP p0/\(∀x∈ps,aP x)/\(∀x∈ps,x.length<=7)/\∀(x:V) (H':Hp),Pot H' p->Kp [p] H H'->SV H ps x H'->Q x H'
theorem xZ:aL ["_law_pot_here","_law_first"] ["_law_pot_here","_law_first"] (aB (top 59)):=⟨rfl,rfl,rfl,by decide +kernel,rfl,by decide +kernel,by decide +kernel⟩
theorem rQ {f:Addr}{fd:FuncData} (F:Fun K "_law_strange" "_law_strange" (top 59) f fd) (B:Bl mg) (Ft:Fn P w K mg base 1 "_law_take" ["_law_pot_here","_law_many"] cK):aA P w K mg base CX0 2 f fd ["_law_pot_here","_law_first"] gU:=by
 refine F.ok xZ (fun vs H Q E h=>?_) (fun cdv A outer s H vs Q E hr h=>?_)
 ·obtain⟨p,p0,ps,rfl,_⟩:=h
  rfl
 ·obtain⟨p,p0,ps,rfl,hp,hp0,hnm,h7,k⟩:=h
  refine' ⟨_,ay (aD ?r),?main⟩
  case' r=>refine' aG aO ?z (ar Ft hr (ae (pv 0) (ae aj ag))) (fun _ _=>rfl)
  case' z=>refine' ba ?kal0
  case' kal0=>refine' ae ?kai0 ?kal1 ?kah0
  case kai0=>exact eI
  case kah0=>exact aS
  case' kal1=>refine' ae ?kai1 ?kal2 ?kah1
  case kai1=>exact aM
  case kah1=>exact aS
  case' kal2=>refine' ae ?kai2 ?kal3 ?kah2
  case kai2=>exact aj
  case kah2=>exact aS
  case' kal3=>refine' ae ?kai3 ?kal4 ?kah3
  case kai3=>exact aE (ae (pv 1) ag bq)
  case kah3=>exact aR
  case' kal4=>refine' ae ?kai4 ?kal5 ?kah4
  case kai4=>exact ba (ae (pv 1) ag bq)
  case kah4=>exact dJ
  case' kal5=>refine' ae ?kai5 ?kal6 ?kah5
  case kai5=>exact fb
  case kah5=>exact fC
  case' kal6=>refine' ae ?kai6 ?kal7 ?kah6
  case kai6=>exact aM
  case kah6=>exact aS
  case' kal7=>refine' ae ?kai7 ?kal8 ?kah7
  case kai7=>exact aM
  case kah7=>exact aS
  case' kal8=>refine' ae ?kai8 ?kal9 ?kah8
  case kai8=>exact bW
  case kah8=>exact aS
  case' kal9=>refine' ae ?kai9 ?kal10 ?kah9
  case kai9=>exact aF eD (pv 1) aM
  case kah9=>exact fv
  case kal10=>exact ag
  case main =>
   have n1:bj (.str (Str.ofString "")) ps=false:=dk hnm fun z=>by have:=z.lo;revert this;decide +kernel
   have n2:bj (.str (Str.ofString "nowheres")) ps=false:=decide_eq_false fun z=>by have:=h7 _ z;revert this;decide +kernel
   have n3:bj (.str (Str.ofString "A")) ps=false:=dk hnm fun z=>by have:=z.az 65 (by decide +kernel);revert this;decide
   have n4:bj (.str (p0++Str.ofString "~")) ps=false:=dk hnm fun z=>by
    have:=z.az 126 (by rw [Str.cps_append,Array.toList_append];exact List.mem_append_right _ (by decide +kernel))
    revert this;decide
   have hl0:=hp0.hi
   have kF:Dok (.str p0):=cU hp0
   have kt:Dok (.str (p0++Str.ofString "~")):=.str _ ⟨by rw [Str.length_append,show (Str.ofString "~").length=1 by decide +kernel];omega,by
    have:=hp0.ascii
    rw [Str.cps_append,Array.all_append,this]
    decide +kernel⟩
   have yp:Yd (bz 1) [some (.ref p),some (.str p0)] H (Dv (.str p0)):=Yd.var rfl fun _ _=>.str _
   have u10:Ya (SV H ps) bx [some (.ref p),some (.str p0)] H 0:=.nil
   have u9:=Ya.cons SV.keeps (fk (H0:=H) (ps:=ps) (Yd.addS yp (Str.ofString "~") (by rw [show (Str.ofString "~").length=1 by decide +kernel];omega)) kt n4) u10
   have u8:=Ya.cons SV.keeps (fk (H0:=H) (ps:=ps) (Yd.b true) (.bl _) rfl) u9
   have u7:=Ya.cons SV.keeps (fk (H0:=H) (ps:=ps) (Yd.s (Str.ofString "")) (.str _ ⟨by decide +kernel,by decide +kernel⟩) n1) u8
   have u6:=Ya.cons SV.keeps (fk (H0:=H) (ps:=ps) (Yd.s (Str.ofString "A")) (.str _ ⟨by decide +kernel,by decide +kernel⟩) n3) u7
   have u5:=Ya.cons SV.keeps (yi (ps:=ps)) u6
   have u4:=Ya.cons SV.keeps (yo (ps:=ps) (i:=1) rfl hp0) u5
   have u3:=Ya.cons SV.keeps (xQ (ps:=ps) (i:=1) rfl hp0) u4
   have u2:=Ya.cons SV.keeps (fk (H0:=H) (ps:=ps) (Yd.i 1) (.int _) rfl) u3
   have u1:=Ya.cons SV.keeps (fk (H0:=H) (ps:=ps) (Yd.s (Str.ofString "nowheres")) (.str _ ⟨by decide +kernel,by decide +kernel⟩) n2) u2
   have u0:=Ya.cons SV.keeps (fk (H0:=H) (ps:=ps) Yd.n .non rfl) u1
   refine wW SV.keeps u0 (by decide) fun q xs H2 s2 q2 x2 hl hq=>?_
   have nqp:q≠p:=fun z=>by obtain⟨i,j,e,_⟩:=hp;rw [<- z,hq] at e;cases e
   have P2:=hp.same s2
   refine⟨_,rfl,p,10,rfl,P2,by decide,by decide,fun i H3 b0 b1 P3 K3=>?_⟩
   have hi:i.toNat < xs.length:=by omega
   refine aI (j:=i.toNat) (.inl (SqL.of (K3.at nqp q2))) (by omega) (List.getElem?_eq_getElem hi) ?_
   exact k _ H3 P3 ((Kp.same s2).trans K3) ((x2 _ (List.getElem_mem hi)).kp K3 hp)
end
theorem lG {H:Hp}{ps ns:List Str}{x:V}{e:Option PyData}{i:Nat} (hn:∀y∈ps,aP y) (hs:∀y∈ns,y∈ps) (he:EV H x e):EVs H ((ns.map V.str).take i++x::(ns.map V.str).drop i) (((ns.take i).map fun y=>some (PyData.str y))++e::((ns.drop i).map fun y=>some (PyData.str y))):=by
 have ok:∀y∈ns,okS y:=fun y hy=>⟨by have:=(hn y (hs y hy)).hi;omega,(hn y (hs y hy)).ascii⟩
 rw [<- List.map_take,<- List.map_drop]
 exact EVs.append (EVs.strs fun y hy=>ok y (List.mem_of_mem_take hy)) (.cons he (EVs.strs fun y hy=>ok y (List.mem_of_mem_drop hy)))
section
variable {P:Program}{w:World}{K:PySem.W.Frag}{mg:Str->Option Value}{base:Heap}
noncomputable def lL:Sp:=fun vs H Q _=>∃(p v pa ra:Addr) (ps:List Str) (rs:List (Addr×Row)),vs=[.ref p,.ref v]/\Pot H p/\bg H v pa ra ps rs/\Good ps (rs.map (·.2))/\ps.length<=8/\(∀x∈ps,x.length<=7)/\∀(x:V) (H':Hp),Pot H' p->Kp [p] H H'->bh ps x H'->Q x H'
noncomputable abbrev N60:List Str:=["_law_pot_here","_law_web_here","_law_first","_law_good","_law_some"]
theorem gL:aL N60 ["_law_pot_here","_law_web_here"] (aB (top 60)):=⟨rfl,rfl,rfl,by decide +kernel,rfl,by decide +kernel,by decide +kernel⟩
theorem qO {f:Addr}{fd:FuncData} (F:Fun K "_law_no_roots" "_law_no_roots" (top 60) f fd) (B:Bl mg) (Ft:Fn P w K mg base 1 "_law_take" ["_law_pot_here","_law_many"] cK) (Fs:Fn P w K mg base 2 "_law_strange" ["_law_pot_here","_law_first"] gU):aA P w K mg base CX0 3 f fd ["_law_pot_here","_law_web_here"] lL:=by
 refine F.ok gL (fun vs H Q E h=>?_) (fun cdv A outer s H vs Q E hr h=>?_)
 ·obtain⟨p,v,pa,ra,ps,rs,rfl,_⟩:=h
  rfl
 ·obtain⟨p,v,pa,ra,ps,rs,rfl,hp,W,G,h8,h7,k⟩:=h
  have hr1:aK 1 _:=hr.mono (by decide)
  refine' ⟨_,?d0,?main⟩
  case' d0=>refine' am ?s0 ?d1
  case' d1=>refine' am ?si ?d2
  case' d2=>refine' am ?s1 ?d3
  case' d3=>refine' am ?s2 ?r1
  case s0=>exact aU (i:=2) gL.nd rfl (Or.inl rfl) (aG aO (aG aO (pv 1) aj (fun _ _=>rfl)) aj (fun _ _=>rfl))
  case' si=>refine' aY (aV dG (ar Ft hr1 (ae (pv 0) (ae aj ag))) aj (aT _)) ?e0 aX
  case' e0=>refine' am ?e1 ?e2
  case e1 =>
   refine' fG (i:=3) (N:=["_law_k","_law_pot_here","_law_web_here"]) (ix:=[none,some 0,some 1]) gL.nd rfl (Or.inl rfl) ⟨rfl,rfl,rfl,by decide⟩ rfl ?q1 ?q2 ?q3 ?q4
   case q1=>exact (eY rfl B.range (ae (ar Ft hr1 (ae (pv 0) (ae aj ag))) ag))
   case q2=>exact (fun _ _ _ _=>bo 0 (by decide) rfl rfl)
   case q3=>exact (fun _ _ _ _=>bK)
   case q4=>exact (fun _ _ _ _=>aG (cF K) (aG (cF K) (pv 2) aj (fun _ _=>rfl)) (ar Ft hr1 (ae (pv 1) (ae (aC (qi K) rfl B.len PySem.boot_len (ae (aG (cF K) (pv 2) aj (fun _ _=>rfl)) ag)) ag))) (fun _ _=>rfl))
  case' e2=>refine' am (bN (eU PySem.F.plainAttrs_list PySem.F.slot_list_insert PySem.F.type_list_insert lK (pv 3) (ae (ar Ft hr1 (ae (pv 0) (ae (aF cO (aC bB rfl B.len PySem.boot_len (ae (pv 3) ag)) aj) ag))) (ae (ar Fs hr (ae (pv 0) (ae (pv 2) ag))) ag)))) ?e3
  case e3=>exact ay (aD (dA fZ rfl B.tuple cM (ae (pv 3) ag)))
  case s1 =>
   refine' aU (i:=4) ?kand ?kax ?kay ?kaz ?kahs ?kahf
   case kand=>exact gL.nd
   case kax=>exact rfl
   case kay=>exact Or.inl rfl
   case kahf=>first | exact .inl rfl | exact .inr rfl
   case' kaz=>refine' ba ?kal0
   case' kal0=>refine' ae ?kai0 ?kal1 ?kah0
   case kai0=>exact eI
   case kah0=>exact aS
   case' kal1=>refine' ae ?kai1 ?kal2 ?kah1
   case kai1=>exact aj
   case kah1=>exact aS
   case' kal2=>refine' ae ?kai2 ?kal3 ?kah2
   case kai2=>exact bW
   case kah2=>exact aS
   case' kal3=>refine' ae ?kai3 ?kal4 ?kah3
   case kai3=>exact aM
   case kah3=>exact aS
   case' kal4=>refine' ae ?kai4 ?kal5 ?kah4
   case kai4=>exact pv 2
   case kah4=>exact bq
   case' kal5=>refine' ae ?kai5 ?kal6 ?kah5
   case kai5=>exact ba (ae (pv 2) ag bq)
   case kah5=>exact dJ
   case' kal6=>refine' ae ?kai6 ?kal7 ?kah6
   case kai6=>exact ba ag
   case kah6=>exact dJ
   case' kal7=>refine' ae ?kai7 ?kal8 ?kah7
   case kai7=>exact fb
   case kah7=>exact fC
   case' kal8=>refine' ae ?kai8 ?kal9 ?kah8
   case kai8=>exact aF v8 (aE (ae (pv 2) ag bq)) aj
   case kah8=>exact fv
   case' kal9=>refine' ae ?kai9 ?kal10 ?kah9
   case kai9=>exact aE (ae (eI) ag aS)
   case kah9=>exact aR
   case' kal10=>refine' ae ?kai10 ?kal11 ?kah10
   case kai10=>exact aE (ae (pv 2) (ae (aM) ag aS) bq)
   case kah10=>exact aR
   case' kal11=>refine' ae ?kai11 ?kal12 ?kah11
   case kai11=>exact aE (ae (pv 2) (ae (aj) ag aS) bq)
   case kah11=>exact aR
   case kal12=>exact ag
   case kahs=>kernel_rfl
  case s2 =>
   refine' aU (i:=4) ?kbnd ?kbx ?kby ?kbz ?kbhs ?kbhf
   case kbnd=>exact gL.nd
   case kbx=>exact rfl
   case kby=>exact Or.inl rfl
   case kbhf=>first | exact .inl rfl | exact .inr rfl
   case' kbz=>refine' aF ?kbo ?kba ?kbb
   case kbo=>exact eJ
   case kba=>exact pv 4
   case' kbb=>refine' ba ?kbl0
   case' kbl0=>refine' ae ?kbi0 ?kbl1 ?kbh0
   case kbi0=>exact aE (ae (aE (ae (pv 2) ag bq)) ag aR)
   case kbh0=>exact aR
   case' kbl1=>refine' ae ?kbi1 ?kbl2 ?kbh1
   case kbi1=>exact aE (ae (ba (ae (pv 2) ag bq)) ag dJ)
   case kbh1=>exact aR
   case' kbl2=>refine' ae ?kbi2 ?kbl3 ?kbh2
   case kbi2=>exact aE (ae (fb) ag fC)
   case kbh2=>exact aR
   case' kbl3=>refine' ae ?kbi3 ?kbl4 ?kbh3
   case kbi3=>exact aE (ae (aM) ag aS)
   case kbh3=>exact aR
   case' kbl4=>refine' ae ?kbi4 ?kbl5 ?kbh4
   case kbi4=>exact aE (ae (aM) ag aS)
   case kbh4=>exact aR
   case kbl5=>exact ag
   case kbhs=>kernel_rfl
  case r1=>exact ay (aD (aG aO (pv 4) (ar Ft hr1 (ae (pv 0) (ae (aC bB rfl B.len PySem.boot_len (ae (pv 4) ag)) ag))) (fun _ _=>rfl)))
  case main =>
   obtain⟨p0,pr,hps⟩:∃p0 pr,ps=p0::pr:=by
    cases ps with
    | nil=>exact absurd rfl G.ne
    | cons a b=>exact⟨a,b,rfl⟩
   have hp0:aP p0:=G.nm p0 (by rw [hps];simp)
   have hps0:(ps.map V.str)[0]?=some (.str p0):=by rw [hps];rfl
   have hnm:=G.nm
   have hl1:1<=ps.length:=by rw [hps];simp
   have n1:bj (.str (Str.ofString "")) ps=false:=dk hnm fun z=>by have:=z.lo;revert this;decide +kernel
   have n2:bj (.str (Str.ofString "nowheres")) ps=false:=decide_eq_false fun z=>by have:=h7 _ z;revert this;decide +kernel
   have n3:bj (.str (Str.ofString "A")) ps=false:=dk hnm fun z=>by have:=z.az 65 (by decide +kernel);revert this;decide
   have n4:bj (.str (p0++Str.ofString "~")) ps=false:=dk hnm fun z=>by
    have:=z.az 126 (by rw [Str.cps_append,Array.toList_append];exact List.mem_append_right _ (by decide +kernel))
    revert this;decide
   have hl0:=hp0.hi
   have kF:Dok (.str p0):=cU hp0
   have kt:Dok (.str (p0++Str.ofString "~")):=.str _ ⟨by rw [Str.length_append,show (Str.ofString "~").length=1 by decide +kernel];omega,by
    have:=hp0.ascii
    rw [Str.cps_append,Array.all_append,this]
    decide +kernel⟩
   refine⟨_,rfl,aI (j:=0) (.inr (SqT.of W.tp)) rfl rfl (aI (j:=0) (.inr (SqT.of W.pl)) rfl hps0 ?_)⟩
   refine⟨_,rfl,p,3,rfl,hp,by decide,by decide,fun r3 H1 r30 r31 P1 K1=>⟨rfl,_,rfl,?_⟩⟩
   have W1:=W.kp K1 hp
   refine bA (fun c=>?_) (fun c=>?_)
   ·
    refine⟨_,rfl,p,6,rfl,P1,by decide,by decide,fun n H2 n0 n6 P2 K2=>⟨n,rfl,by omega,by omega,?_⟩⟩
    have W2:=W1.kp K2 P1
    have K12:=K1.trans K2
    refine gf (fits (by omega)) (fun i ys σ H3=>(∃ns:List Str,ys=ns.map V.str/\ns.length=i/\∀y∈ns,y∈ps)/\Pot H3 p/\Kp [p] H H3/\bg H3 v pa ra ps rs/\∃x,σ=[x,some (.ref p),some (.ref v)]) ⟨⟨[],rfl,rfl,by simp⟩,P2,K12,W2,_,rfl⟩
     (fun i ys σ H3 _ q=>by obtain⟨⟨ns,rfl,e,_⟩,_⟩:=q;simp;omega) ?_ ?_
    ·rintro i ys σ H3 hi ⟨⟨ns,rfl,hln,hin⟩,P3,K3,W3,x,rfl⟩
     refine⟨_,rfl,aI (j:=0) (.inr (SqT.of W3.tp)) rfl rfl ⟨_,rfl,_,rfl,aI (j:=0) (.inr (SqT.of W3.tp)) rfl rfl ⟨pa,_,rfl,.inr (SqT.of W3.pl),p,_,rfl,P3,by rw [List.length_map];omega,by rw [List.length_map];omega,fun r H4 r0 r1 P4 K4=>?_⟩⟩⟩
     have W4:=W3.kp K4 P3
     rw [List.length_map] at r1
     have hr':r.toNat < ps.length:=by omega
     refine aI (j:=r.toNat) (.inr (SqT.of W4.pl)) (by omega) (by rw [List.getElem?_map,List.getElem?_eq_getElem hr'];rfl) ?_
     exact⟨⟨ns++[ps[r.toNat]],by simp,by simp;omega,fun y hy=>by
      rcases List.mem_append.mp hy with z | z
      ·exact hin y z
      ·rw [List.mem_singleton.mp z];exact List.getElem_mem _⟩,P4,K3.trans K4,W4,_,rfl⟩
    ·rintro ys σ H3 ⟨⟨ns,rfl,hln,hin⟩,P3,K3,W3,x,rfl⟩ g hg
     have P4:=P3.new (o:=.lst (ns.map V.str)) hg
     have K4:=K3.new (o:=.lst (ns.map V.str)) hg
     have g4:upd H3 g (.lst (ns.map V.str)) g=some (.lst (ns.map V.str)):=ak
     generalize upd H3 g (.lst (ns.map V.str))=H4 at P4 K4 g4 ⊢
     have ngp:=fO P4 g4
     refine⟨_,rfl,.inl ⟨rfl,_,SqL.of g4⟩,_,rfl,_,rfl,g,_,rfl,.inl (SqL.of g4),_,_,rfl,rfl,p,_,rfl,P4,by rw [List.length_map];omega,by rw [List.length_map];omega,fun i H5 i0 i1 P5 K5=>?_⟩
     rw [List.length_map] at i1
     have g5:=K5.at ngp g4
     refine⟨_,rfl,_,rfl,p,p0,ps,rfl,P5,hp0,hnm,h7,fun y H6 P6 K6 y6=>?_⟩
     have g6:=K6.at ngp g5
     refine⟨g,_,i,y,rfl,rfl,g6,fits (by rw [List.length_map];omega),i0,by rw [List.length_map];omega,?_⟩
     have K7:Kp [p] H (upd H6 g (.lst ((ns.map V.str).take i.toNat++y::(ns.map V.str).drop i.toNat))):=fun b o e hb=>by
      have e6:=(K4.trans (K5.trans K6)) b o e hb
      have nb:b≠g:=fun z=>by
       have e3:=K3 b o e hb
       rw [z,hg] at e3;cases e3
      rw [aq nb];exact e6
     obtain⟨ev,hev,hna⟩:=y6.ev (H':=upd H6 g (.lst ((ns.map V.str).take i.toNat++y::(ns.map V.str).drop i.toNat))) fun b o e0 e6=>by
      rw [aq (fun z=>by rw [z,g5] at e0;cases e0)];exact e6
     have P7:Pot (upd H6 g (.lst ((ns.map V.str).take i.toNat++y::(ns.map V.str).drop i.toNat))) p:=P6.keep fun o e=>by rw [aq ngp.symm];exact e
     have g7:upd H6 g (.lst ((ns.map V.str).take i.toNat++y::(ns.map V.str).drop i.toNat)) g=some (.lst ((ns.map V.str).take i.toNat++y::(ns.map V.str).drop i.toNat)):=ak
     generalize upd H6 g (.lst ((ns.map V.str).take i.toNat++y::(ns.map V.str).drop i.toNat))=H7 at K7 hev P7 g7 ⊢
     refine⟨_,rfl,g,_,rfl,.inl ⟨SqL.of g7,fun l hl=>?_⟩⟩
     have s8:=au (o:=.tup ((ns.map V.str).take i.toNat++y::(ns.map V.str).drop i.toNat)) (ai.refl H7) hl
     refine k _ _ (P7.same s8) (K7.of_same s8) ⟨_,.tu ak (lG hnm hin (hev.same s8)) ?_,?_⟩
     ·simp;omega
     ·show (decide _ && List.all _ _)=false
      rw [show (List.all ((((ns.take i.toNat).map fun y=>some (PyData.str y))++ev::((ns.drop i.toNat).map fun y=>some (PyData.str y)))) (cm · ps))=false from List.all_eq_false.mpr ⟨ev,by simp,by rw [hna];decide⟩,Bool.and_false]
   ·
    have s1g:∀(g1 g2:Option V) (H':Hp),Yd (bz 2) [some (.ref p),some (.ref v),some (.str p0),g1,g2] H' (Dv (.str p0)):=fun _ _ _=>Yd.var rfl fun _ _=>.str _
    have yp:=s1g none none H1
    have ua12:Ya (bh ps) bx [some (.ref p),some (.ref v),some (.str p0),none,none] H1 0:=.nil
    have ua11:=Ya.cons bh.keeps (cR (ps:=ps) (Yd.tupD (.cons yp (.cons (Yd.i 1) .nil)) (by simp)) (cA kF (.int _)) (tu (x:=.int 1) (by simp) rfl)) ua12
    have ua10:=Ya.cons bh.keeps (cR (ps:=ps) (Yd.tupD (.cons yp (.cons (Yd.s (Str.ofString "nowheres")) .nil)) (by simp)) (cA kF (.str _ ⟨by decide +kernel,by decide +kernel⟩)) (tu (x:=.str (Str.ofString "nowheres")) (by simp) n2)) ua11
    have ua9:=Ya.cons bh.keeps (cR (ps:=ps) (Yd.tupD (.cons Yd.n .nil) (by simp)) (bM .non) (tu (x:=.none) (by simp) rfl)) ua10
    have ua8:=Ya.cons bh.keeps (cR (ps:=ps) (Yd.rep7 (Yd.tupD (.cons yp .nil) (by simp))) (.tup _ (by simp) (by simp;exact kF)) (fun ds e=>by cases e;exact .inl (by simp))) ua9
    have ua7:=Ya.cons bh.keeps (gw (f:=bh ps) fun p H z=>⟨none,.di z,rfl⟩) ua8
    have ua6:=Ya.cons bh.keeps (cR (ps:=ps) (Yd.lsD .nil (by simp)) (.lst _ (by simp) (by simp) (by simp)) (nt (by intro _ z;cases z))) ua7
    have ua5:=Ya.cons bh.keeps (cR (ps:=ps) (Yd.lsD (.cons yp .nil) (by simp)) (.lst _ (by simp) (by simp;exact kF) (by simp)) (nt (by intro _ z;cases z))) ua6
    have ua4:=Ya.cons bh.keeps (cR (ps:=ps) yp kF (nt (by intro _ z;cases z))) ua5
    have ua3:=Ya.cons bh.keeps (cR (ps:=ps) (Yd.s (Str.ofString "")) (.str _ ⟨by decide +kernel,by decide +kernel⟩) (nt (by intro _ z;cases z))) ua4
    have ua2:=Ya.cons bh.keeps (cR (ps:=ps) (Yd.b true) (.bl _) (nt (by intro _ z;cases z))) ua3
    have ua1:=Ya.cons bh.keeps (cR (ps:=ps) (Yd.i 0) (.int _) (nt (by intro _ z;cases z))) ua2
    have ua0:=Ya.cons bh.keeps (cR (ps:=ps) Yd.n .non (nt (by intro _ z;cases z))) ua1
    refine gD bh.keeps ua0 (by decide) fun q1 x1 H2 s2 h2 t2 l2 m2=>?_
    have yp2:=s1g none (some (.ref q1)) H2
    have ub5:Ya (bh ps) bx [some (.ref p),some (.ref v),some (.str p0),none,some (.ref q1)] H2 0:=.nil
    have ub4:=Ya.cons bh.keeps (cR (ps:=ps) (Yd.tupD (.cons (Yd.s (Str.ofString "")) .nil) (by simp)) (bM (.str _ ⟨by decide +kernel,by decide +kernel⟩)) (tu (x:=.str (Str.ofString "")) (by simp) n1)) ub5
    have ub3:=Ya.cons bh.keeps (cR (ps:=ps) (Yd.tupD (.cons (Yd.s (Str.ofString "A")) .nil) (by simp)) (bM (.str _ ⟨by decide +kernel,by decide +kernel⟩)) (tu (x:=.str (Str.ofString "A")) (by simp) n3)) ub4
    have ub2:=Ya.cons bh.keeps (xM (ps:=ps)) ub3
    have ub1:=Ya.cons bh.keeps (cR (ps:=ps) (Yd.tupD (.cons (Yd.lsD (.cons yp2 .nil) (by simp)) .nil) (by simp)) (bM (.lst _ (by simp) (by simp;exact kF) (by simp))) (tu (x:=.list [.str p0]) (by simp) rfl)) ub2
    have ub0:=Ya.cons bh.keeps (cR (ps:=ps) (Yd.tupD (.cons (Yd.tupD (.cons yp2 .nil) (by simp)) .nil) (by simp)) (bM (bM kF)) (tu (x:=.tuple [.str p0]) (by simp) rfl)) ub1
    refine gG bh.keeps (ys:=x1) rfl h2 t2 ub0 (by omega) fun q3 x3 H3 s3 h3 t3 l3 m3=>?_
    have P3:=(P1.same s2).same s3
    have nqp:q3≠p:=fun z=>by obtain⟨i,j,e,_⟩:=P1.same s2;rw [<- z,m3] at e;cases e
    refine⟨_,rfl,_,rfl,_,rfl,q3,_,rfl,.inl (SqL.of h3),p,_,rfl,P3,by omega,by omega,fun i H4 b0 b1 P4 K4=>?_⟩
    have hi:i.toNat < x3.length:=by omega
    refine aI (j:=i.toNat) (.inl (SqL.of (K4.at nqp h3))) (by omega) (List.getElem?_eq_getElem hi) ?_
    exact k _ H4 P4 ((K1.of_same (s2.trans s3)).trans K4) ((t3 _ (List.getElem_mem hi)).kp K4 P3)
end
theorem uL {ns:List Str}{i:Nat}{a b:Str} (h:ns.Pairwise nlt) (ha:ns[i]?=some a) (hb:ns[i + 1]?=some b):¬ ((ns.set i b).set (i + 1) a).Pairwise nlt:=fun z=>by
 have hi:i + 1 < ns.length:=(List.getElem?_eq_some_iff.mp hb).1
 have h1:nlt a b:=by
  have:=List.pairwise_iff_getElem.mp h i (i + 1) (by omega) hi (by omega)
  rw [(List.getElem?_eq_some_iff.mp ha).2,(List.getElem?_eq_some_iff.mp hb).2] at this
  exact this
 have h2:nlt b a:=by
  have:=List.pairwise_iff_getElem.mp z i (i + 1) (by simp;omega) (by simp;omega) (by omega)
  rw [List.getElem_set_ne (by omega),List.getElem_set_self,List.getElem_set_self] at this
  exact this
 exact List.lt_irrefl _ (List.lt_trans (show a.cps.toList < b.cps.toList from h1) h2)
theorem ng {ps ss:List Str} (h:¬ ss.Pairwise nlt):cD ps (some (ss.map fun x=>some (PyData.str x)))=false:=by
 show ((List.all _ ce && cu (dW _)) && _)=false
 rw [iW,jI h];simp
theorem oH {ps:List Str}{es:List (Option PyData)}{e:Option PyData} (he:e∈es) (h:cm e ps=false):cD ps (some es)=false:=by
 show (_ && (_ && List.all es (cm · ps)))=false
 rw [show (List.all es (cm · ps))=false from List.all_eq_false.mpr ⟨e,he,by rw [h];decide⟩];simp
theorem kU (ns:List Str) (i:Nat) (x:Str):(ns.map V.str).set i (.str x)=(ns.set i x).map V.str:=by rw [List.map_set]
section
variable {P:Program}{w:World}{K:PySem.W.Frag}{mg:Str->Option Value}{base:Heap}
noncomputable def mK:Sp:=fun vs H Q _=>∃(p pa:Addr) (ps:List Str),vs=[.ref p,.ref pa]/\Pot H p/\H pa=some (.tup (ps.map V.str))/\ps≠[]/\ps.Pairwise nlt/\(∀x∈ps,aP x)/\ps.length<=8/\(∀x∈ps,x.length<=7)/\∀(x:V) (H':Hp),Pot H' p->Kp [p] H H'->aZ ps x H'->Q x H'
noncomputable abbrev N61:List Str:=["_law_pot_here","_law_places","_law_good","_law_at"]
theorem kz:aL N61 ["_law_pot_here","_law_places"] (aB (top 61)):=⟨rfl,rfl,rfl,by decide +kernel,rfl,by decide +kernel,by decide +kernel⟩
theorem su {f:Addr}{fd:FuncData} (F:Fun K "_law_spoilt_lot" "_law_spoilt_lot" (top 61) f fd) (B:Bl mg) (Ft:Fn P w K mg base 1 "_law_take" ["_law_pot_here","_law_many"] cK) (Fs:Fn P w K mg base 2 "_law_strange" ["_law_pot_here","_law_first"] gU):aA P w K mg base CX0 3 f fd ["_law_pot_here","_law_places"] mK:=by
 refine F.ok kz (fun vs H Q E h=>?_) (fun cdv A outer s H vs Q E hr h=>?_)
 ·obtain⟨p,pa,ps,rfl,_⟩:=h
  rfl
 ·obtain⟨p,pa,ps,rfl,hp,hpa,hne,hso,hnm,h8,h7,k⟩:=h
  have hr1:aK 1 _:=hr.mono (by decide)
  refine' ⟨_,?d0,?main⟩
  case' d0=>refine' am ?s0 ?d1
  case' d1=>refine' am ?si (ay (aD (dA fZ rfl B.tuple cM (ae (pv 2) ag))))
  case s0 =>
   refine' fG (i:=2) (N:=["_law_place","_law_pot_here"]) (ix:=[none,some 0]) kz.nd rfl (Or.inl rfl) ⟨rfl,rfl,rfl,by decide⟩ rfl ?q1 ?q2 ?q3 ?q4
   case q1=>exact (cJ (pv 1))
   case q2=>exact (fun _ _ _ _=>bo 0 (by decide) rfl rfl)
   case q3=>exact (fun _ _ _ _=>fe (aV eP (ar Ft hr1 (ae (pv 1) (ae aj ag))) aj (aT _)))
   case q4=>exact (fun _ _ _ _=>pv 0)
  case' si=>refine' aY (PW.pt (xj (aV eP (aC bB rfl B.len PySem.boot_len (ae (pv 2) ag)) aj (aT _)) (vp (aV dG (ar Ft hr1 (ae (pv 0) (ae aj ag))) aj (aT _))))) ?e0 ?e1
  case' e0=>refine' am (aU (i:=3) kz.nd rfl (Or.inl rfl) (ar Ft hr1 (ae (pv 0) (ae (aF dS (aC bB rfl B.len PySem.boot_len (ae (pv 2) ag)) aj) ag)))) ?e2
  case e2=>exact ay (dR (aE (ae (aG aO (pv 2) (aF cO (pv 3) aj) (fun _ _=>rfl)) (ae (aG aO (pv 2) (pv 3) (fun _ _=>rfl)) ag))) (dj rfl (n:=2) (bC (iu (pv 2) (pv 3) set_list) (bC (iu (pv 2) (aF cO (pv 3) aj) set_list) cX))))
  case e1=>exact ay (bN (eU PySem.F.plainAttrs_list PySem.F.slot_list_insert PySem.F.type_list_insert lK (pv 2) (ae (ar Ft hr1 (ae (pv 0) (ae (aF cO (aC bB rfl B.len PySem.boot_len (ae (pv 2) ag)) aj) ag))) (ae (ar Fs hr (ae (pv 0) (ae (aG aO (pv 1) aj (fun _ _=>rfl)) ag))) ag))))
  case main =>
   obtain⟨p0,pr,hps⟩:∃p0 pr,ps=p0::pr:=by
    cases ps with
    | nil=>exact absurd rfl hne
    | cons a b=>exact⟨a,b,rfl⟩
   have hp0:aP p0:=hnm p0 (by rw [hps];simp)
   have hps0:(ps.map V.str)[0]?=some (.str p0):=by rw [hps];rfl
   refine⟨_,rfl,pa,rfl,⟨_,SqT.of hpa⟩,gr (xs:=ps.map V.str) (fits (by rw [List.length_map];omega)) (fun i ys σ H3=>(∃ns:List Str,ys=ns.map V.str/\ns.Sublist (ps.take i))/\Pot H3 p/\Kp [p] H H3/\∃x,σ=[x,some (.ref p)]) ⟨⟨[],rfl,by simp⟩,hp,Kp.refl _ _,_,rfl⟩
    (fun i ys σ H3 _ q=>by
     obtain⟨⟨ns,rfl,e⟩,P3,K3,_⟩:=q
     refine⟨?_,SqT.of (K3.tup hp hpa)⟩
     have:=e.length_le
     rw [List.length_take] at this
     rw [List.length_map];omega) ?_ ?_⟩
   ·rintro i x ys σ H3 hx ⟨⟨ns,rfl,e⟩,P3,K3,g,rfl⟩
    rw [List.getElem?_map] at hx
    cases hc:ps[i]? with
    | none=>rw [hc] at hx;cases hx
    | some z =>
     rw [hc] at hx
     cases hx
     refine⟨_,rfl,p,4,rfl,P3,by decide,by decide,fun r H4 r0 r1 P4 K4=>⟨_,_,rfl,rfl,_,rfl,?_⟩⟩
     have et:ps.take (i + 1)=ps.take i++[z]:=by rw [List.take_add_one,hc];rfl
     refine bA (fun c=>⟨_,rfl,⟨ns++[z],by simp,by rw [et];exact List.Sublist.append e (List.Sublist.refl _)⟩,P4,K3.trans K4,_,rfl⟩) (fun c=>⟨⟨ns,rfl,by rw [et];exact e.trans (List.sublist_append_left _ _)⟩,P4,K3.trans K4,_,rfl⟩)
   rintro ys σ H3 ⟨⟨ns,rfl,hsub⟩,P3,K3,g,rfl⟩ gd hg
   rw [take_all ps (by simp)] at hsub
   have hin:∀y∈ns,y∈ps:=fun y hy=>hsub.subset hy
   have nso:=hso.sublist hsub
   have n8:ns.length<=8:=Nat.le_trans hsub.length_le h8
   have P4:=P3.new (o:=.lst (ns.map V.str)) hg
   have K4:=K3.new (o:=.lst (ns.map V.str)) hg
   have g4:upd H3 gd (.lst (ns.map V.str)) gd=some (.lst (ns.map V.str)):=ak
   have hgH:∀b o,H b=some o->b∉[p]->b≠gd:=fun b o e hb z=>by
    have e3:=K3 b o e hb
    rw [z,hg] at e3;cases e3
   generalize upd H3 gd (.lst (ns.map V.str))=H4 at P4 K4 g4 ⊢
   have ngp:=fO P4 g4
   have els:∀H5:Hp,Pot H5 p->Kp [p] H4 H5->oU (tBM (be CX0 P w K mg base N61 (Str.ofString "_law_spoilt_lot") (aB (top 61)) f cdv A outer s H E).nox.K "list" nI (bz 2) (bQ (eA cK [] E0 (bQ (bz 0) (bQ (tOp (rI0 fun i j=>.int (i + j)) (tCB (fun xs H Q=>∃p ys,xs=[.ref p]/\(SqL (be CX0 P w K mg base N61 (Str.ofString "_law_spoilt_lot") (aB (top 61)) f cdv A outer s H E).nox.K H p ys\/SqT (be CX0 P w K mg base N61 (Str.ofString "_law_spoilt_lot") (aB (top 61)) f cdv A outer s H E).nox.K H p ys)/\Q (.int ys.length) H) (bQ (bz 2) bx)) (tC (.int 1))) bx))) (bQ (eA gU [] E0 (bQ (bz 0) (bQ (tOp (rIx (be CX0 P w K mg base N61 (Str.ofString "_law_spoilt_lot") (aB (top 61)) f cdv A outer s H E).nox.K) (bz 1) (tC (.int 0))) bx))) bx)))
     { nx:=gM (tCB (fun xs H Q=>∃p ys,xs=[.ref p]/\((SqL (be CX0 P w K mg base N61 (Str.ofString "_law_spoilt_lot") (aB (top 61)) f cdv A outer s H E).nox.K H p ys/\∀l,H l=none->Q (.ref l) (upd H l (.tup ys)))\/(SqT (be CX0 P w K mg base N61 (Str.ofString "_law_spoilt_lot") (aB (top 61)) f cdv A outer s H E).nox.K H p ys/\Q (.ref p) H))) (bQ (bz 2) bx)) { nx:=fun _ H'=>Q .non H',rt:=Q },rt:=Q } [some (.ref p),some (.ref pa),some (.ref gd),none] H5:=by
    intro H5 P5 K5
    have g5:=K5.at ngp g4
    have K45:=K4.trans K5
    refine⟨_,rfl,.inl ⟨rfl,_,SqL.of g5⟩,_,rfl,_,rfl,gd,_,rfl,.inl (SqL.of g5),_,_,rfl,rfl,p,_,rfl,P5,by rw [List.length_map];omega,by rw [List.length_map];omega,fun i H6 i0 i1 P6 K6=>?_⟩
    rw [List.length_map] at i1
    have g6:=K6.at ngp g5
    have K46:=K45.trans K6
    refine⟨_,rfl,_,rfl,aI (j:=0) (.inr (SqT.of (K46.tup hp hpa))) rfl hps0 ⟨p,p0,ps,rfl,P6,hp0,hnm,h7,fun y H7 P7 K7 y7=>?_⟩⟩
    have g7:=K7.at ngp g6
    refine⟨gd,_,i,y,rfl,rfl,g7,fits (by rw [List.length_map];omega),i0,by rw [List.length_map];omega,?_⟩
    have K8:Kp [p] H (upd H7 gd (.lst ((ns.map V.str).take i.toNat++y::(ns.map V.str).drop i.toNat))):=fun b o e hb=>by
     rw [aq (hgH b o e hb)]
     exact (K46.trans K7) b o e hb
    obtain⟨ev,hev,hna⟩:=y7.ev (H':=upd H7 gd (.lst ((ns.map V.str).take i.toNat++y::(ns.map V.str).drop i.toNat))) fun b o e0 e6=>by
     rw [aq (fun z=>by rw [z,g6] at e0;cases e0)];exact e6
    have P8:Pot (upd H7 gd (.lst ((ns.map V.str).take i.toNat++y::(ns.map V.str).drop i.toNat))) p:=P7.keep fun o e=>by rw [aq ngp.symm];exact e
    have g8:upd H7 gd (.lst ((ns.map V.str).take i.toNat++y::(ns.map V.str).drop i.toNat)) gd=some (.lst ((ns.map V.str).take i.toNat++y::(ns.map V.str).drop i.toNat)):=ak
    generalize upd H7 gd (.lst ((ns.map V.str).take i.toNat++y::(ns.map V.str).drop i.toNat))=H8 at K8 hev P8 g8 ⊢
    refine⟨_,rfl,gd,_,rfl,.inl ⟨SqL.of g8,fun l hl=>?_⟩⟩
    have s9:=au (o:=.tup ((ns.map V.str).take i.toNat++y::(ns.map V.str).drop i.toNat)) (ai.refl H8) hl
    refine k _ _ (P8.same s9) (K8.of_same s9) ⟨_,.tu ak (lG hnm hin (hev.same s9)) ?_,oH (e:=ev) (by simp) hna⟩
    simp;omega
   refine⟨_,rfl,gd,_,rfl,.inl (SqL.of g4),_,_,rfl,rfl,_,rfl,?_⟩
   rw [List.length_map]
   refine bA (fun c1=>?_) (fun c1=>?_)
   ·have hl1:1 < ns.length:=by have:=of_decide_eq_true c1;omega
    refine⟨_,rfl,p,2,rfl,P4,by decide,by decide,fun r H5 r0 r1 P5 K5=>⟨rfl,_,rfl,?_⟩⟩
    have g5:=K5.at ngp g4
    refine bA (fun c2=>?_) (fun c2=>?_)
    ·refine⟨_,rfl,_,rfl,gd,_,rfl,.inl (SqL.of g5),_,_,rfl,rfl,p,_,rfl,P5,by rw [List.length_map];omega,by rw [List.length_map];omega,fun i H6 i0 i1 P6 K6=>?_⟩
     rw [List.length_map] at i1
     have g6:=K6.at ngp g5
     have hi:i.toNat + 1 < ns.length:=by omega
     have ha:ns[i.toNat]?=some ns[i.toNat]:=List.getElem?_eq_getElem (by omega)
     have hb:ns[i.toNat + 1]?=some ns[i.toNat + 1]:=List.getElem?_eq_getElem hi
     generalize ns[i.toNat]=a at ha
     generalize ns[i.toNat + 1]=b at hb
     refine⟨_,rfl,_,rfl,_,_,rfl,rfl,aI (j:=i.toNat + 1) (.inl (SqL.of g6)) (by omega) (by rw [List.getElem?_map,hb];rfl) ?_⟩
     refine⟨_,rfl,_,rfl,aI (j:=i.toNat) (.inl (SqL.of g6)) (by omega) (by rw [List.getElem?_map,ha];rfl) ?_⟩
     refine⟨by show 2<=sizeLine;decide,fun t ht=>?_⟩
     have s7:=au (o:=.tup [.str b,.str a]) (ai.refl H6) ht
     have t7:upd H6 t (.tup [.str b,.str a]) t=some (.tup [.str b,.str a]):=ak
     have P7:=P6.same s7
     have K7:=((K4.trans K5).trans K6).of_same s7
     have g7:=s7 _ _ g6
     generalize upd H6 t (.tup [.str b,.str a])=H7 at t7 P7 K7 g7 ⊢
     have x1:ixN (ns.map V.str).length i=some i.toNat:=by unfold ixN;rw [if_pos i0,if_pos (by rw [List.length_map];omega)]
     refine⟨t,_,rfl,SqT.of t7,rfl,_,_,rfl,_,rfl,_,rfl,gd,_,i,_,rfl,rfl,g7,x1,?_⟩
     have x2:ixN ((ns.map V.str).set i.toNat (.str b)).length (i + 1)=some (i.toNat + 1):=by
      unfold ixN;rw [if_pos (by omega),if_pos (by rw [List.length_set,List.length_map];omega)];congr 1;omega
     refine⟨_,_,rfl,_,rfl,_,rfl,_,_,rfl,rfl,gd,_,i + 1,_,rfl,rfl,ak,x2,rfl,?_⟩
     have K8:Kp [p] H (upd (upd H7 gd (.lst ((ns.map V.str).set i.toNat (.str b)))) gd (.lst (((ns.map V.str).set i.toNat (.str b)).set (i.toNat + 1) (.str a)))):=fun c o e hc=>by
      rw [aq (hgH c o e hc),aq (hgH c o e hc)];exact K7 c o e hc
     have P8:Pot (upd (upd H7 gd (.lst ((ns.map V.str).set i.toNat (.str b)))) gd (.lst (((ns.map V.str).set i.toNat (.str b)).set (i.toNat + 1) (.str a)))) p:=P7.keep fun o e=>by rw [aq ngp.symm,aq ngp.symm];exact e
     have g8:upd (upd H7 gd (.lst ((ns.map V.str).set i.toNat (.str b)))) gd (.lst (((ns.map V.str).set i.toNat (.str b)).set (i.toNat + 1) (.str a))) gd=some (.lst (((ns.set i.toNat b).set (i.toNat + 1) a).map V.str)):=by
      rw [ak,kU,kU]
     generalize upd (upd H7 gd (.lst ((ns.map V.str).set i.toNat (.str b)))) gd (.lst (((ns.map V.str).set i.toNat (.str b)).set (i.toNat + 1) (.str a)))=H8 at K8 P8 g8 ⊢
     refine⟨_,rfl,gd,_,rfl,.inl ⟨SqL.of g8,fun l hl=>?_⟩⟩
     have s9:=au (o:=.tup (((ns.set i.toNat b).set (i.toNat + 1) a).map V.str)) (ai.refl H8) hl
     have ma:a∈ns:=List.mem_of_getElem? ha
     have mb:b∈ns:=List.mem_of_getElem? hb
     have hin2:∀y∈(ns.set i.toNat b).set (i.toNat + 1) a,y∈ns:=fun y hy=>by
      rcases List.mem_or_eq_of_mem_set hy with z | z
      ·rcases List.mem_or_eq_of_mem_set z with z | z
       ·exact z
       ·rw [z];exact mb
      ·rw [z];exact ma
     refine k _ _ (P8.same s9) (K8.of_same s9) ⟨_,ir ak (fun y hy=>hnm y (hin y (hin2 y hy))) (by simp;omega),ng (uL nso ha hb)⟩
    ·exact els H5 P5 K5
   ·exact els H4 P4 (Kp.refl _ _)
end
theorem cn {ps:List Str}{t:TE}{σ:L2.St}{H:Hp}{d:PyData} (h:Yd t σ H (Dv d)) (ok:Dok d) (n:∀ds,d=.tuple ds->cD ps (some (ds.map some))=false):Yd t σ H (aZ ps):=h.imp fun x H' z=>by
 obtain⟨u,hu,h1,h2⟩:=TV.of z ok
 refine⟨u,hu,?_⟩
 cases u with
 | none=>rfl
 | some es =>
  have:∃ds,d=.tuple ds:=Classical.byContradiction fun c=>by
   have:=h2 fun ds e=>c ⟨ds,e⟩
   cases this
  obtain⟨ds,rfl⟩:=this
  have e:=h1 ds rfl
  cases e
  exact n ds rfl
theorem wb {ps:List Str}:cD ps (some (List.map some ([]:List PyData)))=false:=by
 show (_ && (!decide (([]:List (Option PyData)).length=0) && _))=false
 simp
theorem li {ps:List Str}{es:List PyData}{x:PyData} (hx:x∈es) (h:bj x ps=false):∀ds,PyData.tuple es=.tuple ds->cD ps (some (ds.map some))=false:=fun ds e=>by
 cases e
 exact oH (e:=some x) (List.mem_map_of_mem hx) h
theorem lr {ps ss:List Str} (h:¬ ss.Pairwise nlt):∀ds,PyData.tuple (ss.map PyData.str)=.tuple ds->cD ps (some (ds.map some))=false:=fun ds e=>by
 cases e
 rw [List.map_map]
 exact ng h
section
variable {P:Program}{w:World}{K:PySem.W.Frag}{mg:Str->Option Value}{base:Heap}
noncomputable def nK:Sp:=fun vs H Q _=>∃(p v pa ra:Addr) (ps:List Str) (rs:List (Addr×Row)),vs=[.ref p,.ref v]/\Pot H p/\bg H v pa ra ps rs/\Good ps (rs.map (·.2))/\ps.length<=8/\(∀x∈ps,x.length<=7)/\∀(x:V) (H':Hp),Pot H' p->Kp [p] H H'->aZ ps x H'->Q x H'
noncomputable abbrev N62:List Str:=["_law_pot_here","_law_web_here","_law_places","_law_first","_law_some"]
theorem fX:aL N62 ["_law_pot_here","_law_web_here"] (aB (top 62)):=⟨rfl,rfl,rfl,by decide +kernel,rfl,by decide +kernel,by decide +kernel⟩
theorem tG {f:Addr}{fd:FuncData} (F:Fun K "_law_no_lot" "_law_no_lot" (top 62) f fd) (B:Bl mg) (Ft:Fn P w K mg base 1 "_law_take" ["_law_pot_here","_law_many"] cK) (Fs:Fn P w K mg base 3 "_law_spoilt_lot" ["_law_pot_here","_law_places"] mK):aA P w K mg base CX0 4 f fd ["_law_pot_here","_law_web_here"] nK:=by
 refine F.ok fX (fun vs H Q E h=>?_) (fun cdv A outer s H vs Q E hr h=>?_)
 ·obtain⟨p,v,pa,ra,ps,rs,rfl,_⟩:=h
  rfl
 ·obtain⟨p,v,pa,ra,ps,rs,rfl,hp,W,G,h8,h7,k⟩:=h
  have hr1:aK 1 _:=hr.mono (by decide)
  refine' ⟨_,?d0,?main⟩
  case' d0=>refine' am (aU (i:=2) fX.nd rfl (Or.inl rfl) (aG aO (pv 1) aj (fun _ _=>rfl))) ?d1
  case' d1=>refine' am (aU (i:=3) fX.nd rfl (Or.inl rfl) (aG aO (pv 2) aj (fun _ _=>rfl))) ?d2
  case' d2=>refine' am ?si ?d3
  case' d3=>refine' am ?s1 ?d4
  case' d4=>refine' am ?s2 ?d5
  case' d5=>refine' am ?sj ?r1
  case si=>exact aY (aV dG (ar Ft hr1 (ae (pv 0) (ae aj ag))) aj (aT _)) (ay (aD (ar Fs hr (ae (pv 0) (ae (pv 2) ag))))) aX
  case' sj=>refine' aY (aV eP (aC bB rfl B.len PySem.boot_len (ae (pv 2) ag)) aj (aT _)) ?s3 aX
  case' s3=>refine' am ?s3a aX
  case s1 =>
   refine' aU (i:=4) ?kand ?kax ?kay ?kaz ?kahs ?kahf
   case kand=>exact fX.nd
   case kax=>exact rfl
   case kay=>exact Or.inl rfl
   case kahf=>first | exact .inl rfl | exact .inr rfl
   case' kaz=>refine' ba ?kal0
   case' kal0=>refine' ae ?kai0 ?kal1 ?kah0
   case kai0=>exact eI
   case kah0=>exact aS
   case' kal1=>refine' ae ?kai1 ?kal2 ?kah1
   case kai1=>exact aj
   case kah1=>exact aS
   case' kal2=>refine' ae ?kai2 ?kal3 ?kah2
   case kai2=>exact bW
   case kah2=>exact aS
   case' kal3=>refine' ae ?kai3 ?kal4 ?kah3
   case kai3=>exact aM
   case kah3=>exact aS
   case' kal4=>refine' ae ?kai4 ?kal5 ?kah4
   case kai4=>exact pv 3
   case kah4=>exact bq
   case' kal5=>refine' ae ?kai5 ?kal6 ?kah5
   case kai5=>exact ba ag
   case kah5=>exact dJ
   case' kal6=>refine' ae ?kai6 ?kal7 ?kah6
   case kai6=>exact aE ag
   case kah6=>exact aR
   case' kal7=>refine' ae ?kai7 ?kal8 ?kah7
   case kai7=>exact fb
   case kah7=>exact fC
   case' kal8=>refine' ae ?kai8 ?kal9 ?kah8
   case kai8=>exact ba (ae (pv 3) ag bq)
   case kah8=>exact dJ
   case' kal9=>refine' ae ?kai9 ?kal10 ?kah9
   case kai9=>exact dA iL rfl B.list jT (ae (pv 2) ag)
   case kah9=>exact kB
   case' kal10=>refine' ae ?kai10 ?kal11 ?kah10
   case kai10=>exact aE (ae (pv 3) (ae (pv 3) ag bq) bq)
   case kah10=>exact aR
   case' kal11=>refine' ae ?kai11 ?kal12 ?kah11
   case kai11=>exact aE (ae (eI) ag aS)
   case kah11=>exact aR
   case' kal12=>refine' ae ?kai12 ?kal13 ?kah12
   case kai12=>exact aE (ae (aM) ag aS)
   case kah12=>exact aR
   case' kal13=>refine' ae ?kai13 ?kal14 ?kah13
   case kai13=>exact aE (ae (aj) ag aS)
   case kah13=>exact aR
   case kal14=>exact ag
   case kahs=>kernel_rfl
  case s2 =>
   refine' aU (i:=4) ?kbnd ?kbx ?kby ?kbz ?kbhs ?kbhf
   case kbnd=>exact fX.nd
   case kbx=>exact rfl
   case kby=>exact Or.inl rfl
   case kbhf=>first | exact .inl rfl | exact .inr rfl
   case' kbz=>refine' aF ?kbo ?kba ?kbb
   case kbo=>exact eJ
   case kba=>exact pv 4
   case' kbb=>refine' ba ?kbl0
   case' kbl0=>refine' ae ?kbi0 ?kbl1 ?kbh0
   case kbi0=>exact aE (ae (aE (ae (pv 3) ag bq)) ag aR)
   case kbh0=>exact aR
   case' kbl1=>refine' ae ?kbi1 ?kbl2 ?kbh1
   case kbi1=>exact aE (ae (ba (ae (pv 3) ag bq)) ag dJ)
   case kbh1=>exact aR
   case' kbl2=>refine' ae ?kbi2 ?kbl3 ?kbh2
   case kbi2=>exact aE (ae (aF eD (pv 3) aM) ag fv)
   case kbh2=>exact aR
   case' kbl3=>refine' ae ?kbi3 ?kbl4 ?kbh3
   case kbi3=>exact aE (ae (aM) ag aS)
   case kbh3=>exact aR
   case kbl4=>exact ag
   case kbhs=>kernel_rfl
  case s3a =>
   refine' aU (i:=4) ?kcnd ?kcx ?kcy ?kcz ?kchs ?kchf
   case kcnd=>exact fX.nd
   case kcx=>exact rfl
   case kcy=>exact Or.inl rfl
   case kchf=>first | exact .inl rfl | exact .inr rfl
   case' kcz=>refine' aF ?kco ?kca ?kcb
   case kco=>exact eJ
   case kca=>exact pv 4
   case' kcb=>refine' ba ?kcl0
   case' kcl0=>refine' ae ?kci0 ?kcl1 ?kch0
   case kci0=>exact vG (fun o i=>[o,i]) (pv 2) (fK (gI gC aj)) (fun _ _=>by with_unfolding_all rfl)
   case kch0=>exact kA
   case' kcl1=>refine' ae ?kci1 ?kcl2 ?kch1
   case kci1=>exact aF jB (pv 2) (gk nB (pv 2) (fK (gI gC aj)) gA)
   case kch1=>exact fv
   case kcl2=>exact ag
   case kchs=>kernel_rfl
  case r1=>exact ay (aD (aG aO (pv 4) (ar Ft hr1 (ae (pv 0) (ae (aC bB rfl B.len PySem.boot_len (ae (pv 4) ag)) ag))) (fun _ _=>rfl)))
  case main =>
   obtain⟨p0,pr,hps⟩:∃p0 pr,ps=p0::pr:=by
    cases ps with
    | nil=>exact absurd rfl G.ne
    | cons a b=>exact⟨a,b,rfl⟩
   obtain⟨ini,lst,hlast⟩:∃ini l,ps=ini++[l]:=⟨ps.dropLast,ps.getLast G.ne,(List.dropLast_concat_getLast G.ne).symm⟩
   have hlm:lst∈ps:=by rw [hlast];simp
   have hp0:aP p0:=G.nm p0 (by rw [hps];simp)
   have hps0:(ps.map V.str)[0]?=some (.str p0):=by rw [hps];rfl
   have hnm:=G.nm
   have n1:bj (.str (Str.ofString "")) ps=false:=dk hnm fun z=>by have:=z.lo;revert this;decide +kernel
   have n2:bj (.str (Str.ofString "nowheres")) ps=false:=decide_eq_false fun z=>by have:=h7 _ z;revert this;decide +kernel
   have n3:bj (.str (Str.ofString "A")) ps=false:=dk hnm fun z=>by have:=z.az 65 (by decide +kernel);revert this;decide
   have n4:bj (.str (p0++Str.ofString "~")) ps=false:=dk hnm fun z=>by
    have:=z.az 126 (by rw [Str.cps_append,Array.toList_append];exact List.mem_append_right _ (by decide +kernel))
    revert this;decide
   have hl0:=hp0.hi
   have kF:Dok (.str p0):=cU hp0
   have kt:Dok (.str (p0++Str.ofString "~")):=.str _ ⟨by rw [Str.length_append,show (Str.ofString "~").length=1 by decide +kernel];omega,by
    have:=hp0.ascii
    rw [Str.cps_append,Array.all_append,this]
    decide +kernel⟩
   have nff:¬ [p0,p0].Pairwise nlt:=jv (ps:=[p0]) (by simp)
   have kLP:Dok (.list (ps.map PyData.str)):=.lst _ (by simp;omega) (fun d hd=>by obtain⟨x,hx,rfl⟩:=List.mem_map.mp hd;exact cU (G.nm x hx)) (fun i j e=>by rw [hps] at e;cases pr <;> simp at e)
   have kPl:Dok (.tuple (ps.map PyData.str++[.str lst])):=by
    have:=gh (ps:=ps++[lst]) (fun x hx=>(List.mem_append.mp hx).elim (G.nm x) fun z=>by rw [List.mem_singleton.mp z];exact G.nm _ hlm) (by simp;omega)
    rwa [List.map_append] at this
   refine⟨_,rfl,aI (j:=0) (.inr (SqT.of W.tp)) rfl rfl ?_⟩
   refine⟨_,rfl,aI (j:=0) (.inr (SqT.of W.pl)) rfl hps0 ?_⟩
   refine⟨_,rfl,p,3,rfl,hp,by decide,by decide,fun r3 H1 r30 r31 P1 K1=>⟨rfl,_,rfl,?_⟩⟩
   have W1:=W.kp K1 hp
   refine bA (fun c=>?_) (fun c=>?_)
   ·exact⟨_,rfl,_,rfl,p,pa,ps,rfl,P1,W1.pl,G.ne,G.so,G.nm,h8,h7,fun x H2 P2 K2 x2=>k x H2 P2 (K1.trans K2) x2⟩
   have yl:=fun (g:Option V) (H':Hp) (s:ai H1 H')=>(Yd.var (σ:=[some (.ref p),some (.ref v),some (.ref pa),some (.str p0),g]) (i:=2) (H:=H') (f:=Dv (.tuple (ps.map PyData.str))) rfl fun H2 s2=>.tup (s2 _ _ (s _ _ W1.pl)) (DVs.strs _))
   have yf:=fun (g:Option V) (H':Hp)=>(Yd.var (σ:=[some (.ref p),some (.ref v),some (.ref pa),some (.str p0),g]) (i:=3) (H:=H') (f:=Dv (.str p0)) rfl fun H2 s2=>.str _)
   have ylA:=yl none H1 (ai.refl _)
   have ypA:=yf none H1
   have ua14:Ya (aZ ps) bx [some (.ref p),some (.ref v),some (.ref pa),some (.str p0),none] H1 0:=.nil
   have ua13:=Ya.cons aZ.keeps (cn (ps:=ps) (Yd.tupD (.cons (Yd.i 1) .nil) (by simp)) (bM (.int _)) (li (x:=.int 1) (by simp) rfl)) ua14
   have ua12:=Ya.cons aZ.keeps (cn (ps:=ps) (Yd.tupD (.cons (Yd.s (Str.ofString "nowheres")) .nil) (by simp)) (bM (.str _ ⟨by decide +kernel,by decide +kernel⟩)) (li (x:=.str (Str.ofString "nowheres")) (by simp) n2)) ua13
   have ua11:=Ya.cons aZ.keeps (cn (ps:=ps) (Yd.tupD (.cons Yd.n .nil) (by simp)) (bM .non) (li (x:=.none) (by simp) rfl)) ua12
   have ua10:=Ya.cons aZ.keeps (cn (ps:=ps) (Yd.tupD (.cons ypA (.cons ypA .nil)) (by simp)) (cA kF kF) (lr (ss:=[p0,p0]) nff)) ua11
   have ua9:=Ya.cons aZ.keeps (cn (ps:=ps) (Yd.lsO (K:=(be CX0 P w K mg base N62 (Str.ofString "_law_no_lot") (aB (top 62)) f cdv A outer s H E).nox.K) ylA) kLP (fun _ z=>by cases z)) ua10
   have ua8:=Ya.cons aZ.keeps (cn (ps:=ps) (Yd.lsD (.cons ypA .nil) (by simp)) (.lst _ (by simp) (by simp;exact kF) (by simp)) (fun _ z=>by cases z)) ua9
   have ua7:=Ya.cons aZ.keeps (gw (f:=aZ ps) fun p H z=>⟨none,.di z,rfl⟩) ua8
   have ua6:=Ya.cons aZ.keeps (cn (ps:=ps) (Yd.tupD .nil (by simp)) c9 (fun _ z=>by cases z;exact wb)) ua7
   have ua5:=Ya.cons aZ.keeps (cn (ps:=ps) (Yd.lsD .nil (by simp)) (.lst _ (by simp) (by simp) (by simp)) (fun _ z=>by cases z)) ua6
   have ua4:=Ya.cons aZ.keeps (cn (ps:=ps) ypA kF (fun _ z=>by cases z)) ua5
   have ua3:=Ya.cons aZ.keeps (cn (ps:=ps) (Yd.s (Str.ofString "")) (.str _ ⟨by decide +kernel,by decide +kernel⟩) (fun _ z=>by cases z)) ua4
   have ua2:=Ya.cons aZ.keeps (cn (ps:=ps) (Yd.b true) (.bl _) (fun _ z=>by cases z)) ua3
   have ua1:=Ya.cons aZ.keeps (cn (ps:=ps) (Yd.i 0) (.int _) (fun _ z=>by cases z)) ua2
   have ua0:=Ya.cons aZ.keeps (cn (ps:=ps) Yd.n .non (fun _ z=>by cases z)) ua1
   refine gD aZ.keeps ua0 (by decide) fun q1 x1 H2 s2 h2 t2 l2 m2=>?_
   have ylB:=yl (some (.ref q1)) H2 s2
   have ypB:=yf (some (.ref q1)) H2
   have ub4:Ya (aZ ps) bx [some (.ref p),some (.ref v),some (.ref pa),some (.str p0),some (.ref q1)] H2 0:=.nil
   have ub3:=Ya.cons aZ.keeps (cn (ps:=ps) (Yd.tupD (.cons (Yd.s (Str.ofString "")) .nil) (by simp)) (bM (.str _ ⟨by decide +kernel,by decide +kernel⟩)) (li (x:=.str (Str.ofString "")) (by simp) n1)) ub4
   have ub2:=Ya.cons aZ.keeps (cn (ps:=ps) (Yd.tupD (.cons (Yd.addS ypB (Str.ofString "~") (by rw [show (Str.ofString "~").length=1 by decide +kernel];omega)) .nil) (by simp)) (bM kt) (li (x:=.str (p0++Str.ofString "~")) (by simp) n4)) ub3
   have ub1:=Ya.cons aZ.keeps (cn (ps:=ps) (Yd.tupD (.cons (Yd.lsD (.cons ypB .nil) (by simp)) .nil) (by simp)) (bM (.lst _ (by simp) (by simp;exact kF) (by simp))) (li (x:=.list [.str p0]) (by simp) rfl)) ub2
   have ub0:=Ya.cons aZ.keeps (cn (ps:=ps) (Yd.tupD (.cons (Yd.tupD (.cons ypB .nil) (by simp)) .nil) (by simp)) (bM (bM kF)) (li (x:=.tuple [.str p0]) (by simp) rfl)) ub1
   refine gG aZ.keeps (ys:=x1) rfl h2 t2 ub0 (by omega) fun q3 x3 H3 s3 h3 t3 l3 m3=>?_
   have s13:=s2.trans s3
   have fin:∀(q:Addr) (xs:List V) (H4:Hp),ai H1 H4->H4 q=some (.lst xs)->(∀x∈xs,aZ ps x H4)->0 < xs.length->xs.length < 900->H1 q=none->gM (tOp (rIx (be CX0 P w K mg base N62 (Str.ofString "_law_no_lot") (aB (top 62)) f cdv A outer s H E).nox.K) (bz 4) (eA cK [] E0 (bQ (bz 0) (bQ (tCB (fun xs H Q=>∃p ys,xs=[.ref p]/\(SqL (be CX0 P w K mg base N62 (Str.ofString "_law_no_lot") (aB (top 62)) f cdv A outer s H E).nox.K H p ys\/SqT (be CX0 P w K mg base N62 (Str.ofString "_law_no_lot") (aB (top 62)) f cdv A outer s H E).nox.K H p ys)/\Q (.int ys.length) H) (bQ (bz 4) bx)) bx)))) { nx:=fun _ H'=>Q .non H',rt:=Q } [some (.ref p),some (.ref v),some (.ref pa),some (.str p0),some (.ref q)] H4:=by
    intro q xs H4 s4 h4 t4 l0 l9 hq0
    have nqp:q≠p:=fun z=>by obtain⟨i,j,e,_⟩:=P1;rw [<- z,hq0] at e;cases e
    have P4:=P1.same s4
    refine⟨_,rfl,_,rfl,_,rfl,q,_,rfl,.inl (SqL.of h4),p,_,rfl,P4,by omega,by omega,fun i H5 b0 b1 P5 K5=>?_⟩
    have hi:i.toNat < xs.length:=by omega
    refine aI (j:=i.toNat) (.inl (SqL.of (K5.at nqp h4))) (by omega) (List.getElem?_eq_getElem hi) ?_
    exact k _ H5 P5 ((K1.of_same s4).trans K5) ((t4 _ (List.getElem_mem hi)).kp K5 P4)
   refine⟨_,rfl,pa,_,rfl,.inr (SqT.of (s13 _ _ W1.pl)),_,_,rfl,rfl,_,rfl,bA (fun c=>?_) (fun c=>fin q3 x3 H3 s13 h3 t3 (by omega) (by omega) (s2.free m3))⟩
   have hl1:1 < ps.length:=by have:=of_decide_eq_true c;rw [List.length_map] at this;omega
   have nrev:∀ds,PyData.tuple (ps.map PyData.str).reverse=.tuple ds->cD ps (some (ds.map some))=false:=by rw [<- List.map_reverse];exact lr (vT G.so hl1)
   have ncat:∀ds,PyData.tuple (ps.map PyData.str++[.str lst])=.tuple ds->cD ps (some (ds.map some))=false:=by
    have:=lr (ps:=ps) (jv hlm)
    rwa [List.map_append] at this
   have kPr:Dok (.tuple (ps.map PyData.str).reverse):=by rw [<- List.map_reverse];exact gh (fun x hx=>G.nm x (List.mem_reverse.mp hx)) (by simp;omega)
   have ylC:=yl (some (.ref q3)) H3 s13
   have ypC:=yf (some (.ref q3)) H3
   have uc2:Ya (aZ ps) bx [some (.ref p),some (.ref v),some (.ref pa),some (.str p0),some (.ref q3)] H3 0:=.nil
   have uc1:=Ya.cons aZ.keeps (cn (ps:=ps) (Yd.catD (K:=(be CX0 P w K mg base N62 (Str.ofString "_law_no_lot") (aB (top 62)) f cdv A outer s H E).nox.K) ylC (Yd.last (K:=(be CX0 P w K mg base N62 (Str.ofString "_law_no_lot") (aB (top 62)) f cdv A outer s H E).nox.K) rfl (s13 _ _ W1.pl) hlast) (by simp;omega)) kPl ncat) uc2
   have uc0:=Ya.cons aZ.keeps (cn (ps:=ps) (Yd.revD (K:=(be CX0 P w K mg base N62 (Str.ofString "_law_no_lot") (aB (top 62)) f cdv A outer s H E).nox.K) ylC) kPr nrev) uc1
   refine gG aZ.keeps (ys:=x3) rfl h3 t3 uc0 (by omega) fun q5 x5 H5 s5 h5 t5 l5 m5=>?_
   exact fin q5 x5 H5 (s13.trans s5) h5 t5 (by omega) (by omega) (s13.free m5)
end
theorem x4:bootBuiltins "ValueError"=some (.type "ValueError"):=by decide +kernel
structure Cls (mg:Str->Option Value) (CW CP CN CR CL d1 d2 d3 d4 d5 d6:Addr):Prop where
 mw:mg "NoWeb"=some (.ref CW)
 mp:mg "NoPlace"=some (.ref CP)
 mn:mg "NoNumber"=some (.ref CN)
 mr:mg "NoRoots"=some (.ref CR)
 ml:mg "NoLot"=some (.ref CL)
 m1:mg "NoCosts"=some (.ref d1)
 m2:mg "NoText"=some (.ref d2)
 m3:mg "NoTie"=some (.ref d3)
 m4:mg "NoTree"=some (.ref d4)
 m5:mg "TooFew"=some (.ref d5)
 m6:mg "TooMany"=some (.ref d6)
 ve:mg "ValueError"=none
 sum:mg "sum"=none
structure Srt (K:PySem.W.Frag) (C CW CP CN CR CL d1 d2 d3 d4 d5 d6:Addr) (b1 b2 b3 b4 b5:Bool):Prop where
 kw:PySem.W.kitOne K (.ref C) (.ref CW)=some b1
 kp:PySem.W.kitOne K (.ref C) (.ref CP)=some b2
 kn:PySem.W.kitOne K (.ref C) (.ref CN)=some b3
 kr:PySem.W.kitOne K (.ref C) (.ref CR)=some b4
 kl:PySem.W.kitOne K (.ref C) (.ref CL)=some b5
 ko:PySem.W.kitAny K (.ref C) ([d1,d2,d3,d4,d5,d6].map Value.ref)=some false
 kv:PySem.W.kitOne K (.ref C) (.type "ValueError")=some true
 ke:gP K C
noncomputable abbrev sortNames:List Str:=[Str.ofString "web",Str.ofString "place",Str.ofString "number",Str.ofString "roots",Str.ofString "lot"]
section
variable {P:Program}{w:World}{K:PySem.W.Frag}{mg:Str->Option Value}{base:Heap}{C CW CP CN CR CL d1 d2 d3 d4 d5 d6:Addr}
noncomputable def fM (C:Addr) (x:Str):Option Value->Sp:=fun hv vs H Q _=>∃a,hv=some (.ref a)/\vs=[.ref a]/\H a=some (c7 a C none)/\∀H',ai H H'->Q (.str x) H'
noncomputable abbrev N56:List Str:=["_law_e","_law_sorts"]
theorem pK:aL N56 ["_law_e"] (aB (top 56)):=⟨rfl,rfl,rfl,by decide +kernel,rfl,by decide +kernel,by decide +kernel⟩
theorem gB {f:Addr}{fd:FuncData}{b1 b2 b3 b4 b5:Bool}{j:Nat}{x:Str} (F:Fun K "_law_sort" "_law_sort" (top 56) f fd) (B:Bl mg) (Z:Cls mg CW CP CN CR CL d1 d2 d3 d4 d5 d6) (O:Srt K C CW CP CN CR CL d1 d2 d3 d4 d5 d6 b1 b2 b3 b4 b5)
  (h1:([b1,b2,b3,b4,b5].map b2i).sum=1) (h2:[b1,b2,b3,b4,b5][j]?=some true) (h3:∀m,m < j->[b1,b2,b3,b4,b5][m]?≠some true) (h4:sortNames[j]?=some x):cQ P w K mg base CX0 1 f fd ["_law_e"] (fM C x):=by
 refine F.okG pK (fun hv vs H Q E h=>?_) (fun cdv A outer s H vs Q E hr h=>?_)
 ·obtain⟨a,_,rfl,_⟩:=h
  rfl
 ·obtain⟨a,hh,rfl,ha,k⟩:=h
  refine⟨_,am (aU (i:=1) pK.nd rfl (Or.inl rfl) (ba (ae (aC (fD (c:=.ref CW) O.ke (fun _ z=>z) O.kw) rfl B.isinstance bG (ae (pv 0) (ae (cG (v:=.ref CW) rfl Z.mw rfl) ag)))
    (ae (aC (fD (c:=.ref CP) O.ke (fun _ z=>z) O.kp) rfl B.isinstance bG (ae (pv 0) (ae (cG (v:=.ref CP) rfl Z.mp rfl) ag)))
    (ae (aC (fD (c:=.ref CN) O.ke (fun _ z=>z) O.kn) rfl B.isinstance bG (ae (pv 0) (ae (cG (v:=.ref CN) rfl Z.mn rfl) ag)))
    (ae (aC (fD (c:=.ref CR) O.ke (fun _ z=>z) O.kr) rfl B.isinstance bG (ae (pv 0) (ae (cG (v:=.ref CR) rfl Z.mr rfl) ag))) ag))))))
   (am (bN (eU PySem.F.plainAttrs_list PySem.F.slot_list_append PySem.F.type_list_append iY (pv 1) (ae (aC (fD (c:=.ref CL) O.ke (fun _ z=>z) O.kl) rfl B.isinstance bG (ae (pv 0) (ae (cG (v:=.ref CL) rfl Z.ml rfl) ag))) ag)))
   (am (aY (bE (aC (qg O.ke O.ko) rfl B.isinstance bG (ae (pv 0) (ae (aE (ae (cG (v:=.ref d1) rfl Z.m1 rfl) (ae (cG (v:=.ref d2) rfl Z.m2 rfl) (ae (cG (v:=.ref d3) rfl Z.m3 rfl) (ae (cG (v:=.ref d4) rfl Z.m4 rfl) (ae (cG (v:=.ref d5) rfl Z.m5 rfl) (ae (cG (v:=.ref d6) rfl Z.m6 rfl) ag))))))) ag)))) cx aX)
   (am (aY (PW.pt (bS (bw (bE (aC (fD (c:=.ty "ValueError") O.ke (fun _ z=>z) O.kv) rfl B.isinstance bG (ae (pv 0) (ae (bV (v:=.ty "ValueError") rfl Z.ve x4 rfl) ag)))))
    (cc (aV cf (aC (rT (ea:=a) (C:=C) (dx:=none) hh) rfl Z.sum oR (ae (pv 1) ag)) aj (aT _))))) cx aX)
   (ay (aD (aG aO (ba (ae aM (ae aM (ae aM (ae aM (ae aM ag)))))) (eU PySem.F.plainAttrs_list PySem.F.slot_list_index PySem.F.type_list_index uc (pv 1) (ae bW ag)) (fun _ _=>rfl))))))),?_⟩
  refine⟨_,rfl,a,none,rfl,ha,(fun d z=>nomatch z),_,rfl,a,none,rfl,ha,(fun d z=>nomatch z),_,rfl,a,none,rfl,ha,(fun d z=>nomatch z),_,rfl,a,none,rfl,ha,(fun d z=>nomatch z),by show 4<=sizeLine;decide,fun p hp=>?_⟩
  have s1:=au (o:=.lst [.bl b1,.bl b2,.bl b3,.bl b4]) (ai.refl H) hp
  have p1:upd H p (.lst [.bl b1,.bl b2,.bl b3,.bl b4]) p=some (.lst [.bl b1,.bl b2,.bl b3,.bl b4]):=ak
  have npa:p≠a:=fun z=>by rw [z,ha] at hp;cases hp
  generalize upd H p (.lst [.bl b1,.bl b2,.bl b3,.bl b4])=H1 at s1 p1 ⊢
  refine⟨_,rfl,.inl ⟨rfl,_,SqL.of p1⟩,_,rfl,a,none,rfl,s1 _ _ ha,(fun d z=>nomatch z),p,_,_,rfl,rfl,p1,by show 4 < sizeLine;decide,?_⟩
  have s2:ai H (upd H1 p (.lst ([.bl b1,.bl b2,.bl b3,.bl b4]++[.bl b5]))):=eZ s1 hp
  have p2:upd H1 p (.lst ([.bl b1,.bl b2,.bl b3,.bl b4]++[.bl b5])) p=some (.lst ([b1,b2,b3,b4,b5].map V.bl)):=ak
  generalize upd H1 p (.lst ([.bl b1,.bl b2,.bl b3,.bl b4]++[.bl b5]))=H2 at s2 p2 ⊢
  refine⟨_,rfl,by show 6<=sizeLine;decide,fun t1 ht1=>?_⟩
  have s3:=au (o:=.tup [.ref d1,.ref d2,.ref d3,.ref d4,.ref d5,.ref d6]) (ai.refl H2) ht1
  refine⟨a,none,t1,rfl,s3 _ _ (s2 _ _ ha),(fun d z=>nomatch z),ak,_,rfl,aH ?_⟩
  generalize upd H2 t1 (.tup [.ref d1,.ref d2,.ref d3,.ref d4,.ref d5,.ref d6])=H3 at s3 ⊢
  have p3:=s3 _ _ p2
  have a3:=s3 _ _ (s2 _ _ ha)
  refine⟨_,rfl,a,none,rfl,a3,(fun d z=>nomatch z),_,rfl,aH ?_⟩
  refine⟨_,rfl,p,[b1,b2,b3,b4,b5],rfl,SqL.of p3,by show 5<=1000;decide,a3,rfl,_,rfl,?_⟩
  rw [h1]
  refine aH ?_
  refine⟨by show 5<=sizeLine;decide,fun q hq=>?_⟩
  have s4:=au (o:=.lst [.str (Str.ofString "web"),.str (Str.ofString "place"),.str (Str.ofString "number"),.str (Str.ofString "roots"),.str (Str.ofString "lot")]) (ai.refl H3) hq
  have q4:upd H3 q (.lst [.str (Str.ofString "web"),.str (Str.ofString "place"),.str (Str.ofString "number"),.str (Str.ofString "roots"),.str (Str.ofString "lot")]) q=some (.lst (sortNames.map V.str)):=ak
  refine⟨_,rfl,.inl ⟨rfl,_,SqL.of (s4 _ _ p3)⟩,p,[b1,b2,b3,b4,b5],j,true,rfl,rfl,SqL.of (s4 _ _ p3),by show 5<=1000;decide,h2,h3,?_⟩
  exact aI (j:=j) (.inl (SqL.of (xs:=sortNames.map V.str) q4)) (by rfl) (by rw [List.getElem?_map,h4];rfl) (k _ (s2.trans (s3.trans s4)))
theorem cQ.or {k:Nat}{f:Addr}{fd:FuncData}{ps:List Str}{a b:Option Value->Sp} (F:cQ P w K mg base CX0 k f fd ps a) (G:cQ P w K mg base CX0 k f fd ps b):cQ P w K mg base CX0 k f fd ps (fun hv vs H Q E=>a hv vs H Q E\/b hv vs H Q E) :=
 ⟨fun hv vs H Q E h=>h.elim (F.len hv vs H Q E) (G.len hv vs H Q E),fun A outer s H args us vs Q E hr e0 hb r h=>h.elim (F.run A outer s H args us vs Q E hr e0 hb r) (G.run A outer s H args us vs Q E hr e0 hb r)⟩
noncomputable abbrev vZ (CW CP CN CR CL:Addr):Option Value->Sp:=fun hv vs H Q E=>fM CW (Str.ofString "web") hv vs H Q E\/fM CP (Str.ofString "place") hv vs H Q E\/fM CN (Str.ofString "number") hv vs H Q E\/fM CR (Str.ofString "roots") hv vs H Q E\/fM CL (Str.ofString "lot") hv vs H Q E
end
section
variable {P:Program}{w:World}{K:PySem.W.Frag}{mg:Str->Option Value}{base:Heap}{CW CP CN CR CL R:Addr}
inductive fW (n:Int) (x y z:V) (H:Hp):Str->Prop
 | web:aW x H->fW n x y z H (Str.ofString "web")
 | roots {v pa ra:Addr}{ps:List Str}{rs:List (Addr×Row)}:n=0\/n=1->x=.ref v->bg H v pa ra ps rs->Good ps (rs.map (·.2))->bh ps y H->fW n x y z H (Str.ofString "roots")
 | lot {v pa ra:Addr}{ps:List Str}{rs:List (Addr×Row)}{t:Option (List (Option PyData))}:n=0->x=.ref v->bg H v pa ra ps rs->Good ps (rs.map (·.2))->TV H y t->eK ps t=true->aZ ps z H->fW n x y z H (Str.ofString "lot")
 | place {v pa ra:Addr}{ps:List Str}{rs:List (Addr×Row)}:n=2->x=.ref v->bg H v pa ra ps rs->Good ps (rs.map (·.2))->bF ps y H->fW n x y z H (Str.ofString "place")
 | number {v pa ra:Addr}{ps:List Str}{rs:List (Addr×Row)}{root:Str}:n=2->x=.ref v->bg H v pa ra ps rs->Good ps (rs.map (·.2))->y=.str root->root∈ps->bD 0 6 z H->fW n x y z H (Str.ofString "number")
noncomputable def oj:Sp:=fun vs H Q _=>∃(n:Int) (x y z:V) (t:Str),vs=[.int n,x,y,z]/\fW n x y z H t/\∀H',ai H H'->Q (.str t) H'
noncomputable abbrev N57:List Str:=["_law_way","_law_web_here","_law_one","_law_other","_law_found","_law_e"]
theorem iG:aL N57 ["_law_way","_law_web_here","_law_one","_law_other"] (aB (top 57)):=⟨rfl,rfl,rfl,by decide +kernel,rfl,by decide +kernel,by decide +kernel⟩
theorem vU {f:Addr}{fd:FuncData} (F:Fun K "_law_said" "_law_said" (top 57) f fd) (hxR:mg "RootError"=some (.ref R)) (hR:d9 base R) (hW:Under base CW R) (hP:Under base CP R) (hN:Under base CN R) (hRt:Under base CR R) (hL:Under base CL R)
  (F1:FnX P w K mg base 6 "lack" ["web","roots","lot"] (cC jC (jy CW CR CL))) (F2:FnX P w K mg base 6 "shares_from" ["web","roots"] (cC iQ (iR CW CR))) (F3:FnX P w K mg base 6 "mended" ["web","root","many"] (cC ja (iZ CW CP CN))) (F4:FnG P w K mg base 1 "_law_sort" ["_law_e"] (vZ CW CP CN CR CL)):aA P w K mg base CX0 7 f fd ["_law_way","_law_web_here","_law_one","_law_other"] oj:=by
 refine F.ok iG (fun vs H Q E h=>?_) (fun cdv A outer s H vs Q E hr h=>?_)
 ·obtain⟨n,x,y,z,t,rfl,_⟩:=h
  rfl
 ·obtain⟨n,x,y,z,t,rfl,hs,k⟩:=h
  have hr1:aK 1 _:=hr.mono (by decide)
  refine⟨_,am (aU (i:=4) iG.nd rfl (Or.inl rfl) aM)
   (am (vF (j:=5) (oW (aV dG (pv 0) aj (aT _)) (ip (jE (jH F1 hr (ae (pv 1) (ae (pv 2) (ae (pv 3) ag))))))
     (ip (oW (aV dG (pv 0) aj (aT _)) (ip (jE (jH F2 hr (ae (pv 1) (ae (pv 2) ag))))) (ip (jE (jH F3 hr (ae (pv 1) (ae (pv 2) (ae (pv 3) ag))))))))) hxR hR
    (fun ea=>ay (aU (i:=4) iG.nd rfl (Or.inl rfl) (wM F4 ⟨hr1.dp,hr1.un,hr1.gd⟩ (ae (pv 5) ag)))) iG.nd rfl rfl rfl rfl rfl)
   (ay (aD (pv 4)))),?_⟩
  have dec:∀{m:Int}{b:Bool},decide (V.int n=V.int m)=b->decide (n=m)=b:=fun {m b} h=>by
   rw [<- h]
   exact decide_eq_decide.mpr ⟨fun z=>by rw [z],fun z=>V.int.inj z⟩
  have yes:∀{m:Int},decide (V.int n=V.int m)=true->n=m:=fun h=>of_decide_eq_true (dec h)
  have nah:∀{m:Int},¬ decide (V.int n=V.int m)=true->n≠m:=fun h e=>h (decide_eq_true (by rw [e]))
  have end1:∀{t':Str}{H1:Hp}{ea C:Addr},t'=t->ai H H1->H1 ea=none->∀H3,ai (upd H1 ea (c7 ea C none)) H3->Q (.str t') H3:=fun {t' H1 ea C} e s1 he H3 s3=>by
   rw [e]
   exact k H3 ((au (o:=c7 ea C none) s1 he).trans s3)
  refine⟨_,rfl,rfl,_,rfl,?_⟩
  cases hs with
  | web hw =>
   refine bA (fun _=>?_) (fun _=>⟨_,rfl,rfl,_,rfl,bA (fun _=>?_) (fun _=>?_)⟩)
   ·exact⟨_,rfl,_,rfl,_,rfl,.inr (.inl ⟨x,y,z,rfl,hw,fun H1 s1=>⟨CW,rfl,hW,fun ea hea=>⟨_,rfl,.inl ⟨ea,rfl,rfl,ak,fun H3 s3=>⟨_,rfl,end1 rfl s1 hea H3 s3⟩⟩⟩⟩⟩)⟩
   ·exact⟨_,rfl,_,rfl,.inr (.inl ⟨x,y,rfl,hw,fun H1 s1=>⟨CW,rfl,hW,fun ea hea=>⟨_,rfl,.inl ⟨ea,rfl,rfl,ak,fun H3 s3=>⟨_,rfl,end1 rfl s1 hea H3 s3⟩⟩⟩⟩⟩)⟩
   ·exact⟨_,rfl,_,rfl,_,rfl,.inr (.inl ⟨x,y,z,rfl,hw,fun H1 s1=>⟨CW,rfl,hW,fun ea hea=>⟨_,rfl,.inl ⟨ea,rfl,rfl,ak,fun H3 s3=>⟨_,rfl,end1 rfl s1 hea H3 s3⟩⟩⟩⟩⟩)⟩
  | @roots v pa ra ps rs hn e W G hy =>
   subst e
   obtain⟨u,hu,hf⟩:=hy
   refine bA (fun _=>?_) (fun c0=>⟨_,rfl,rfl,_,rfl,bA (fun _=>?_) (fun c1=>absurd hn (by have:=nah c0;have:=nah c1;omega))⟩)
   ·exact⟨_,rfl,_,rfl,_,rfl,.inr (.inr (.inl ⟨v,pa,ra,ps,rs,y,z,u,rfl,W,G,hu,hf,fun H1 s1=>⟨CR,rfl,hRt,fun ea hea=>⟨_,rfl,.inr (.inr (.inr (.inl ⟨ea,rfl,rfl,ak,fun H3 s3=>⟨_,rfl,end1 rfl s1 hea H3 s3⟩⟩)))⟩⟩⟩))⟩
   ·exact⟨_,rfl,_,rfl,.inr (.inr ⟨v,pa,ra,ps,rs,y,u,rfl,W,G,hu,hf,fun H1 s1=>⟨CR,rfl,hRt,fun ea hea=>⟨_,rfl,.inr (.inr (.inr (.inl ⟨ea,rfl,rfl,ak,fun H3 s3=>⟨_,rfl,end1 rfl s1 hea H3 s3⟩⟩)))⟩⟩⟩)⟩
  | @lot v pa ra ps rs u hn e W G hy hf hz =>
   subst e
   obtain⟨u2,hu2,hf2⟩:=hz
   refine bA (fun _=>?_) (fun c0=>absurd hn (nah c0))
   exact⟨_,rfl,_,rfl,_,rfl,.inr (.inr (.inr ⟨v,pa,ra,ps,rs,y,z,u,u2,rfl,W,G,hy,hf,hu2,hf2,fun H1 s1=>⟨CL,rfl,hL,fun ea hea=>⟨_,rfl,.inr (.inr (.inr (.inr ⟨ea,rfl,rfl,ak,fun H3 s3=>⟨_,rfl,end1 rfl s1 hea H3 s3⟩⟩)))⟩⟩⟩))⟩
  | @place v pa ra ps rs hn e W G hy =>
   subst e
   refine bA (fun c0=>absurd (yes c0) (by omega)) (fun _=>⟨_,rfl,rfl,_,rfl,bA (fun c1=>absurd (yes c1) (by omega)) (fun _=>?_)⟩)
   exact⟨_,rfl,_,rfl,_,rfl,.inr (.inr (.inl ⟨v,pa,ra,ps,rs,y,z,rfl,W,G,hy,fun H1 s1=>⟨CP,rfl,hP,fun ea hea=>⟨_,rfl,.inr (.inl ⟨ea,rfl,rfl,ak,fun H3 s3=>⟨_,rfl,end1 rfl s1 hea H3 s3⟩⟩)⟩⟩⟩))⟩
  | @number v pa ra ps rs root hn e W G ey hroot hz =>
   subst e ey
   refine bA (fun c0=>absurd (yes c0) (by omega)) (fun _=>⟨_,rfl,rfl,_,rfl,bA (fun c1=>absurd (yes c1) (by omega)) (fun _=>?_)⟩)
   exact⟨_,rfl,_,rfl,_,rfl,.inr (.inr (.inr ⟨v,pa,ra,ps,rs,root,z,rfl,W,G,hroot,hz,fun H1 s1=>⟨CN,rfl,hN,fun ea hea=>⟨_,rfl,.inr (.inr (.inl ⟨ea,rfl,rfl,ak,fun H3 s3=>⟨_,rfl,end1 rfl s1 hea H3 s3⟩⟩))⟩⟩⟩))⟩
noncomputable def iB (K:PySem.W.Frag):Sp:=fun vs H Q _=>∃(a:Addr) (ns:List Int),vs=[.ref a]/\SqL K H a (ns.map V.int)/\ns.length<=63/\∀H',Q (.bl true) H'
noncomputable abbrev N65:List Str:=["_law_script","_law_k","_law_pot_here","_law_web_here","_law_places","_law_root","_law_wrong","_law_roots","_law_lot","_law_nowhere","_law_none","_law_one","_law_other"]
theorem ed:aL N65 ["_law_script"] (aB (top 65)):=⟨rfl,rfl,rfl,by decide +kernel,rfl,by decide +kernel,by decide +kernel⟩
theorem wu {f:Addr}{fd:FuncData} (F:Fun K "law" "law" (top 65) f fd) (B:Bl mg) (Fp:Fn P w K mg base 1 "_law_pot" ["_law_script","_law_k"] (oS K)) (Ft:Fn P w K mg base 1 "_law_take" ["_law_pot_here","_law_many"] cK) (Fw:Fn P w K mg base 3 "_law_web" ["_law_pot_here"] oK)
  (F1:Fn P w K mg base 2 "_law_no_web" ["_law_pot_here","_law_web_here"] ny) (F2:Fn P w K mg base 3 "_law_no_roots" ["_law_pot_here","_law_web_here"] lL) (F3:Fn P w K mg base 4 "_law_no_lot" ["_law_pot_here","_law_web_here"] nK) (F4:Fn P w K mg base 2 "_law_no_place" ["_law_pot_here","_law_web_here"] lI) (F5:Fn P w K mg base 2 "_law_no_number" ["_law_pot_here"] mX)
  (Fs:Fn P w K mg base 7 "_law_said" ["_law_way","_law_web_here","_law_one","_law_other"] oj) (G1:FnX P w K mg base 6 "lack" ["web","roots","lot"] (cC jC (jy CW CR CL))) (G2:FnX P w K mg base 6 "shares_from" ["web","roots"] (cC iQ (iR CW CR))) (G3:FnX P w K mg base 6 "mended" ["web","root","many"] (cC ja (iZ CW CP CN))):aA P w K mg base CX0 8 f fd ["_law_script"] (iB K):=by
 refine F.ok ed (fun vs H Q E h=>?_) (fun cdv A outer s H vs Q E hr h=>?_)
 ·obtain⟨a,ns,rfl,_⟩:=h
  rfl
 ·obtain⟨a,sc,rfl,hS,hlen,k⟩:=h
  have hr1:aK 1 _:=hr.mono (by decide)
  have hr2:aK 2 _:=hr.mono (by decide)
  have hr3:aK 3 _:=hr.mono (by decide)
  have hr4:aK 4 _:=hr.mono (by decide)
  have hr6:aK 6 _:=hr.mono (by decide)
  refine' ⟨_,?d0,?main⟩
  case' d0=>refine' am ?lp (ay (aD bW))
  case' lp=>refine' dm PassesOwn.never rfl (eY rfl B.range (ae (aC (lS rfl) rfl B.max j8 (ae aj (ae (aC (lx rfl) rfl B.min o6 (ae (aC bB rfl B.len PySem.boot_len (ae (pv 0) ag)) (ae aj ag))) ag))) ag)) (br (i:=1) ed.nd rfl (Or.inl rfl)) ?b0
  case' b0=>refine' am (aU (i:=2) ed.nd rfl (Or.inl rfl) (ar Fp hr1 (ae (pv 0) (ae (pv 1) ag)))) ?b1
  case' b1=>refine' am (dR (ar Fw hr3 (ae (pv 2) ag)) (dj rfl (n:=2) (bC (br (i:=3) ed.nd rfl (Or.inl rfl)) (bC (br (i:=4) ed.nd rfl (Or.inl rfl)) cX)))) ?b2
  case' b2=>refine' am (aU (i:=5) ed.nd rfl (Or.inl rfl) (aG aO (pv 4) (ar Ft hr1 (ae (pv 2) (ae (aC bB rfl B.len PySem.boot_len (ae (pv 4) ag)) ag))) (fun _ _=>rfl))) ?b3
  case' b3=>refine' am (wc (i:=6) (j:=7) (k:=8) rfl ed.nd rfl rfl rfl (by decide) (by decide) (by decide) rfl rfl rfl (ae (ar F1 hr2 (ae (pv 2) (ae (pv 3) ag))) (ae (ar F2 hr3 (ae (pv 2) (ae (pv 3) ag))) (ae (ar F3 hr4 (ae (pv 2) (ae (pv 3) ag))) ag))) (by first | rfl | decide +kernel)) ?b4
  case' b4=>refine' am (oz (i:=9) (j:=10) rfl ed.nd rfl rfl (by decide) rfl rfl (ae (ar F4 hr2 (ae (pv 2) (ae (pv 3) ag))) (ae (ar F5 hr2 (ae (pv 2) ag)) ag)) rfl) ?b5
  case' b5=>refine' am ?fo ?b6
  case' fo=>refine' dm PassesOwn.never rfl ?f1 ?f2 ?f3
  case' f1=>refine' dh ?f1a
  case' f1a=>refine' ba ?f1b
  case' f1b=>refine' ae ?f1c ?f1d
  case f1c=>exact aE (ae (pv 7) (ae (pv 8) ag))
  case' f1d=>refine' ae ?f1e ag
  case f1e=>exact aE (ae (aE (ae (pv 5) ag)) (ae (aE (ae (pv 5) ag)) ag))
  case f2=>exact dj rfl (n:=2) (bC (br (i:=11) ed.nd rfl (Or.inl rfl)) (bC (br (i:=12) ed.nd rfl (Or.inl rfl)) cX))
  case f3=>exact ay (aY (PW.pt (bS (aV cf (ar Fs hr (ae aj (ae (pv 6) (ae (pv 11) (ae (pv 12) ag))))) aM (aT _)) (cc (aV cf (ar Fs hr (ae aj (ae (pv 6) (ae (pv 11) (ae (pv 12) ag))))) aM (aT _))))) cx aX)
  case' b6=>refine' am (aY (PW.pt (bS (aV cf (ar Fs hr (ae aj (ae (pv 6) (ae (pv 5) (ae aj ag))))) aM (aT _)) (cc (aV cf (ar Fs hr (ae aj (ae (pv 6) (ae (pv 9) (ae (pv 10) ag))))) aM (aT _))))) cx aX) ?b7
  case' b7=>refine' am (aY (PW.pt (bS (aV cf (ar Fs hr (ae aj (ae (pv 3) (ae (pv 7) (ae (pv 8) ag))))) aM (aT _)) (cc (aV cf (ar Fs hr (ae aj (ae (pv 3) (ae (pv 7) (ae (aE (ae (pv 5) ag)) ag))))) aM (aT _))))) cx aX) ?b8
  case' b8=>refine' am (aY (PW.pt (bS (aV cf (ar Fs hr (ae aj (ae (pv 3) (ae (aE ag) (ae (pv 8) ag))))) aM (aT _)) (cc (aV cf (ar Fs hr (ae aj (ae (pv 3) (ae (pv 7) (ae aj ag))))) aM (aT _))))) cx aX) ?b9
  case' b9=>refine' am (aY (PW.pt (bS (aV cf (ar Fs hr (ae aj (ae (pv 3) (ae (pv 9) (ae (pv 10) ag))))) aM (aT _)) (cc (aV cf (ar Fs hr (ae aj (ae (pv 3) (ae (pv 5) (ae (pv 10) ag))))) aM (aT _))))) cx aX) ?b10
  case b10=>exact ay (aY (PW.pt (bS (aV cf (bT G1 hr6 jW (ae (pv 3) (ae (aE ag) (ae (aG aO (pv 3) aj (fun _ _=>rfl)) ag)))) aj (aT _)) (bS (aV (oF hr) (bT G2 hr6 jW (ae (pv 3) (ae (aE ag) ag))) (ba ag) (aT _)) (cc (aV (oF hr) (bT G3 hr6 jW (ae (pv 3) (ae (pv 5) (ae aj ag)))) (aE (ae (aE ag) (ae (ba ag) ag))) (aT _)))))) cx aX)
  case main =>
  refine⟨_,rfl,a,_,rfl,.inl hS,_,_,rfl,_,_,rfl,_,rfl,?_,?_,?_⟩
  ·repeat' split
   all_goals omega
  ·repeat' split
   all_goals omega
  have hn9:∀x:Int,x=(if (if (8:Int) < ((sc.map V.int).length:Int) then 8 else ((sc.map V.int).length:Int)) > 1 then (if (8:Int) < ((sc.map V.int).length:Int) then 8 else ((sc.map V.int).length:Int)) else 1)->x.toNat<=8:=fun x hx=>by
   subst hx
   repeat' split
   all_goals omega
  refine gW (fun i σ H1=>(∃g1 g2 g3 g4 g5 g6 g7 g8 g9 g10 g11 g12,σ=[some (.ref a),g1,g2,g3,g4,g5,g6,g7,g8,g9,g10,g11,g12])/\ai H H1) ⟨⟨_,_,_,_,_,_,_,_,_,_,_,_,rfl⟩,ai.refl _⟩ ?_ (fun σ H1 _=>k H1)
  rintro i σ H1 hi ⟨⟨g1,g2,g3,g4,g5,g6,g7,g8,g9,g10,g11,g12,rfl⟩,s1⟩
  have hi8:i < 8:=Nat.lt_of_lt_of_le hi (hn9 _ rfl)
  refine⟨_,rfl,_,rfl,a,sc,_,rfl,s1.seq hS,by omega,by omega,fun p H2 s2 p0 P2=>?_⟩
  have sH2:=s1.trans s2
  have pn:H p=none:=s1.free p0
  refine⟨_,rfl,p,rfl,P2,fun v u pl pa ra ns ps rs H3 P3 v3 W3 G h8 h40 pl3 hin hn1 hn8 h7 K3=>?_⟩
  have sH3:ai H H3:=jw sH2 pn K3
  refine⟨v,_,rfl,SqT.of v3,rfl,_,_,rfl,_,_,rfl,rfl,?_⟩
  have npl:=fO P3 pl3
  refine⟨_,rfl,_,rfl,_,rfl,pl,_,rfl,.inl (SqL.of pl3),p,_,rfl,P3,by rw [List.length_map];omega,by rw [List.length_map];omega,fun r H4 r0 r1 P4 K4=>?_⟩
  obtain⟨m,rfl⟩:∃m:Nat,r=m:=⟨r.toNat,by omega⟩
  rw [List.length_map] at r1
  have hm:m < ns.length:=by omega
  have pl4:=K4.at npl pl3
  have W4:=W3.kp K4 P3
  have sH4:ai H H4:=jw sH3 pn K4
  refine aI (j:=m) (.inl (SqL.of pl4)) rfl (by rw [List.getElem?_map,List.getElem?_eq_getElem hm];rfl) ?_
  have hroot:ns[m]∈ps:=hin _ (List.getElem_mem hm)
  generalize ns[m]=root at hroot ⊢
  refine⟨_,rfl,_,rfl,p,u,pa,ra,ps,rs,rfl,P4,W4,G,h8,h7,fun x H5 P5 K5 x5=>?_⟩
  have W5:=W4.kp K5 P4
  refine⟨_,rfl,_,rfl,p,u,pa,ra,ps,rs,rfl,P5,W5,G,h8,h7,fun y H6 P6 K6 y6=>?_⟩
  have W6:=W5.kp K6 P5
  refine⟨_,rfl,_,rfl,p,u,pa,ra,ps,rs,rfl,P6,W6,G,h8,h7,fun l H7 P7 K7 l7=>?_⟩
  have W7:=W6.kp K7 P6
  refine⟨_,_,_,rfl,?_⟩
  refine⟨_,rfl,_,rfl,p,u,pa,ra,ps,rs,rfl,P7,W7,G,h8,h7,fun z H8 P8 K8 z8=>?_⟩
  have W8:=W7.kp K8 P7
  refine⟨_,rfl,p,rfl,P8,fun n H9 P9 K9 n9=>?_⟩
  have W9:=W8.kp K9 P8
  have x9:=(((x5.kp K6 P5).kp K7 P6).kp K8 P7).kp K9 P8
  have y9:=((y6.kp K7 P6).kp K8 P7).kp K9 P8
  have l9:=(l7.kp K8 P7).kp K9 P8
  have z9:=z8.kp K9 P8
  have sH9:ai H H9:=jw sH4 pn ((((K5.trans K6).trans K7).trans K8).trans K9)
  refine⟨_,_,rfl,?_⟩
  have ht1:=ir (H:=H9) (a:=pa) W9.pl G.nm (by omega)
  refine⟨_,rfl,_,rfl,by show 2<=sizeLine;decide,fun t1 hh1=>?_⟩
  have e1:=au (o:=.tup [y,l]) (ai.refl H9) hh1
  have f1:upd H9 t1 (.tup [y,l]) t1=some (.tup [y,l]):=ak
  generalize upd H9 t1 (.tup [y,l])=HA at e1 f1 ⊢
  refine⟨_,rfl,by show 1<=sizeLine;decide,fun t2 hh2=>?_⟩
  have e2:=au (o:=.tup [.str root]) (ai.refl HA) hh2
  generalize upd HA t2 (.tup [.str root])=HB at e2 ⊢
  refine⟨_,rfl,by show 1<=sizeLine;decide,fun t3 hh3=>?_⟩
  have e3:=au (o:=.tup [.str root]) (ai.refl HB) hh3
  generalize upd HB t3 (.tup [.str root])=HC at e3 ⊢
  refine⟨by show 2<=sizeLine;decide,fun t4 hh4=>?_⟩
  have e4:=au (o:=.tup [.ref t2,.ref t3]) (ai.refl HC) hh4
  have f4:upd HC t4 (.tup [.ref t2,.ref t3]) t4=some (.tup [.ref t2,.ref t3]):=ak
  generalize upd HC t4 (.tup [.ref t2,.ref t3])=HD at e4 f4 ⊢
  refine⟨by show 2<=sizeLine;decide,fun lo hlo=>?_⟩
  have e5:=au (o:=.lst [.ref t1,.ref t4]) (ai.refl HD) hlo
  have f5:upd HD lo (.lst [.ref t1,.ref t4]) lo=some (.lst [.ref t1,.ref t4]):=ak
  have f1':=e5 _ _ (e4 _ _ (e3 _ _ (e2 _ _ f1)))
  have f4':=e5 _ _ f4
  generalize upd HD lo (.lst [.ref t1,.ref t4])=HE at e5 f5 f1' f4' ⊢
  have t9E:=e1.trans (e2.trans (e3.trans (e4.trans e5)))
  refine⟨lo,rfl,⟨_,SqL.of f5⟩,gs (xs:=[.ref t1,.ref t4]) (fun j σ HF=>(∃g1 g11 g12,σ=[some (.ref a),g1,some (.ref p),some (.ref u),some (.ref pl),some (.str root),some x,some y,some l,some z,some n,g11,g12])/\ai HE HF) ⟨⟨_,_,_,rfl⟩,ai.refl _⟩ (fun j σ HF _ q=>SqL.of (q.2 _ _ f5)) ?_ ?_⟩
  ·rintro j t σ HF ht ⟨⟨g1,g11,g12,rfl⟩,sF⟩
   have xF:=(x9.same t9E).same sF
   obtain⟨tt,w1,w2,rfl,hF⟩:∃(tt:Addr) (w1 w2:V),t=.ref tt/\HF tt=some (.tup [w1,w2]):=by
    match j,ht with
    | 0,ht=>cases ht;exact⟨t1,_,_,rfl,sF _ _ f1'⟩
    | 1,ht=>cases ht;exact⟨t4,_,_,rfl,sF _ _ f4'⟩
   refine⟨tt,_,rfl,SqT.of hF,rfl,_,_,rfl,_,_,rfl,rfl,?_⟩
   refine⟨_,rfl,_,rfl,_,rfl,0,x,w1,w2,_,rfl,.web xF,fun HG sG=>⟨rfl,_,rfl,?_⟩⟩
   rw [dO]
   refine aH ⟨_,rfl,_,rfl,_,rfl,1,x,w1,w2,_,rfl,.web (xF.same sG),fun HI sI=>⟨rfl,_,rfl,?_⟩⟩
   rw [dO]
   exact aH ⟨⟨_,_,_,rfl⟩,sF.trans (sG.trans sI)⟩
  ·rintro σ HF ⟨⟨g1,g11,g12,rfl⟩,sF⟩
   have t9F:=t9E.trans sF
   have xF:=x9.same t9F
   have WF:=W9.same t9F
   have yF:=bh.keeps _ _ _ y9 t9F
   have lF:=aZ.keeps _ _ _ l9 t9F
   have zF:=z9.same t9F
   have nF:=n9.same t9F
   refine⟨_,rfl,_,rfl,2,x,.str root,.int 1,_,rfl,.web xF,fun HG sG=>⟨rfl,_,rfl,?_⟩⟩
   rw [dO]
   refine aH ⟨_,rfl,_,rfl,_,rfl,2,x,z,n,_,rfl,.web (xF.same sG),fun HI sI=>⟨rfl,_,rfl,?_⟩⟩
   rw [dO]
   have tI:=sG.trans sI
   refine aH ⟨_,rfl,_,rfl,_,rfl,0,.ref u,y,l,_,rfl,.roots (.inl rfl) rfl (WF.same tI) G (bh.keeps _ _ _ yF tI),fun HJ sJ=>⟨rfl,_,rfl,?_⟩⟩
   rw [dO]
   have tJ:=tI.trans sJ
   refine aH ⟨_,rfl,_,rfl,_,rfl,by show 1<=sizeLine;decide,fun t5 hh5=>?_⟩
   have tK:=au (o:=.tup [.str root]) tJ hh5
   generalize upd HJ t5 (.tup [.str root])=HK at tK ⊢
   refine⟨0,.ref u,y,.ref t5,_,rfl,.roots (.inl rfl) rfl (WF.same tK) G (bh.keeps _ _ _ yF tK),fun HL sL=>⟨rfl,_,rfl,?_⟩⟩
   rw [dO]
   have tL:=tK.trans sL
   refine aH ⟨_,rfl,Nat.zero_le _,fun t6 hh6=>?_⟩
   have tM:=au (o:=.tup []) tL hh6
   have m6:upd HL t6 (.tup []) t6=some (.tup []):=ak
   generalize upd HL t6 (.tup [])=HM at tM m6 ⊢
   refine⟨_,rfl,0,.ref u,.ref t6,l,_,rfl,.lot (t:=some []) rfl rfl (WF.same tM) G (.tu m6 .nil (by simp)) rfl (aZ.keeps _ _ _ lF tM),fun HN sN=>⟨rfl,_,rfl,?_⟩⟩
   rw [dO]
   have tN:=tM.trans sN
   refine aH ⟨_,rfl,_,rfl,1,.ref u,y,.int 0,_,rfl,.roots (.inr rfl) rfl (WF.same tN) G (bh.keeps _ _ _ yF tN),fun HO sO=>⟨rfl,_,rfl,?_⟩⟩
   rw [dO]
   have tO:=tN.trans sO
   refine aH ⟨_,rfl,_,rfl,_,rfl,2,.ref u,z,n,_,rfl,.place rfl rfl (WF.same tO) G (zF.same tO),fun HP sP=>⟨rfl,_,rfl,?_⟩⟩
   rw [dO]
   have tP:=tO.trans sP
   refine aH ⟨_,rfl,_,rfl,_,rfl,2,.ref u,.str root,n,_,rfl,.number rfl rfl (WF.same tP) G rfl hroot (nF.same tP),fun HQ sQ=>⟨rfl,_,rfl,?_⟩⟩
   rw [dO]
   have tQ:=tP.trans sQ
   refine aH ⟨_,rfl,Nat.zero_le _,fun t7 hh7=>?_⟩
   have tR:=au (o:=.tup []) tQ hh7
   have m7:upd HQ t7 (.tup []) t7=some (.tup []):=ak
   generalize upd HQ t7 (.tup [])=HR at tR m7 ⊢
   have WR:=WF.same tR
   refine⟨_,rfl,aI (j:=0) (.inr (SqT.of WR.tp)) rfl rfl (.inl ⟨u,pa,ra,t7,ps,rs,rfl,WR,G,h8,m7,fun HS sS=>⟨rfl,_,rfl,aH ?_⟩⟩)⟩
   have tS:=tR.trans sS
   refine⟨_,rfl,Nat.zero_le _,fun t8 hh8=>?_⟩
   have tT:=au (o:=.tup []) tS hh8
   have m8:upd HS t8 (.tup []) t8=some (.tup []):=ak
   generalize upd HS t8 (.tup [])=HT at tT m8 ⊢
   refine .inl ⟨u,pa,ra,t8,ps,rs,rfl,WF.same tT,G,h8,m8,fun q HU sU q9=>?_⟩
   refine⟨Nat.zero_le _,fun l9' hl9=>?_⟩
   have sV:=au (o:=.lst []) (ai.refl HU) hl9
   refine⟨.list [],.list [],.lst (sV _ _ q9) .nil,.lst ak .nil,rfl,rfl,_,rfl,?_⟩
   have ev:PyData.eqv (.list []) (.list [])=true:=by rfl
   rw [ev]
   have tV:=tT.trans (sU.trans sV)
   generalize upd HU l9' (.lst [])=HV at tV ⊢
   refine aH ⟨_,rfl,_,rfl,.inl ⟨u,pa,ra,ps,rs,root,rfl,WF.same tV,G,h8,hroot,fun q a1 b1 HW sW qq aa bb=>?_⟩⟩
   refine⟨Nat.zero_le _,fun c1 hc1=>?_⟩
   have sX:=au (o:=.tup []) (ai.refl HW) hc1
   have m1:upd HW c1 (.tup []) c1=some (.tup []):=ak
   generalize upd HW c1 (.tup [])=HX at sX m1 ⊢
   refine⟨Nat.zero_le _,fun c2 hc2=>?_⟩
   have sY:=au (o:=.lst []) (ai.refl HX) hc2
   have m2:upd HX c2 (.lst []) c2=some (.lst []):=ak
   generalize upd HX c2 (.lst [])=HY at sY m2 ⊢
   refine⟨by show 2<=sizeLine;decide,fun c3 hc3=>?_⟩
   have sZ:=au (o:=.tup [.ref c1,.ref c2]) (ai.refl HY) hc3
   have m3:upd HY c3 (.tup [.ref c1,.ref c2]) c3=some (.tup [.ref c1,.ref c2]):=ak
   generalize upd HY c3 (.tup [.ref c1,.ref c2])=HZ at sZ m3 ⊢
   have sWZ:=sX.trans (sY.trans sZ)
   refine⟨.tuple [.tuple [],.list []],.tuple [.tuple [],.list []],.tup (sWZ _ _ qq) (.cons (.tup (sWZ _ _ aa) .nil) (.cons (.lst (sWZ _ _ bb) .nil) .nil)),.tup m3 (.cons (.tup (sZ _ _ (sY _ _ m1)) .nil) (.cons (.lst (sZ _ _ m2) .nil) .nil)),rfl,rfl,_,rfl,?_⟩
   have ev2:PyData.eqv (.tuple [.tuple [],.list []]) (.tuple [.tuple [],.list []])=true:=by rfl
   rw [ev2]
   exact aH ⟨⟨_,_,_,_,_,_,_,_,_,_,_,_,rfl⟩,sH9.trans (t9F.trans (tV.trans (sW.trans sWZ)))⟩
end
noncomputable def aN (K:PySem.W.Frag) (x:Str) (st:Stmt):Prop:=∃(f:Addr) (oc:Value) (od:Option Addr) (kV doc pm:Value) (an:Option Addr) (cd ct:Value) (sl:Array (Option Value)),
 PySem.W.nsIn K mainGlobals x=some (some (.ref f))/\K.lookup f=some ⟨oc,od,.func (PySem.W.fnOf x x (dP st) (cW st) (aB st) .none kV doc pm an cd ct),sl⟩/\PySem.W.codeIn K cd x=true/\PySem.W.keepIn K (.ref f)=true
theorem yI {K:PySem.W.Frag}{x:Str}{st:Stmt}{f:Addr}{oc:Value}{od:Option Addr}{kV doc pm:Value}{an:Option Addr}{cd ct:Value}{sl:Array (Option Value)} (a:PySem.W.nsIn K mainGlobals x=some (some (.ref f)))
  (l:K.lookup f=some ⟨oc,od,.func (PySem.W.fnOf x x (dP st) (cW st) (aB st) .none kV doc pm an cd ct),sl⟩) (c:PySem.W.codeIn K cd x=true) (k:PySem.W.keepIn K (.ref f)=true):aN K x st :=
 ⟨f,oc,od,kV,doc,pm,an,cd,ct,sl,a,l,c,k⟩
theorem aQ {P:Program}{w:World}{K:PySem.W.Frag}{mg:Str->Option Value}{base h:Heap}{x:Str}{st:Stmt}{k:Nat}{ps:List Str}{sp:Sp} (D:aN K x st) (X:K.In h) (G:h.Ns mainGlobals mg)
  (hb:∀(kV doc pm:Value) (an:Option Addr) (cdv ct:Value) (us:List Value),us.length=ps.length->bindArgs (PySem.W.fnOf x x (dP st) (cW st) (aB st) .none kV doc pm an cdv ct) ⟨us,[]⟩=pure (ps.zip us))
  (ok:∀(f:Addr) (fd:FuncData),Fun K x x st f fd->aA P w K mg base CX0 k f fd ps sp):Fn P w K mg base k x ps sp:=by
 obtain⟨f,oc,od,kV,doc,pm,an,cd,ct,sl,a,l,c,kk⟩:=D
 have F:=iy (st:=st) l c kk
 exact⟨f,_,PySem.W.mg_of X G a,kk,F.binds hb,ok f _ F⟩
theorem el {P:Program}{w:World}{K:PySem.W.Frag}{mg:Str->Option Value}{base h:Heap}{x:Str}{st:Stmt}{k:Nat}{ps:List Str}{sp:Sp} (D:aN K x st) (X:K.In h) (G:h.Ns mainGlobals mg)
  (hb:∀(kV doc pm:Value) (an:Option Addr) (cdv ct:Value) (us:List Value),us.length=ps.length->bindArgs (PySem.W.fnOf x x (dP st) (cW st) (aB st) .none kV doc pm an cdv ct) ⟨us,[]⟩=pure (ps.zip us))
  (ok:∀(f:Addr) (fd:FuncData),Fun K x x st f fd->aA P w K mg base (CXE P w) k f fd ps sp):FnX P w K mg base k x ps sp:=by
 obtain⟨f,oc,od,kV,doc,pm,an,cd,ct,sl,a,l,c,kk⟩:=D
 have F:=iy (st:=st) l c kk
 exact⟨f,_,PySem.W.mg_of X G a,kk,F.binds hb,ok f _ F⟩
theorem vP {P:Program}{w:World}{K:PySem.W.Frag}{mg:Str->Option Value}{base h:Heap}{x:Str}{st:Stmt}{k:Nat}{ps:List Str}{sp:Option Value->Sp} (D:aN K x st) (X:K.In h) (G:h.Ns mainGlobals mg)
  (hb:∀(kV doc pm:Value) (an:Option Addr) (cdv ct:Value) (us:List Value),us.length=ps.length->bindArgs (PySem.W.fnOf x x (dP st) (cW st) (aB st) .none kV doc pm an cdv ct) ⟨us,[]⟩=pure (ps.zip us))
  (ok:∀(f:Addr) (fd:FuncData),Fun K x x st f fd->cQ P w K mg base CX0 k f fd ps sp):FnG P w K mg base k x ps sp:=by
 obtain⟨f,oc,od,kV,doc,pm,an,cd,ct,sl,a,l,c,kk⟩:=D
 have F:=iy (st:=st) l c kk
 exact⟨f,_,PySem.W.mg_of X G a,kk,F.binds hb,ok f _ F⟩
theorem yH {l:PySem.W.OpenLaw}{w:World}{K:PySem.W.Frag}{h:Heap}{mg:Str->Option Value}{fa:Addr} (X:K.In h) (G:h.Ns mainGlobals mg) (hfa:mg "law"=some (.ref fa)) (B:Bl mg) {Rc Wc Pc Nc Tc Lc d1a d2a d3a d4a d5a d6a:Addr}
  (cRc:PySem.W.nsIn K mainGlobals "RootError"=some (some (.ref Rc))) (eRc:PySem.W.excIn K Rc veM "ValueError.__new__"=true)
  (cWc:PySem.W.nsIn K mainGlobals "NoWeb"=some (some (.ref Wc))) (eWc:PySem.W.excIn K Wc veM "ValueError.__new__"=true)
  (cPc:PySem.W.nsIn K mainGlobals "NoPlace"=some (some (.ref Pc))) (ePc:PySem.W.excIn K Pc veM "ValueError.__new__"=true)
  (cNc:PySem.W.nsIn K mainGlobals "NoNumber"=some (some (.ref Nc))) (eNc:PySem.W.excIn K Nc veM "ValueError.__new__"=true)
  (cTc:PySem.W.nsIn K mainGlobals "NoRoots"=some (some (.ref Tc))) (eTc:PySem.W.excIn K Tc veM "ValueError.__new__"=true)
  (cLc:PySem.W.nsIn K mainGlobals "NoLot"=some (some (.ref Lc))) (eLc:PySem.W.excIn K Lc veM "ValueError.__new__"=true)
  (uWcRc:fc K Wc Rc=true)
  (uPcRc:fc K Pc Rc=true)
  (uNcRc:fc K Nc Rc=true)
  (uTcRc:fc K Tc Rc=true)
  (uLcRc:fc K Lc Rc=true)
  (cd1a:PySem.W.nsIn K mainGlobals "NoCosts"=some (some (.ref d1a)))
  (cd2a:PySem.W.nsIn K mainGlobals "NoText"=some (some (.ref d2a)))
  (cd3a:PySem.W.nsIn K mainGlobals "NoTie"=some (some (.ref d3a)))
  (cd4a:PySem.W.nsIn K mainGlobals "NoTree"=some (some (.ref d4a)))
  (cd5a:PySem.W.nsIn K mainGlobals "TooFew"=some (some (.ref d5a)))
  (cd6a:PySem.W.nsIn K mainGlobals "TooMany"=some (some (.ref d6a)))
  (zve:PySem.W.nsIn K mainGlobals "ValueError"=some none)
  (zsum:PySem.W.nsIn K mainGlobals "sum"=some none)
  (qwa:PySem.W.kitOne K (.ref Wc) (.ref Wc)=some true)
  (qwb:PySem.W.kitOne K (.ref Wc) (.ref Pc)=some false)
  (qwc:PySem.W.kitOne K (.ref Wc) (.ref Nc)=some false)
  (qwd:PySem.W.kitOne K (.ref Wc) (.ref Tc)=some false)
  (qwe:PySem.W.kitOne K (.ref Wc) (.ref Lc)=some false)
  (qwo:PySem.W.kitAny K (.ref Wc) ([d1a,d2a,d3a,d4a,d5a,d6a].map Value.ref)=some false)
  (qwv:PySem.W.kitOne K (.ref Wc) (.type "ValueError")=some true)
  (qwx:fh K Wc=true)
  (qpa:PySem.W.kitOne K (.ref Pc) (.ref Wc)=some false)
  (qpb:PySem.W.kitOne K (.ref Pc) (.ref Pc)=some true)
  (qpc:PySem.W.kitOne K (.ref Pc) (.ref Nc)=some false)
  (qpd:PySem.W.kitOne K (.ref Pc) (.ref Tc)=some false)
  (qpe:PySem.W.kitOne K (.ref Pc) (.ref Lc)=some false)
  (qpo:PySem.W.kitAny K (.ref Pc) ([d1a,d2a,d3a,d4a,d5a,d6a].map Value.ref)=some false)
  (qpv:PySem.W.kitOne K (.ref Pc) (.type "ValueError")=some true)
  (qpx:fh K Pc=true)
  (qna:PySem.W.kitOne K (.ref Nc) (.ref Wc)=some false)
  (qnb:PySem.W.kitOne K (.ref Nc) (.ref Pc)=some false)
  (qnc:PySem.W.kitOne K (.ref Nc) (.ref Nc)=some true)
  (qnd:PySem.W.kitOne K (.ref Nc) (.ref Tc)=some false)
  (qne:PySem.W.kitOne K (.ref Nc) (.ref Lc)=some false)
  (qno:PySem.W.kitAny K (.ref Nc) ([d1a,d2a,d3a,d4a,d5a,d6a].map Value.ref)=some false)
  (qnv:PySem.W.kitOne K (.ref Nc) (.type "ValueError")=some true)
  (qnx:fh K Nc=true)
  (qta:PySem.W.kitOne K (.ref Tc) (.ref Wc)=some false)
  (qtb:PySem.W.kitOne K (.ref Tc) (.ref Pc)=some false)
  (qtc:PySem.W.kitOne K (.ref Tc) (.ref Nc)=some false)
  (qtd:PySem.W.kitOne K (.ref Tc) (.ref Tc)=some true)
  (qte:PySem.W.kitOne K (.ref Tc) (.ref Lc)=some false)
  (qto:PySem.W.kitAny K (.ref Tc) ([d1a,d2a,d3a,d4a,d5a,d6a].map Value.ref)=some false)
  (qtv:PySem.W.kitOne K (.ref Tc) (.type "ValueError")=some true)
  (qtx:fh K Tc=true)
  (qla:PySem.W.kitOne K (.ref Lc) (.ref Wc)=some false)
  (qlb:PySem.W.kitOne K (.ref Lc) (.ref Pc)=some false)
  (qlc:PySem.W.kitOne K (.ref Lc) (.ref Nc)=some false)
  (qld:PySem.W.kitOne K (.ref Lc) (.ref Tc)=some false)
  (qle:PySem.W.kitOne K (.ref Lc) (.ref Lc)=some true)
  (qlo:PySem.W.kitAny K (.ref Lc) ([d1a,d2a,d3a,d4a,d5a,d6a].map Value.ref)=some false)
  (qlv:PySem.W.kitOne K (.ref Lc) (.type "ValueError")=some true)
  (qlx:fh K Lc=true)
  (d15:aN K "is_name" (top 15))
  (d16:aN K "is_whole" (top 16))
  (d17:aN K "is_rising" (top 17))
  (d18:aN K "is_sorted_names" (top 18))
  (d19:aN K "is_among" (top 19))
  (d20:aN K "is_tie_row" (top 20))
  (d21:aN K "is_web" (top 21))
  (d22:aN K "need_web" (top 22))
  (d23:aN K "need_number" (top 23))
  (d24:aN K "need_place" (top 24))
  (d25:aN K "is_lot" (top 25))
  (d26:aN K "need_lot" (top 26))
  (d27:aN K "leads_into" (top 27))
  (d28:aN K "leading_in" (top 28))
  (d31:aN K "lots_among" (top 31))
  (d32:aN K "lots_without" (top 32))
  (d33:aN K "counts_into" (top 33))
  (d34:aN K "need_of" (top 34))
  (d35:aN K "spare_into" (top 35))
  (d38:aN K "need_enough" (top 38))
  (d39:aN K "trees_from" (top 39))
  (d41:aN K "need_roots" (top 41))
  (d42:aN K "lack" (top 42))
  (d43:aN K "shares_from" (top 43))
  (d45:aN K "put_into" (top 45))
  (d46:aN K "fewest_put" (top 46))
  (d47:aN K "greatest" (top 47))
  (d48:aN K "mended" (top 48))
  (d50:aN K "_law_pot" (top 50))
  (d51:aN K "_law_take" (top 51))
  (d52:aN K "_law_names" (top 52))
  (d53:aN K "_law_pairs" (top 53))
  (d54:aN K "_law_called" (top 54))
  (d55:aN K "_law_web" (top 55))
  (d56:aN K "_law_sort" (top 56))
  (d57:aN K "_law_said" (top 57))
  (d58:aN K "_law_no_web" (top 58))
  (d59:aN K "_law_strange" (top 59))
  (d60:aN K "_law_no_roots" (top 60))
  (d61:aN K "_law_spoilt_lot" (top 61))
  (d62:aN K "_law_no_lot" (top 62))
  (d63:aN K "_law_no_place" (top 63))
  (d64:aN K "_law_no_number" (top 64))
  (d65:aN K "law" (top 65)) :
  ∃fd:FuncData,(∀(s:Shared) (v:Value),BindsTo s fd ⟨[v],[]⟩ [("_law_script",v)])/\∀base:Heap,K.In base->base.Ns mainGlobals mg->aA l.prog w K mg base CX0 8 fa fd ["_law_script"] (iB K):=by
 obtain⟨f,oc,od,kV,doc,pm,an,cd,ct,sl,a,lk,c,kk⟩:=d65
 have e:=hfa.symm.trans (PySem.W.mg_of X G a)
 cases e
 refine⟨PySem.W.fnOf "law" "law" (dP (top 65)) (cW (top 65)) (aB (top 65)) .none kV doc pm an cd ct,fun s v=>.of_eq rfl,fun base KB _=>?_⟩
 have gRc:=PySem.W.mg_of X G cRc
 have xRc:=fJ KB eRc
 have gWc:=PySem.W.mg_of X G cWc
 have xWc:=fJ KB eWc
 have gPc:=PySem.W.mg_of X G cPc
 have xPc:=fJ KB ePc
 have gNc:=PySem.W.mg_of X G cNc
 have xNc:=fJ KB eNc
 have gTc:=PySem.W.mg_of X G cTc
 have xTc:=fJ KB eTc
 have gLc:=PySem.W.mg_of X G cLc
 have xLc:=fJ KB eLc
 have vWcRc:=gj KB uWcRc
 have vPcRc:=gj KB uPcRc
 have vNcRc:=gj KB uNcRc
 have vTcRc:=gj KB uTcRc
 have vLcRc:=gj KB uLcRc
 have gd1a:=PySem.W.mg_of X G cd1a
 have gd2a:=PySem.W.mg_of X G cd2a
 have gd3a:=PySem.W.mg_of X G cd3a
 have gd4a:=PySem.W.mg_of X G cd4a
 have gd5a:=PySem.W.mg_of X G cd5a
 have gd6a:=PySem.W.mg_of X G cd6a
 have Z:Cls mg Wc Pc Nc Tc Lc d1a d2a d3a d4a d5a d6a:=⟨gWc,gPc,gNc,gTc,gLc,gd1a,gd2a,gd3a,gd4a,gd5a,gd6a,PySem.W.mg_none_of X G zve,PySem.W.mg_none_of X G zsum⟩
 have Ow:Srt K Wc Wc Pc Nc Tc Lc d1a d2a d3a d4a d5a d6a true false false false false:=⟨qwa,qwb,qwc,qwd,qwe,qwo,qwv,gy qwx⟩
 have Op:Srt K Pc Wc Pc Nc Tc Lc d1a d2a d3a d4a d5a d6a false true false false false:=⟨qpa,qpb,qpc,qpd,qpe,qpo,qpv,gy qpx⟩
 have On:Srt K Nc Wc Pc Nc Tc Lc d1a d2a d3a d4a d5a d6a false false true false false:=⟨qna,qnb,qnc,qnd,qne,qno,qnv,gy qnx⟩
 have Ot:Srt K Tc Wc Pc Nc Tc Lc d1a d2a d3a d4a d5a d6a false false false true false:=⟨qta,qtb,qtc,qtd,qte,qto,qtv,gy qtx⟩
 have Ol:Srt K Lc Wc Pc Nc Tc Lc d1a d2a d3a d4a d5a d6a false false false false true:=⟨qla,qlb,qlc,qld,qle,qlo,qlv,gy qlx⟩
 have n15:=aQ (P:=l.prog) (w:=w) (base:=base) d15 X G (ps:=["thing"]) (fun _ _ _ _ _ _ us hl=>match us,hl with | [_],_=>rfl) fun f fd F=>rB F B
 have n15D:=aQ (P:=l.prog) (w:=w) (base:=base) d15 X G (ps:=["thing"]) (fun _ _ _ _ _ _ us hl=>match us,hl with | [_],_=>rfl) fun f fd F=>mG F B
 have n15E:=aQ (P:=l.prog) (w:=w) (base:=base) d15 X G (ps:=["thing"]) (fun _ _ _ _ _ _ us hl=>match us,hl with | [_],_=>rfl) fun f fd F=>uW F B
 have n16:=aQ (P:=l.prog) (w:=w) (base:=base) d16 X G (ps:=["thing"]) (fun _ _ _ _ _ _ us hl=>match us,hl with | [_],_=>rfl) fun f fd F=>kS F B
 have n16N:=aQ (P:=l.prog) (w:=w) (base:=base) d16 X G (ps:=["thing"]) (fun _ _ _ _ _ _ us hl=>match us,hl with | [_],_=>rfl) fun f fd F=>aA.or (kS F B) (uk F B)
 have n17:=aQ (P:=l.prog) (w:=w) (base:=base) d17 X G (ps:=["names"]) (fun _ _ _ _ _ _ us hl=>match us,hl with | [_],_=>rfl) fun f fd F=>kO F B
 have n17D:=aQ (P:=l.prog) (w:=w) (base:=base) d17 X G (ps:=["names"]) (fun _ _ _ _ _ _ us hl=>match us,hl with | [_],_=>rfl) fun f fd F=>rJ F B
 have n18:=aQ (P:=l.prog) (w:=w) (base:=base) d18 X G (ps:=["thing"]) (fun _ _ _ _ _ _ us hl=>match us,hl with | [_],_=>rfl) fun f fd F=>qt F B n15 n17
 have n18D:=aQ (P:=l.prog) (w:=w) (base:=base) d18 X G (ps:=["thing"]) (fun _ _ _ _ _ _ us hl=>match us,hl with | [_],_=>rfl) fun f fd F=>rR F B n15D n17D
 have n18E:=aQ (P:=l.prog) (w:=w) (base:=base) d18 X G (ps:=["thing"]) (fun _ _ _ _ _ _ us hl=>match us,hl with | [_],_=>rfl) fun f fd F=>rE F B n15E n17D
 have n19:=aQ (P:=l.prog) (w:=w) (base:=base) d19 X G (ps:=["thing","names"]) (fun _ _ _ _ _ _ us hl=>match us,hl with | [_,_],_=>rfl) fun f fd F=>qU F B
 have n19D:=aQ (P:=l.prog) (w:=w) (base:=base) d19 X G (ps:=["thing","names"]) (fun _ _ _ _ _ _ us hl=>match us,hl with | [_,_],_=>rfl) fun f fd F=>lq F B
 have n19N:=aQ (P:=l.prog) (w:=w) (base:=base) d19 X G (ps:=["thing","names"]) (fun _ _ _ _ _ _ us hl=>match us,hl with | [_,_],_=>rfl) fun f fd F=>lR F B
 have n19E:=aQ (P:=l.prog) (w:=w) (base:=base) d19 X G (ps:=["thing","names"]) (fun _ _ _ _ _ _ us hl=>match us,hl with | [_,_],_=>rfl) fun f fd F=>sM F B
 have n20:=aQ (P:=l.prog) (w:=w) (base:=base) d20 X G (ps:=["thing","places"]) (fun _ _ _ _ _ _ us hl=>match us,hl with | [_,_],_=>rfl) fun f fd F=>qk F B n15 n19
 have n20D:=aQ (P:=l.prog) (w:=w) (base:=base) d20 X G (ps:=["thing","places"]) (fun _ _ _ _ _ _ us hl=>match us,hl with | [_,_],_=>rfl) fun f fd F=>vz F B n15D n19D
 have n21:=aQ (P:=l.prog) (w:=w) (base:=base) d21 X G (ps:=["thing"]) (fun _ _ _ _ _ _ us hl=>match us,hl with | [_],_=>rfl) fun f fd F=>sE F B n18 n20 n17
 have n21D:=aQ (P:=l.prog) (w:=w) (base:=base) d21 X G (ps:=["thing"]) (fun _ _ _ _ _ _ us hl=>match us,hl with | [_],_=>rfl) fun f fd F=>vA F B n18D n20D n17D
 have n22:=el (P:=l.prog) (w:=w) (base:=base) d22 X G (ps:=["thing"]) (fun _ _ _ _ _ _ us hl=>match us,hl with | [_],_=>rfl) fun f fd F=>aA.or (qT F n21).lift (qC F gWc xWc n21D)
 have n23:=el (P:=l.prog) (w:=w) (base:=base) d23 X G (ps:=["thing","low","high"]) (fun _ _ _ _ _ _ us hl=>match us,hl with | [_,_,_],_=>rfl) fun f fd F=>aA.or (qc F n16).lift (qa F B gNc xNc n16N)
 have n24:=el (P:=l.prog) (w:=w) (base:=base) d24 X G (ps:=["web","thing"]) (fun _ _ _ _ _ _ us hl=>match us,hl with | [_,_],_=>rfl) fun f fd F=>aA.or (qj F n19).lift (qd F gPc xPc n19N)
 have n25:=aQ (P:=l.prog) (w:=w) (base:=base) d25 X G (ps:=["web","thing"]) (fun _ _ _ _ _ _ us hl=>match us,hl with | [_,_],_=>rfl) fun f fd F=>vm F B n18E
 have n26:=el (P:=l.prog) (w:=w) (base:=base) d26 X G (ps:=["web","thing"]) (fun _ _ _ _ _ _ us hl=>match us,hl with | [_,_],_=>rfl) fun f fd F=>qH F gLc xLc n25
 have n27:=aQ (P:=l.prog) (w:=w) (base:=base) d27 X G (ps:=["row","lot"]) (fun _ _ _ _ _ _ us hl=>match us,hl with | [_,_],_=>rfl) fun f fd F=>qm F
 have n28:=el (P:=l.prog) (w:=w) (base:=base) d28 X G (ps:=["web","lot"]) (fun _ _ _ _ _ _ us hl=>match us,hl with | [_,_],_=>rfl) fun f fd F=>qK F n22 n26 n27
 have n31:=aQ (P:=l.prog) (w:=w) (base:=base) d31 X G (ps:=["places"]) (fun _ _ _ _ _ _ us hl=>match us,hl with | [_],_=>rfl) fun f fd F=>qh F B
 have n32:=aQ (P:=l.prog) (w:=w) (base:=base) d32 X G (ps:=["web","root"]) (fun _ _ _ _ _ _ us hl=>match us,hl with | [_,_],_=>rfl) fun f fd F=>p7 F n31
 have n33:=aQ (P:=l.prog) (w:=w) (base:=base) d33 X G (ps:=["rows","lots"]) (fun _ _ _ _ _ _ us hl=>match us,hl with | [_,_],_=>rfl) fun f fd F=>tY F n27
 have n34:=aQ (P:=l.prog) (w:=w) (base:=base) d34 X G (ps:=["roots","lot"]) (fun _ _ _ _ _ _ us hl=>match us,hl with | [_,_],_=>rfl) fun f fd F=>rq F B
 have n35:=aQ (P:=l.prog) (w:=w) (base:=base) d35 X G (ps:=["rows","lots","roots"]) (fun _ _ _ _ _ _ us hl=>match us,hl with | [_,_,_],_=>rfl) fun f fd F=>uY F n33 n34
 have n38:=aQ (P:=l.prog) (w:=w) (base:=base) d38 X G (ps:=["web","roots"]) (fun _ _ _ _ _ _ us hl=>match us,hl with | [_,_],_=>rfl) fun f fd F=>rN F n35 n31
 have n39:=aQ (P:=l.prog) (w:=w) (base:=base) d39 X G (ps:=["web","roots"]) (fun _ _ _ _ _ _ us hl=>match us,hl with | [_,_],_=>rfl) fun f fd F=>uf F B n38
 have n41:=el (P:=l.prog) (w:=w) (base:=base) d41 X G (ps:=["web","thing"]) (fun _ _ _ _ _ _ us hl=>match us,hl with | [_,_],_=>rfl) fun f fd F=>qe F B gTc xTc n19E
 have n42:=el (P:=l.prog) (w:=w) (base:=base) d42 X G (ps:=["web","roots","lot"]) (fun _ _ _ _ _ _ us hl=>match us,hl with | [_,_,_],_=>rfl) fun f fd F=>aA.or (uv F B n22 n41 n26 n34 n28) (uG F n22 n41 n26)
 have n43:=el (P:=l.prog) (w:=w) (base:=base) d43 X G (ps:=["web","roots"]) (fun _ _ _ _ _ _ us hl=>match us,hl with | [_,_],_=>rfl) fun f fd F=>aA.or (qM F n22 n41 n39) (qQ F n22 n41)
 have n45:=aQ (P:=l.prog) (w:=w) (base:=base) d45 X G (ps:=["put","lot"]) (fun _ _ _ _ _ _ us hl=>match us,hl with | [_,_],_=>rfl) fun f fd F=>vE F Z.sum
 have n46:=aQ (P:=l.prog) (w:=w) (base:=base) d46 X G (ps:=["places","short","many"]) (fun _ _ _ _ _ _ us hl=>match us,hl with | [_,_,_],_=>rfl) fun f fd F=>rj F B n45
 have n47:=aQ (P:=l.prog) (w:=w) (base:=base) d47 X G (ps:=["lots"]) (fun _ _ _ _ _ _ us hl=>match us,hl with | [_],_=>rfl) fun f fd F=>qz F
 have n48:=el (P:=l.prog) (w:=w) (base:=base) d48 X G (ps:=["web","root","many"]) (fun _ _ _ _ _ _ us hl=>match us,hl with | [_,_,_],_=>rfl) fun f fd F=>aA.or (qZ F B n22 n24 n23 n32 n33 n46 n45 n47) (rK F B n22 n24 n23)
 have n50:=aQ (P:=l.prog) (w:=w) (base:=base) d50 X G (ps:=["_law_script","_law_k"]) (fun _ _ _ _ _ _ us hl=>match us,hl with | [_,_],_=>rfl) fun f fd F=>wN F B
 have n51:=aQ (P:=l.prog) (w:=w) (base:=base) d51 X G (ps:=["_law_pot_here","_law_many"]) (fun _ _ _ _ _ _ us hl=>match us,hl with | [_,_],_=>rfl) fun f fd F=>wf F B
 have n52:=aQ (P:=l.prog) (w:=w) (base:=base) d52 X G (ps:=["_law_pot_here","_law_many"]) (fun _ _ _ _ _ _ us hl=>match us,hl with | [_,_],_=>rfl) fun f fd F=>uO F B n51
 have n53:=aQ (P:=l.prog) (w:=w) (base:=base) d53 X G (ps:=["_law_pot_here","_law_many"]) (fun _ _ _ _ _ _ us hl=>match us,hl with | [_,_],_=>rfl) fun f fd F=>ur F B n51
 have n54:=aQ (P:=l.prog) (w:=w) (base:=base) d54 X G (ps:=["_law_pot_here","_law_ties","_law_places"]) (fun _ _ _ _ _ _ us hl=>match us,hl with | [_,_,_],_=>rfl) fun f fd F=>rX F B n51
 have n55:=aQ (P:=l.prog) (w:=w) (base:=base) d55 X G (ps:=["_law_pot_here"]) (fun _ _ _ _ _ _ us hl=>match us,hl with | [_],_=>rfl) fun f fd F=>wL F B n51 n52 n53 n54
 have n56:=vP (P:=l.prog) (w:=w) (base:=base) d56 X G (ps:=["_law_e"]) (fun _ _ _ _ _ _ us hl=>match us,hl with | [_],_=>rfl) fun f fd F=>cQ.or (gB (x:=Str.ofString "web") (j:=0) F B Z Ow (by decide) rfl (by decide) rfl) (cQ.or (gB (x:=Str.ofString "place") (j:=1) F B Z Op (by decide) rfl (by decide) rfl) (cQ.or (gB (x:=Str.ofString "number") (j:=2) F B Z On (by decide) rfl (by decide) rfl) (cQ.or (gB (x:=Str.ofString "roots") (j:=3) F B Z Ot (by decide) rfl (by decide) rfl) (gB (x:=Str.ofString "lot") (j:=4) F B Z Ol (by decide) rfl (by decide) rfl))))
 have n57:=aQ (P:=l.prog) (w:=w) (base:=base) d57 X G (ps:=["_law_way","_law_web_here","_law_one","_law_other"]) (fun _ _ _ _ _ _ us hl=>match us,hl with | [_,_,_,_],_=>rfl) fun f fd F=>vU F gRc xRc vWcRc vPcRc vNcRc vTcRc vLcRc n42 n43 n48 n56
 have n58:=aQ (P:=l.prog) (w:=w) (base:=base) d58 X G (ps:=["_law_pot_here","_law_web_here"]) (fun _ _ _ _ _ _ us hl=>match us,hl with | [_,_],_=>rfl) fun f fd F=>rY F B n51
 have n59:=aQ (P:=l.prog) (w:=w) (base:=base) d59 X G (ps:=["_law_pot_here","_law_first"]) (fun _ _ _ _ _ _ us hl=>match us,hl with | [_,_],_=>rfl) fun f fd F=>rQ F B n51
 have n60:=aQ (P:=l.prog) (w:=w) (base:=base) d60 X G (ps:=["_law_pot_here","_law_web_here"]) (fun _ _ _ _ _ _ us hl=>match us,hl with | [_,_],_=>rfl) fun f fd F=>qO F B n51 n59
 have n61:=aQ (P:=l.prog) (w:=w) (base:=base) d61 X G (ps:=["_law_pot_here","_law_places"]) (fun _ _ _ _ _ _ us hl=>match us,hl with | [_,_],_=>rfl) fun f fd F=>su F B n51 n59
 have n62:=aQ (P:=l.prog) (w:=w) (base:=base) d62 X G (ps:=["_law_pot_here","_law_web_here"]) (fun _ _ _ _ _ _ us hl=>match us,hl with | [_,_],_=>rfl) fun f fd F=>tG F B n51 n61
 have n63:=aQ (P:=l.prog) (w:=w) (base:=base) d63 X G (ps:=["_law_pot_here","_law_web_here"]) (fun _ _ _ _ _ _ us hl=>match us,hl with | [_,_],_=>rfl) fun f fd F=>qS F B n51
 have n64:=aQ (P:=l.prog) (w:=w) (base:=base) d64 X G (ps:=["_law_pot_here"]) (fun _ _ _ _ _ _ us hl=>match us,hl with | [_],_=>rfl) fun f fd F=>qu F B n51
 exact wu (iy (st:=top 65) lk c kk) B n50 n51 n55 n58 n60 n62 n63 n64 n57 n42 n43 n48
theorem yK {K:PySem.W.Frag}{h:Heap}{mg:Str->Option Value} (X:K.In h) (G:h.Ns mainGlobals mg) {t_most:Tok}{t_lng:Tok}
  (z_len:PySem.W.nsIn K mainGlobals "len"=some none)
  (z_isinstance:PySem.W.nsIn K mainGlobals "isinstance"=some none)
  (z_all:PySem.W.nsIn K mainGlobals "all"=some none)
  (z_range:PySem.W.nsIn K mainGlobals "range"=some none)
  (z_sorted:PySem.W.nsIn K mainGlobals "sorted"=some none)
  (z_repr:PySem.W.nsIn K mainGlobals "repr"=some none)
  (z_max:PySem.W.nsIn K mainGlobals "max"=some none)
  (z_min:PySem.W.nsIn K mainGlobals "min"=some none)
  (z_str:PySem.W.nsIn K mainGlobals "str"=some none)
  (z_tuple:PySem.W.nsIn K mainGlobals "tuple"=some none)
  (z_list:PySem.W.nsIn K mainGlobals "list"=some none)
  (z_int:PySem.W.nsIn K mainGlobals "int"=some none)
  (z_bool:PySem.W.nsIn K mainGlobals "bool"=some none)
  (z_zip:PySem.W.nsIn K mainGlobals "zip"=some none)
  (z_divmod:PySem.W.nsIn K mainGlobals "divmod"=some none)
  (z_abs:PySem.W.nsIn K mainGlobals "abs"=some none)
  (z_set:PySem.W.nsIn K mainGlobals "set"=some none)
  (z_enumerate:PySem.W.nsIn K mainGlobals "enumerate"=some none)
  (z_most:PySem.W.nsIn K mainGlobals "MOST_TREES"=some (some (.int 6 t_most)))
  (z_lng:PySem.W.nsIn K mainGlobals "LONGEST_NAME"=some (some (.int 8 t_lng)))
  : Bl mg :=
 ⟨PySem.W.mg_none_of X G z_len,PySem.W.mg_none_of X G z_isinstance,PySem.W.mg_none_of X G z_all,PySem.W.mg_none_of X G z_range,PySem.W.mg_none_of X G z_sorted,PySem.W.mg_none_of X G z_repr,PySem.W.mg_none_of X G z_max,PySem.W.mg_none_of X G z_min,PySem.W.mg_none_of X G z_str,PySem.W.mg_none_of X G z_tuple,PySem.W.mg_none_of X G z_list,PySem.W.mg_none_of X G z_int,PySem.W.mg_none_of X G z_bool,PySem.W.mg_none_of X G z_zip,PySem.W.mg_none_of X G z_divmod,PySem.W.mg_none_of X G z_abs,PySem.W.mg_none_of X G z_set,PySem.W.mg_none_of X G z_enumerate,⟨t_most,PySem.W.mg_of X G z_most⟩,⟨t_lng,PySem.W.mg_of X G z_lng⟩⟩
theorem walk {l:PySem.W.OpenLaw}{q:Program}{loose:List Str}{XP:(Str->Option Value)->Heap->Prop}{YP:World->Heap->Prop}{d:DefRec}{K:Params->PySem.W.Frag} (hn:l.most=some 63) (hdf:d.params.defaults=[])
  (hY:∀(w:World) (h:Heap),YP w h->(K w.params).In h)
  (F:∀(w:World) (mg:Str->Option Value) (fa:Addr) (h:Heap),(K w.params).In h->h.Ns mainGlobals mg->mg d.name=some (.ref fa) ->
   ∃fd:FuncData,(∀(s:Shared) (u:Value),BindsTo s fd ⟨[u],[]⟩ [("_law_script",u)])/\∀base:Heap,(K w.params).In base->base.Ns mainGlobals mg->aA l.prog w (K w.params) mg base CX0 8 fa fd ["_law_script"] (iB (K w.params))) :
  PySem.W.WalkO q loose XP YP l.row.toRowW d [] (fun f vs=>PySem.call f vs) :=
 L2.yE (n:=63) (k:=8) (x:="_law_script") (CX:=fun _=>CX0) (sp:=fun w=>iB (K w.params)) hn (by decide) hdf ⟨rfl,by decide,by decide,rfl⟩ hY F (fun _ _ a ns hl _ hS=>⟨a,ns,rfl,hS,hl,fun _=>rfl⟩) fun _ _ _ _ _ z=>z
end K45
theorem PySem.W.Fast.tw10494681633616119497 : True := trivial
theorem PySem.W.Fast.tw9667921858579250698 : True := trivial
theorem PySem.W.Fast.tw9981031585994409865 : True := trivial
theorem PySem.W.Fast.tw15541386485833339061 : True := trivial
theorem PySem.W.Fast.tw8009683516049660751 : True := trivial
theorem PySem.W.Fast.tw16289634362485884262 : True := trivial
theorem PySem.W.Fast.tw13195518851559171121 : True := trivial
theorem PySem.W.Fast.tw13598690258275194783 : True := trivial
theorem PySem.W.Fast.tw2070693534193130051 : True := trivial
theorem PySem.W.Fast.tw5910638972818125793 : True := trivial
theorem PySem.W.Fast.tw4445773304637364636 : True := trivial
theorem PySem.W.Fast.tw8089921875376016794 : True := trivial
theorem PySem.W.Fast.tw9023763872813265200 : True := trivial
theorem PySem.W.Fast.tw5569802601706408311 : True := trivial
theorem PySem.W.Fast.tw3339453242811787302 : True := trivial
theorem PySem.W.Fast.tw9399568892486007377 : True := trivial
theorem PySem.W.Fast.tw17066305624460902431 : True := trivial
theorem PySem.W.Fast.tw9671271122191396448 : True := trivial
theorem PySem.W.Fast.tw5589017259579256482 : True := trivial
theorem PySem.W.Fast.tw14229282242370459667 : True := trivial
theorem PySem.W.Fast.tw14973046976385279769 : True := trivial
theorem PySem.W.Fast.tw12539742580911708209 : True := trivial
theorem PySem.W.Fast.tw2571986190255375188 : True := trivial
theorem PySem.W.Fast.tw12859507190557179812 : True := trivial
theorem PySem.W.Fast.tw965774531593947679 : True := trivial
theorem PySem.W.Fast.tw4688956762367070773 : True := trivial
theorem PySem.W.Fast.tw512714463598072232 : True := trivial
theorem PySem.W.Fast.tw102068578940211124 : True := trivial
theorem PySem.W.Fast.tw13314623178200415030 : True := trivial
theorem PySem.W.Fast.tw6482722492674492488 : True := trivial
theorem PySem.W.Fast.tw10884938729985911146 : True := trivial
theorem PySem.W.Fast.tw14704141842487589385 : True := trivial
theorem PySem.W.Fast.tw11735676878683104552 : True := trivial
theorem PySem.W.Fast.tw13570798827933870640 : True := trivial
theorem PySem.W.Fast.tw3567180750545727444 : True := trivial
theorem PySem.W.Fast.tw3595091554715007918 : True := trivial
theorem PySem.W.Fast.tw18175280447298582075 : True := trivial
theorem PySem.W.Fast.tw7784436672647287938 : True := trivial
theorem PySem.W.Fast.tw14397092324410804767 : True := trivial
theorem PySem.W.Fast.tw9084876258912013022 : True := trivial
theorem PySem.W.Fast.tw1450879011262832986 : True := trivial
theorem PySem.W.Fast.tw6914832529207473385 : True := trivial
theorem PySem.W.Fast.tw7027322121692133187 : True := trivial
theorem PySem.W.Fast.tw5256004316710242102 : True := trivial
theorem PySem.W.Fast.tw14403833444249315546 : True := trivial
theorem PySem.W.Fast.tw10952889410507827125 : True := trivial
theorem PySem.W.Fast.tw15415389811672891204 : True := trivial
theorem PySem.W.Fast.tw6606102798240863105 : True := trivial
theorem PySem.W.Fast.tw12099564429843842965 : True := trivial
theorem PySem.W.Fast.tw16529606905492621390 : True := trivial
theorem PySem.W.Fast.tw8433987892523623935 : True := trivial
theorem PySem.W.Fast.tw14174549818346633902 : True := trivial
theorem PySem.W.Fast.tw15067861508897923133 : True := trivial
theorem PySem.W.Fast.tw3705403409265022678 : True := trivial
theorem PySem.W.Fast.tw11709968152860365359 : True := trivial
theorem PySem.W.Fast.tw9489616730291642361 : True := trivial
theorem PySem.W.Fast.tw2498191270405557197 : True := trivial
open PySem PySem.W PyProof.Rows
set_option maxRecDepth 100000 in
set_option maxHeartbeats 0 in
theorem PySem.Challenge.cw_rootshares_k45_roots_refused_holds : PySem.Challenge.rw_rootshares_k45_roots_refused.Holds := by
 w_on;o_law;k_head;(case hw=>w_witness2)
 k_fill
 refine K45.walk (l:=PySem.Challenge.rw_rootshares_k45_roots_refused) rfl rfl (fun w h Y=>PySem.W.kIn_of Y) ?F
 case F =>
  intro w mg fa h KX G hmg
  have B:K45.Bl mg:=by
   refine' K45.yK KX G ?len ?isinstance ?all ?range ?sorted ?repr ?max ?min ?str ?tuple ?list ?int ?bool ?zip ?divmod ?abs ?set ?enumerate ?most ?lng
   (case len=>k_is)
   (case isinstance=>k_is)
   (case all=>k_is)
   (case range=>k_is)
   (case sorted=>k_is)
   (case repr=>k_is)
   (case max=>k_is)
   (case min=>k_is)
   (case str=>k_is)
   (case tuple=>k_is)
   (case list=>k_is)
   (case int=>k_is)
   (case bool=>k_is)
   (case zip=>k_is)
   (case divmod=>k_is)
   (case abs=>k_is)
   (case set=>k_is)
   (case enumerate=>k_is)
   (case most=>k_is)
   (case lng=>k_is)
  refine' K45.yH KX G hmg B ?cRc ?eRc ?cWc ?eWc ?cPc ?ePc ?cNc ?eNc ?cTc ?eTc ?cLc ?eLc ?uWcRc ?uPcRc ?uNcRc ?uTcRc ?uLcRc ?cd1a ?cd2a ?cd3a ?cd4a ?cd5a ?cd6a ?zve ?zsum ?qwa ?qwb ?qwc ?qwd ?qwe ?qwo ?qwv ?qwx ?qpa ?qpb ?qpc ?qpd ?qpe ?qpo ?qpv ?qpx ?qna ?qnb ?qnc ?qnd ?qne ?qno ?qnv ?qnx ?qta ?qtb ?qtc ?qtd ?qte ?qto ?qtv ?qtx ?qla ?qlb ?qlc ?qld ?qle ?qlo ?qlv ?qlx ?d15 ?d16 ?d17 ?d18 ?d19 ?d20 ?d21 ?d22 ?d23 ?d24 ?d25 ?d26 ?d27 ?d28 ?d31 ?d32 ?d33 ?d34 ?d35 ?d38 ?d39 ?d41 ?d42 ?d43 ?d45 ?d46 ?d47 ?d48 ?d50 ?d51 ?d52 ?d53 ?d54 ?d55 ?d56 ?d57 ?d58 ?d59 ?d60 ?d61 ?d62 ?d63 ?d64 ?d65
  (case cRc=>k_is)
  (case cWc=>k_is)
  (case cPc=>k_is)
  (case cNc=>k_is)
  (case cTc=>k_is)
  (case cLc=>k_is)
  (case eRc=>kernel_rfl)
  (case eWc=>kernel_rfl)
  (case ePc=>kernel_rfl)
  (case eNc=>kernel_rfl)
  (case eTc=>kernel_rfl)
  (case eLc=>kernel_rfl)
  (case uWcRc=>kernel_rfl)
  (case uPcRc=>kernel_rfl)
  (case uNcRc=>kernel_rfl)
  (case uTcRc=>kernel_rfl)
  (case uLcRc=>kernel_rfl)
  (case cd1a=>k_is)
  (case cd2a=>k_is)
  (case cd3a=>k_is)
  (case cd4a=>k_is)
  (case cd5a=>k_is)
  (case cd6a=>k_is)
  (case zve=>k_is)
  (case zsum=>k_is)
  (case qwa=>kernel_rfl)
  (case qwb=>kernel_rfl)
  (case qwc=>kernel_rfl)
  (case qwd=>kernel_rfl)
  (case qwe=>kernel_rfl)
  (case qwo=>kernel_rfl)
  (case qwv=>kernel_rfl)
  (case qwx=>kernel_rfl)
  (case qpa=>kernel_rfl)
  (case qpb=>kernel_rfl)
  (case qpc=>kernel_rfl)
  (case qpd=>kernel_rfl)
  (case qpe=>kernel_rfl)
  (case qpo=>kernel_rfl)
  (case qpv=>kernel_rfl)
  (case qpx=>kernel_rfl)
  (case qna=>kernel_rfl)
  (case qnb=>kernel_rfl)
  (case qnc=>kernel_rfl)
  (case qnd=>kernel_rfl)
  (case qne=>kernel_rfl)
  (case qno=>kernel_rfl)
  (case qnv=>kernel_rfl)
  (case qnx=>kernel_rfl)
  (case qta=>kernel_rfl)
  (case qtb=>kernel_rfl)
  (case qtc=>kernel_rfl)
  (case qtd=>kernel_rfl)
  (case qte=>kernel_rfl)
  (case qto=>kernel_rfl)
  (case qtv=>kernel_rfl)
  (case qtx=>kernel_rfl)
  (case qla=>kernel_rfl)
  (case qlb=>kernel_rfl)
  (case qlc=>kernel_rfl)
  (case qld=>kernel_rfl)
  (case qle=>kernel_rfl)
  (case qlo=>kernel_rfl)
  (case qlv=>kernel_rfl)
  (case qlx=>kernel_rfl)
  (case d15=>(refine' K45.yI ?a ?l ?c ?k;(case a=>k_is);(case l=>k_is);(case c=>k_is);(case k=>k_is)))
  (case d16=>(refine' K45.yI ?a ?l ?c ?k;(case a=>k_is);(case l=>k_is);(case c=>k_is);(case k=>k_is)))
  (case d17=>(refine' K45.yI ?a ?l ?c ?k;(case a=>k_is);(case l=>k_is);(case c=>k_is);(case k=>k_is)))
  (case d18=>(refine' K45.yI ?a ?l ?c ?k;(case a=>k_is);(case l=>k_is);(case c=>k_is);(case k=>k_is)))
  (case d19=>(refine' K45.yI ?a ?l ?c ?k;(case a=>k_is);(case l=>k_is);(case c=>k_is);(case k=>k_is)))
  (case d20=>(refine' K45.yI ?a ?l ?c ?k;(case a=>k_is);(case l=>k_is);(case c=>k_is);(case k=>k_is)))
  (case d21=>(refine' K45.yI ?a ?l ?c ?k;(case a=>k_is);(case l=>k_is);(case c=>k_is);(case k=>k_is)))
  (case d22=>(refine' K45.yI ?a ?l ?c ?k;(case a=>k_is);(case l=>k_is);(case c=>k_is);(case k=>k_is)))
  (case d23=>(refine' K45.yI ?a ?l ?c ?k;(case a=>k_is);(case l=>k_is);(case c=>k_is);(case k=>k_is)))
  (case d24=>(refine' K45.yI ?a ?l ?c ?k;(case a=>k_is);(case l=>k_is);(case c=>k_is);(case k=>k_is)))
  (case d25=>(refine' K45.yI ?a ?l ?c ?k;(case a=>k_is);(case l=>k_is);(case c=>k_is);(case k=>k_is)))
  (case d26=>(refine' K45.yI ?a ?l ?c ?k;(case a=>k_is);(case l=>k_is);(case c=>k_is);(case k=>k_is)))
  (case d27=>(refine' K45.yI ?a ?l ?c ?k;(case a=>k_is);(case l=>k_is);(case c=>k_is);(case k=>k_is)))
  (case d28=>(refine' K45.yI ?a ?l ?c ?k;(case a=>k_is);(case l=>k_is);(case c=>k_is);(case k=>k_is)))
  (case d31=>(refine' K45.yI ?a ?l ?c ?k;(case a=>k_is);(case l=>k_is);(case c=>k_is);(case k=>k_is)))
  (case d32=>(refine' K45.yI ?a ?l ?c ?k;(case a=>k_is);(case l=>k_is);(case c=>k_is);(case k=>k_is)))
  (case d33=>(refine' K45.yI ?a ?l ?c ?k;(case a=>k_is);(case l=>k_is);(case c=>k_is);(case k=>k_is)))
  (case d34=>(refine' K45.yI ?a ?l ?c ?k;(case a=>k_is);(case l=>k_is);(case c=>k_is);(case k=>k_is)))
  (case d35=>(refine' K45.yI ?a ?l ?c ?k;(case a=>k_is);(case l=>k_is);(case c=>k_is);(case k=>k_is)))
  (case d38=>(refine' K45.yI ?a ?l ?c ?k;(case a=>k_is);(case l=>k_is);(case c=>k_is);(case k=>k_is)))
  (case d39=>(refine' K45.yI ?a ?l ?c ?k;(case a=>k_is);(case l=>k_is);(case c=>k_is);(case k=>k_is)))
  (case d41=>(refine' K45.yI ?a ?l ?c ?k;(case a=>k_is);(case l=>k_is);(case c=>k_is);(case k=>k_is)))
  (case d42=>(refine' K45.yI ?a ?l ?c ?k;(case a=>k_is);(case l=>k_is);(case c=>k_is);(case k=>k_is)))
  (case d43=>(refine' K45.yI ?a ?l ?c ?k;(case a=>k_is);(case l=>k_is);(case c=>k_is);(case k=>k_is)))
  (case d45=>(refine' K45.yI ?a ?l ?c ?k;(case a=>k_is);(case l=>k_is);(case c=>k_is);(case k=>k_is)))
  (case d46=>(refine' K45.yI ?a ?l ?c ?k;(case a=>k_is);(case l=>k_is);(case c=>k_is);(case k=>k_is)))
  (case d47=>(refine' K45.yI ?a ?l ?c ?k;(case a=>k_is);(case l=>k_is);(case c=>k_is);(case k=>k_is)))
  (case d48=>(refine' K45.yI ?a ?l ?c ?k;(case a=>k_is);(case l=>k_is);(case c=>k_is);(case k=>k_is)))
  (case d50=>(refine' K45.yI ?a ?l ?c ?k;(case a=>k_is);(case l=>k_is);(case c=>k_is);(case k=>k_is)))
  (case d51=>(refine' K45.yI ?a ?l ?c ?k;(case a=>k_is);(case l=>k_is);(case c=>k_is);(case k=>k_is)))
  (case d52=>(refine' K45.yI ?a ?l ?c ?k;(case a=>k_is);(case l=>k_is);(case c=>k_is);(case k=>k_is)))
  (case d53=>(refine' K45.yI ?a ?l ?c ?k;(case a=>k_is);(case l=>k_is);(case c=>k_is);(case k=>k_is)))
  (case d54=>(refine' K45.yI ?a ?l ?c ?k;(case a=>k_is);(case l=>k_is);(case c=>k_is);(case k=>k_is)))
  (case d55=>(refine' K45.yI ?a ?l ?c ?k;(case a=>k_is);(case l=>k_is);(case c=>k_is);(case k=>k_is)))
  (case d56=>(refine' K45.yI ?a ?l ?c ?k;(case a=>k_is);(case l=>k_is);(case c=>k_is);(case k=>k_is)))
  (case d57=>(refine' K45.yI ?a ?l ?c ?k;(case a=>k_is);(case l=>k_is);(case c=>k_is);(case k=>k_is)))
  (case d58=>(refine' K45.yI ?a ?l ?c ?k;(case a=>k_is);(case l=>k_is);(case c=>k_is);(case k=>k_is)))
  (case d59=>(refine' K45.yI ?a ?l ?c ?k;(case a=>k_is);(case l=>k_is);(case c=>k_is);(case k=>k_is)))
  (case d60=>(refine' K45.yI ?a ?l ?c ?k;(case a=>k_is);(case l=>k_is);(case c=>k_is);(case k=>k_is)))
  (case d61=>(refine' K45.yI ?a ?l ?c ?k;(case a=>k_is);(case l=>k_is);(case c=>k_is);(case k=>k_is)))
  (case d62=>(refine' K45.yI ?a ?l ?c ?k;(case a=>k_is);(case l=>k_is);(case c=>k_is);(case k=>k_is)))
  (case d63=>(refine' K45.yI ?a ?l ?c ?k;(case a=>k_is);(case l=>k_is);(case c=>k_is);(case k=>k_is)))
  (case d64=>(refine' K45.yI ?a ?l ?c ?k;(case a=>k_is);(case l=>k_is);(case c=>k_is);(case k=>k_is)))
  (case d65=>(refine' K45.yI ?a ?l ?c ?k;(case a=>k_is);(case l=>k_is);(case c=>k_is);(case k=>k_is)))
