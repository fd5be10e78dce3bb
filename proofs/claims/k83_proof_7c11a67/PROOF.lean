import PyProof.Rows.All
import Wide.All
import OpenK.AllK
import Wide.FinOn
import Lean
import PyProof.EqAt
import PyProof.EqKinds
import PyProof.TupleCall
import KE.KSortTup
import KE.KDictSum
import KE.KDictOf
import PyProof.AttrMissHeap
import PyProof.WalksEnum
import PyProof.EnumMake
import PyProof.Draws
import PyProof.Rows.SetFrom
import KE.KTryOn
import KE.KTryDeep
import PySem.Challenge.RW_rootshares_k83_whole_list_of_all_trees
set_option Elab.async false
set_option linter.all false
set_option maxRecDepth 100000
namespace L2
open PySem PySem.Spec PyProof.Rows
noncomputable abbrev Key:=Sum Int Str
noncomputable def cN:Key->Value->Bool
 | .inl k,v=>Value.isInt k v
 | .inr x,v=>Value.isStrOf x v
noncomputable def v4 (w:World):Key->Int
 | .inl k=>hashInt k
 | .inr x=>hashStr w x
theorem b7:∀{k:Key}{v:Value},cN k v=true->(∃i t,k=Sum.inl i/\v=Value.int i t)\/(∃x t,k=Sum.inr x/\v=Value.str x t)
 | .inl i,v,h=>by
  obtain⟨t,e⟩:=Value.isInt_shape (k:=i) (v:=v) h
  exact .inl ⟨i,t,rfl,e⟩
 | .inr x,v,h=>by
  obtain⟨t,e⟩:=Value.isStrOf_shape (x:=x) (v:=v) h
  exact .inr ⟨x,t,rfl,e⟩
theorem oR (i:Int) (t:Tok):cN (.inl i) (.int i t)=true:=by simp [cN,Value.isInt]
theorem oV (x:Str) (t:Tok):cN (.inr x) (.str x t)=true:=by simp [cN,Value.isStrOf]
theorem sU (a b:Int):decide ((Sum.inl a:Key)=Sum.inl b)=(a == b):=by
 by_cases e:a=b
 ·subst e;simp
 ·have h:¬ (Sum.inl a:Key)=Sum.inl b:=fun q=>e (Sum.inl.inj q)
  rw [decide_eq_false h]
  exact (beq_eq_false_iff_ne.mpr e).symm
theorem sZ (a b:Str):decide ((Sum.inr a:Key)=Sum.inr b)=decide (a=b):=by
 by_cases e:a=b
 ·subst e;simp
 ·have h:¬ (Sum.inr a:Key)=Sum.inr b:=fun q=>e (Sum.inr.inj q)
  rw [decide_eq_false h,decide_eq_false e]
theorem tN (a:Int) (b:Str):decide ((Sum.inl a:Key)=Sum.inr b)=false:=decide_eq_false (fun q=>nomatch q)
theorem tP (a:Str) (b:Int):decide ((Sum.inr a:Key)=Sum.inl b)=false:=decide_eq_false (fun q=>nomatch q)
noncomputable def bB (prog:Program) (w:World):PySem.KeyKind prog w Key where
 is:=cN
 hash:=v4 w
 inj:=fun v a b ha hb=>by
  rcases b7 ha with ⟨i,t,rfl,rfl⟩ | ⟨x,t,rfl,rfl⟩
  ·rcases b7 hb with ⟨j,u,rfl,e⟩ | ⟨y,u,rfl,e⟩
   ·injection e with e1 _;rw [e1]
   ·exact nomatch e
  ·rcases b7 hb with ⟨j,u,rfl,e⟩ | ⟨y,u,rfl,e⟩
   ·exact nomatch e
   ·injection e with e1 _;rw [e1]
 byValue:=fun k v h=>by
  rcases b7 h with ⟨i,t,rfl,rfl⟩ | ⟨x,t,rfl,rfl⟩ <;> rfl
 pyHash:=fun hv h=>by
  rcases b7 hv with ⟨i,t,rfl,rfl⟩ | ⟨x,t,rfl,rfl⟩
  ·exact wpAny_pyHash_int h
  ·exact wpAny_pyHash_str h
 eqBool:=fun hu hv h=>by
  rcases b7 hu with ⟨i,t,rfl,rfl⟩ | ⟨x,t,rfl,rfl⟩
  ·rcases b7 hv with ⟨j,u,rfl,rfl⟩ | ⟨y,u,rfl,rfl⟩
   ·rw [sU] at h;exact wpAny_eqBool_int h
   ·rw [tN] at h;exact SeqAt.EqAt.int_str i t y u _ _ _ _ h
  ·rcases b7 hv with ⟨j,u,rfl,rfl⟩ | ⟨y,u,rfl,rfl⟩
   ·rw [tP] at h;exact SeqAt.EqAt.str_int x t j u _ _ _ _ h
   ·rw [sZ] at h;exact wpAny_eqBool_str h
 «strs»:=fun k x t v h=>by
  rcases b7 h with ⟨i,u,rfl,e⟩ | ⟨y,u,rfl,e⟩
  ·exact nomatch e
  ·injection e with e1 _
   subst e1
   cases v <;> rfl
theorem nP (prog:Program) (w:World) (i:Int) (t:Tok):(bB prog w).is (.inl i) (.int i t)=true:=oR i t
theorem nZ (prog:Program) (w:World) (x:Str) (t:Tok):(bB prog w).is (.inr x) (.str x t)=true:=oV x t
inductive V where
 | non | bl (b:Bool) | int (i:Int) | str (x:Str) | byt (b:Array UInt8) | flt (b:UInt64) | ref (a:Addr) | ty (n:String)
 deriving DecidableEq
noncomputable def RelV:V->Value->Prop
 | .non,u=>u=Value.none
 | .bl b,u=>u=Value.bool b
 | .int i,u=>∃t,u=Value.int i t
 | .str x,u=>∃t,u=Value.str x t
 | .byt b,u=>∃t,u=Value.bytes b t
 | .flt b,u=>∃t,u=Value.float b t
 | .ref a,u=>u=Value.ref a
 | .ty n,u=>u=Value.type n
noncomputable abbrev ak:List V->List Value->Prop:=Paired RelV
theorem ak.length {xs:List V}{us:List Value} (r:ak xs us):xs.length=us.length:=Paired.length r
theorem ak.get:∀{xs:List V}{us:List Value}{i:Nat}{x:V},ak xs us->xs[i]?=some x->∃u,us[i]?=some u/\RelV x u
 | _,_,_,_,.nil,e=>by simp at e
 | _,_,0,_,.cons r _,e=>by simp at e;subst e;exact⟨_,rfl,r⟩
 | _,_,i + 1,x,.cons _ t,e=>by
  obtain⟨u,h1,h2⟩:=ak.get (i:=i) (x:=x) t (by simpa using e)
  exact⟨u,by simpa using h1,h2⟩
theorem ak.set {x:V}{u:Value} (r:RelV x u):∀{xs:List V}{us:List Value} (i:Nat),ak xs us->ak (xs.set i x) (us.set i u)
 | _,_,_,.nil=>.nil
 | _,_,0,.cons _ t=>.cons r t
 | _,_,i + 1,.cons q t=>.cons q (ak.set r i t)
theorem ak.append:∀{xs ys:List V}{us ws:List Value},ak xs us->ak ys ws->ak (xs++ys) (us++ws)
 | _,_,_,_,.nil,s=>s
 | _,_,_,_,.cons r t,s=>.cons r (ak.append t s)
theorem ak.take:∀{xs:List V}{us:List Value} (n:Nat),ak xs us->ak (xs.take n) (us.take n)
 | _,_,0,_=>.nil
 | _,_,_ + 1,.nil=>.nil
 | _,_,n + 1,.cons r t=>.cons r (ak.take n t)
theorem ak.drop:∀{xs:List V}{us:List Value} (n:Nat),ak xs us->ak (xs.drop n) (us.drop n)
 | _,_,0,r=>r
 | _,_,_ + 1,.nil=>.nil
 | _,_,n + 1,.cons _ t=>ak.drop n t
noncomputable def b6:Option V->Option Value->Prop
 | some v,some u=>RelV v u
 | none,none=>True
 | _,_=>False
noncomputable def KV {κ:Type}:List (κ×V)->List (κ×Value)->Prop:=Paired fun (p:κ×V) (q:κ×Value)=>p.1=q.1/\RelV p.2 q.2
noncomputable def kV:Key->V
 | .inl i=>.int i
 | .inr x=>.str x
inductive HO where
  | lst (xs:List V)
  | tup (xs:List V)
  | dK (kvs:List (Key×V)) | dT (kvs:List (List Key×V))
  | set (S:Int->Bool) (n:Nat)
  | ins (C dx:Addr) (fs:List (Str×V))
  | own (x:Addr)
  | xd (fs:List (Str×V))
  | met (f x:Addr)
  | rng (lo hi:Int)
  | frz (o:Obj) (u:HO)
  | tbl (ps:Array Value)
  | ext (φ:Heap->Prop)
noncomputable abbrev Hp:=Addr->Option HO
noncomputable def upd (H:Hp) (a:Addr) (o:HO):Hp:=fun b=>if b=a then some o else H b
theorem ah {H:Hp}{a:Addr}{o:HO}:upd H a o a=some o:=by unfold upd;rw [if_pos rfl]
theorem aj {H:Hp}{a b:Addr}{o:HO} (h:b≠a):upd H a o b=H b:=by unfold upd;rw [if_neg h]
theorem ml {H:Hp}{a b:Addr}{o u:HO} (h:H a=some o) (h':H b=some u) (d:o≠u):a≠b:=by
 intro e;subst e;rw [h] at h';exact d (Option.some.inj h')
theorem aI {H:Hp}{a b:Addr}{o:HO} (h:H a=some o) (h':H b=none):a≠b:=by
 intro e;subst e;rw [h] at h';cases h'
section
variable (P:Program) (w:World)
noncomputable def aA (H:Hp) (h:Heap) (a:Addr):HO->Prop
 | .lst xs=>xs.length<=sizeLine/\∃(its:List Value) (n:Nat),ak xs its/\h.get? a=some { cls:=.type "list",data:=.seq its.toArray n }
 | .tup xs=>xs.length<=sizeLine/\∃its:List Value,ak xs its/\IsTup h a its.toArray
 | .dK kvs=>kvs.length<=sizeLine/\(a == sysModules)=false/\∃vs,KV kvs vs/\h.DictOf (bB P w) a vs
 | .dT kvs=>kvs.length<=sizeLine/\(a == sysModules)=false/\∃xs:List (List Key×Addr×Value),
   Paired (fun (p:List Key×V) (q:List Key×Addr×Value)=>p.1=q.1/\H q.2.1=some (.tup (p.1.map kV))/\RelV p.2 q.2.2) kvs xs /\
   ∃o es ep,h.get? a=some o/\o.ExactDict/\o.data=.dict es ep/\es.toList=xs.map (entryOfKey (tupleKind (bB P w)))/\(xs.map (·.1)).Nodup
 | .set S n=>h.SetOf (intKind P w) a S n
 | .ins C dx fs=>H dx=some (.own a)/\fs.length<=1000/\dx≠a/\h.get? a=some (PySem.W.instObj C dx) /\
   ∃mA,h.Ns1 dx mA/\(∀f,b6 (fs.lookup f) (mA f))/\PySem.Within mA (fs.map (·.1))
 | .own _=>∃o,h.get? a=some o
 | .xd fs=>∃mA,h.Ns1 a mA/\∀f,b6 (fs.lookup f) (mA f)
 | .rng lo hi=>∃t u v,h.get? a=some { cls:=.type "range",data:=.fields #[.int lo t,.int hi u,.int 1 v] }
 | .frz o u=>h.get? a=some o/\aA H h a u
 | .tbl ps=>h.get? a=some { cls:=.none,data:=.fields ps }
 | .met f x=>h.get? a=some (PySem.W.methodObj (.ref f) (.ref x))
 | .ext φ=>φ h/\(∃o,h.get? a=some o)/\∀h1 h2:Heap,φ h1->(∀o,h1.get? a=some o->h2.get? a=some o)->φ h2
noncomputable def HOk (H:Hp) (h:Heap):Prop:=∀a o,H a=some o->aA P w H h a o
end
section
variable {P:Program}{w:World}{H H':Hp}{h h':Heap}{a:Addr}{o:HO}
theorem aA.lt (x:aA P w H h a o):a < h.objs.size:=by
 cases o with
 | lst xs=>obtain⟨_,_,_,_,e⟩:=x;exact Heap.lt_size e
 | tup xs=>obtain⟨_,_,_,p⟩:=x;exact p.lt
 | dK kvs=>obtain⟨_,_,_,_,o,_,_,e,_⟩:=x;exact Heap.lt_size e
 | dT kvs=>obtain⟨_,_,_,_,o,_,_,e,_⟩:=x;exact Heap.lt_size e
 | set S n=>obtain⟨o,_,_,_,e,_⟩:=x;exact Heap.lt_size e
 | ins C dx fs=>obtain⟨_,_,_,e,_⟩:=x;exact Heap.lt_size e
 | own y=>obtain⟨_,e⟩:=x;exact Heap.lt_size e
 | xd fs=>obtain⟨_,⟨_,_,_,e,_⟩,_⟩:=x;exact Heap.lt_size e
 | rng lo hi=>obtain⟨_,_,_,e⟩:=x;exact Heap.lt_size e
 | frz ob u=>obtain⟨e,_⟩:=x;exact Heap.lt_size e
 | tbl ps=>exact Heap.lt_size (show h.get? a=some _ from x)
 | met f y=>exact Heap.lt_size (show h.get? a=some _ from x)
 | ext φ=>obtain⟨_,⟨_,e⟩,_⟩:=x;exact Heap.lt_size e
theorem Paired.mapP {α β:Type}{F G:α->β->Prop}:∀{l₁:List α}{l₂:List β},Paired F l₁ l₂->(∀a b,F a b->G a b)->Paired G l₁ l₂
 | _,_,.nil,_=>.nil
 | _,_,.cons r t,f=>.cons (f _ _ r) (Paired.mapP t f)
theorem aA.stay (x:aA P w H h a o) (k:∀b u,(b=a\/H b=some (.own a))->h.get? b=some u->h'.get? b=some u)
  (ho:∀b,H b=some (.own a)->H' b=some (.own a)) (ht:∀b xs,H b=some (.tup xs)->H' b=some (.tup xs)):aA P w H' h' a o:=by
 induction o with
 | lst xs=>obtain⟨z,its,n,r,e⟩:=x;exact⟨z,its,n,r,k _ _ (.inl rfl) e⟩
 | tup xs=>obtain⟨z,its,r,ob,e,c⟩:=x;exact⟨z,its,r,ob,k _ _ (.inl rfl) e,c⟩
 | dK kvs=>obtain⟨z,y,vs,r,ob,es,ep,e,c⟩:=x;exact⟨z,y,vs,r,ob,es,ep,k _ _ (.inl rfl) e,c⟩
 | dT kvs =>
  obtain⟨z,y,xs,r,ob,es,ep,e,c⟩:=x
  exact⟨z,y,xs,Paired.mapP r fun p q z=>⟨z.1,ht _ _ z.2.1,z.2.2⟩,ob,es,ep,k _ _ (.inl rfl) e,c⟩
 | set S n=>obtain⟨ob,es,ep,t,e,c⟩:=x;exact⟨ob,es,ep,t,k _ _ (.inl rfl) e,c⟩
 | ins C dx fs =>
  obtain⟨d,z,ne,e,mA,⟨od,es,ep,e2,c⟩,r⟩:=x
  exact⟨ho _ d,z,ne,k _ _ (.inl rfl) e,mA,⟨od,es,ep,k _ _ (.inr d) e2,c⟩,r⟩
 | own y=>obtain⟨ob,e⟩:=x;exact⟨ob,k _ _ (.inl rfl) e⟩
 | xd fs=>obtain⟨mA,⟨od,es,ep,e,c⟩,r⟩:=x;exact⟨mA,⟨od,es,ep,k _ _ (.inl rfl) e,c⟩,r⟩
 | rng lo hi=>obtain⟨t,u,v,e⟩:=x;exact⟨t,u,v,k _ _ (.inl rfl) e⟩
 | frz ob u ih=>obtain⟨e,q⟩:=x;exact⟨k _ _ (.inl rfl) e,ih q⟩
 | tbl ps =>
  have e:h.get? a=some { cls:=.none,data:=.fields ps }:=x
  show h'.get? a=some { cls:=.none,data:=.fields ps }
  exact k a _ (.inl rfl) e
 | met f y =>
  have e:h.get? a=some (PySem.W.methodObj (.ref f) (.ref y)):=x
  show h'.get? a=some (PySem.W.methodObj (.ref f) (.ref y))
  exact k a _ (.inl rfl) e
 | ext φ=>obtain⟨p,⟨o,e⟩,st⟩:=x;exact⟨st _ _ p fun o q=>k _ _ (.inl rfl) q,⟨o,k _ _ (.inl rfl) e⟩,st⟩
theorem HOk.lt (x:HOk P w H h) (e:H a=some o):a < h.objs.size:=(x a o e).lt
theorem HOk.fresh (x:HOk P w H h) (e:h.objs.size<=a):H a=none:=by
 cases q:H a with
 | none=>rfl
 | some u=>exact absurd (Nat.lt_of_lt_of_le (x.lt q) e) (Nat.lt_irrefl _)
theorem HOk.kept (x:HOk P w H h) (k:∀b u,h.get? b=some u->h'.get? b=some u):HOk P w H h':=fun a o e =>
 (x a o e).stay (fun b u _ q=>k b u q) (fun _ q=>q) fun _ _ q=>q
theorem HOk.laid (x:HOk P w H h) (k:∀b u,h.get? b=some u->h'.get? b=some u) (hp:h.objs.size<=a) (new:aA P w (upd H a o) h' a o):HOk P w (upd H a o) h':=fun b u e=>by
 have hn:=x.fresh hp
 by_cases hb:b=a
 ·subst hb;rw [ah] at e;cases e;exact new
 ·rw [aj hb] at e
  exact (x b u e).stay (fun c v _ q=>k c v q) (fun c q=>by rw [aj (aI q hn)];exact q) fun c xs q=>by rw [aj (aI q hn)];exact q
end
noncomputable def Rd (H:Hp) (a:Addr) (u:HO):Prop:=H a=some u\/∃o,H a=some (.frz o u)
theorem Rd.ok {P:Program}{w:World}{H:Hp}{h:Heap}{a:Addr}{u:HO} (r:Rd H a u) (x:HOk P w H h):aA P w H h a u:=by
 rcases r with r | ⟨o,r⟩
 ·exact x a u r
 ·obtain⟨_,q⟩:=x a _ r
  exact q
noncomputable def Mut:Option HO->Prop
 | some (.lst _)=>True
 | some (.dK _)=>True
 | some (.dT _)=>True
 | some (.set _ _)=>True
 | some (.ins _ _ _)=>True
 | some (.ext _)=>True
 | _=>False
section
variable {P:Program}{w:World}{H:Hp}{h h':Heap}{x e:Addr}{o':HO}
theorem HOk.write (ok:HOk P w H h) (mu:Mut (H x)) (he:e=x\/H e=some (.own x)) (k:∀b u,b≠e->h.get? b=some u->h'.get? b=some u) (heo:∃u,h'.get? e=some u)
  (new:aA P w (upd H x o') h' x o'):HOk P w (upd H x o') h':=fun b u q=>by
 have nown:∀c y,H c=some (.own y)->c≠x:=fun c y r z=>by subst z;rw [r] at mu;exact mu
 have ntup:∀c xs,H c=some (.tup xs)->c≠x:=fun c xs r z=>by subst z;rw [r] at mu;exact mu
 by_cases hb:b=x
 ·subst hb;rw [ah] at q;cases q;exact new
 ·rw [aj hb] at q
  by_cases hbe:b=e
  ·have q':H b=some (.own x):=by
    rcases he with z | z
    ·exact absurd (hbe.trans z) hb
    ·rw [hbe];exact z
   rw [q] at q';cases q'
   obtain⟨v,hv⟩:=heo
   exact⟨v,by rw [hbe];exact hv⟩
  ·refine (ok b u q).stay (fun c v hc r=>k c v ?_ r) (fun c r=>by rw [aj (nown c b r)];exact r) fun c xs r=>by rw [aj (ntup c xs r)];exact r
   rcases hc with rfl | hc
   ·exact hbe
   ·rintro rfl
    rcases he with z | z
    ·exact nown c b hc z
    ·rw [hc] at z;cases z;exact hb rfl
end
structure Un (fs ex:List Addr) (H H':Hp) (h h':Heap):Prop where
 keep:∀b o,h.get? b=some o->H b=none->b∉fs->b∉ex->h'.get? b=some o
 slot:∀b o,h.get? b=some o->H b=none->b∈fs->b∉ex->∃sl,h'.get? b=some { o with slots:=sl }
 free:∀b o,h.get? b=some o->H b=none->b∉ex->H' b=none
 there:∀b o,h.get? b=some o->b∉ex->∃o',h'.get? b=some o'
 tups:∀b xs,H b=some (.tup xs)->H' b=some (.tup xs)
 frzs:∀b o u,H b=some (.frz o u)->H' b=some (.frz o u)
 tbls:∀b ps,H b=some (.tbl ps)->∃more,H' b=some (.tbl (ps++more))
section
variable {fs fs' ex ex':List Addr}{H H1 H2:Hp}{h h1 h2 h':Heap}{a x e:Addr}{o:HO}
theorem Un.any (u:Un fs ex H H1 h h1) {b:Addr}{ob:Obj} (q:h.get? b=some ob) (n:H b=none) (hx:b∉ex):∃sl,h1.get? b=some { ob with slots:=sl }:=by
 by_cases hb:b∈fs
 ·exact u.slot b ob q n hb hx
 ·exact⟨ob.slots,u.keep b ob q n hb hx⟩
theorem Un.kept (k:∀b u,h.get? b=some u->h'.get? b=some u):Un fs ex H H h h' :=
 ⟨fun b ob q _ _ _=>k b ob q,fun b ob q _ _ _=>⟨ob.slots,k b ob q⟩,fun _ _ _ n _=>n,fun b ob q _=>⟨ob,k b ob q⟩,fun _ _ q=>q,fun _ _ _ q=>q,fun _ ps q=>⟨#[],by rw [q];simp⟩⟩
theorem Un.refl:Un fs ex H H h h:=Un.kept fun _ _ q=>q
theorem Un.laid (k:∀b u,h.get? b=some u->h'.get? b=some u) (hp:h.objs.size<=a) (hn:H a=none):Un fs ex H (upd H a o) h h' where
 keep:=fun b u q _ _ _=>k b u q
 slot:=fun b u q _ _ _=>⟨u.slots,k b u q⟩
 free:=fun b u q n _=>by rw [aj (Nat.ne_of_lt (Nat.lt_of_lt_of_le (Heap.lt_size q) hp))];exact n
 there:=fun b u q _=>⟨u,k b u q⟩
 tups:=fun b xs q=>by rw [aj (aI q hn)];exact q
 frzs:=fun b u xs q=>by rw [aj (aI q hn)];exact q
 tbls:=fun b ps q=>⟨#[],by rw [aj (aI q hn),q];simp⟩
theorem Un.write (mu:Mut (H x)) (he:e=x\/H e=some (.own x)) (k:∀b u,b≠e->h.get? b=some u->h'.get? b=some u) (heo:∃u,h'.get? e=some u):Un fs ex H (upd H x o) h h':=by
 have hx:∀b,H b=none->b≠x:=fun b n z=>by subst z;rw [n] at mu;exact mu
 have hb:∀b,H b=none->b≠e:=fun b n z=>by
  subst z
  rcases he with r | r
  ·exact hx b n r
  ·rw [n] at r;cases r
 have hm:∀b u,H b=some u->¬ Mut (some u)->b≠x:=fun b u q nm z=>by subst z;rw [q] at mu;exact nm mu
 refine⟨fun b u q n _ _=>k b u (hb b n) q,fun b u q n _ _=>⟨u.slots,k b u (hb b n) q⟩,fun b u q n _=>by rw [aj (hx b n)];exact n,fun b u q _=>?_,
  fun b xs q=>by rw [aj (hm b _ q fun z=>z)];exact q,fun b u xs q=>by rw [aj (hm b _ q fun z=>z)];exact q,fun b ps q=>⟨#[],by rw [aj (hm b _ q fun z=>z),q];simp⟩⟩
 by_cases hbe:b=e
 ·subst hbe;exact heo
 ·exact⟨u,k b u hbe q⟩
end
noncomputable def trk (h:Heap) (H:Hp):List Addr:=(List.range h.objs.size).filter fun a=>(H a).isSome
noncomputable def cA (h:Heap) (H:Hp):Heap:=PySem.W.hideAll h (trk h H)
theorem oQ (h:Heap) (H:Hp):(cA h H).objs.size=h.objs.size:=PySem.W.hideAll_size _ _
theorem qw {h:Heap}{H:Hp}{b:Addr}{o:Obj} (e:h.get? b=some o) (n:H b=none):(cA h H).get? b=some o :=
 PySem.W.hideAll_get _ e fun hm=>by
  have q:(H b).isSome=true:=(List.mem_filter.mp hm).2
  rw [n] at q;simp at q
theorem qG {h:Heap}{H:Hp}{b:Addr}{o:Obj} (e:(cA h H).get? b=some o):h.get? b=some o/\H b=none:=by
 have e':h.get? b=some o:=PySem.W.of_hideAll (trk h H) e
 refine⟨e',?_⟩
 cases q:H b with
 | none=>rfl
 | some x =>
  have hm:b∈trk h H:=List.mem_filter.mpr ⟨List.mem_range.mpr (Heap.lt_size e'),by simp [q]⟩
  have z:(cA h H).get? b=none:=PySem.W.hideAll_none (trk h H) hm
  rw [z] at e;cases e
noncomputable def rL (g h:Heap) (L:Addr):List (Addr×Obj):=(List.range h.objs.size).filterMap fun a=>if a=L\/(g.get? a).isSome=true then none else (h.get? a).map fun o=>(a,o)
noncomputable def rest (g h:Heap) (L d:Addr):List (Addr×Obj):=(rL g h L).filter fun p=>decide (p.1≠d)
structure Mod (K:PySem.W.Frag) (mg:Str->Option Value) (base:Heap):Prop where
 kin:K.In base
 glob:base.Ns mainGlobals mg
 blt:∃mb,base.Ns builtinsNs mb/\∀x:Str,x≠"__name__"->mb x=bootBuiltins x
 nolimit:base.NoLimit
structure Cx where
 prog:Program
 w:World
 K:PySem.W.Frag
 mg:Str->Option Value
 base:Heap
 A:Around
 N:List Str
 s₀:Shared
 H₀:Hp
 env:Env
 outer:List Env
 stack:List Env
 ex:List Addr
 fn:Str->Bool
 calm:Bool
 pn:List (Addr×Obj)
 xe:Value->Shared->Prop
noncomputable def frs (l:List Env):List Addr:=l.filterMap (·.frame)
noncomputable abbrev Cx.fs (X:Cx):List Addr:=frs X.outer
noncomputable def Vis (sc:Scope) (x:Str):Prop:=sc.names.lookup x=some .local\/sc.names.lookup x=some .cell\/sc.names.lookup x=some .free
noncomputable def Loc (sc:Scope) (x:Str):Prop:=sc.names.lookup x=some .local\/sc.names.lookup x=some .cell
noncomputable def Look (env:Env) (h:Heap) (m:Str->Option Value) (x:Str) (u:Value):Prop :=
 (env.kindOf x=some .local/\m x=some u)\/((env.kindOf x=some .cell\/env.kindOf x=some .free)/\∃c,env.cells.lookup x=some c/\h.IsCell c (some u))
structure Cx.Ok (X:Cx):Prop where
 mod:Mod X.K X.mg X.base
 kind:X.env.scope.kind=.function
 glob:X.env.globals=mainGlobals
 blt:X.env.builtins=builtinsNs
 above:X.s₀.heap.objs.size<=X.env.locals
 inj:∀x y c,X.env.cells.lookup x=some c->X.env.cells.lookup y=some c->x=y
 has:∀x,(X.env.kindOf x=some .cell\/X.env.kindOf x=some .free)->∃c,X.env.cells.lookup x=some c
 cab:∀x c,X.fn x=true->X.env.cells.lookup x=some c->X.s₀.heap.objs.size<=c
 hd:X.calm=true->X.A.handled=none
 frames:X.A.frames=some X.stack
 stk:X.stack=X.outer\/(X.stack=X.env::X.outer/\X.env.frame=some X.env.locals)
 exf:∀b∈X.ex,b≠X.env.locals/\∀x c,X.env.cells.lookup x=some c->c≠b
 bs:∀b o,X.base.get? b=some o->X.s₀.heap.get? b=some o/\X.H₀ b=none
 bsz:X.base.objs.size<=X.s₀.heap.objs.size
 noex:∀b o,X.base.get? b=some o->b∉X.ex
 exfs:∀b∈X.ex,b∉X.fs
 funs:X.s₀.heap.FunFrames X.base X.outer
 frf:∀b∈X.fs,X.H₀ b=none
structure Inv (X:Cx) (pins:List (Addr×Obj)) (σ:List (Option V)) (H:Hp) (s:Shared):Prop where
 ok:X.Ok
 os:s.os=X.s₀.os
 bare:AllBare s.gens
 base:Un X.fs X.ex X.H₀ H X.s₀.heap s.heap
 loc:∃m,s.heap.Ns X.env.locals m/\∀(i:Nat) (x:Str) (v:V),X.N[i]?=some x->σ[i]?=some (some v)->Vis X.env.scope x->∃u,RelV v u/\Look X.env s.heap m x u
 cell:∀x c,X.env.cells.lookup x=some c->∃v,s.heap.IsCell c v
 free:H X.env.locals=none
 freeC:∀x c,X.env.cells.lookup x=some c->H c=none
 pin:∀p∈X.pn++pins,s.heap.get? p.1=some p.2/\H p.1=none/\p.1≠X.env.locals/\p.1∉X.fs/\∀v,p.2.data≠.cell v
 hok:HOk X.prog X.w H s.heap
 len:σ.length=X.N.length
section
variable {X:Cx}{pins:List (Addr×Obj)}{σ:List (Option V)}{H H':Hp}{s:Shared}{h':Heap}
theorem Cx.Ok.nofr (ok:X.Ok) {b:Addr}{o:Obj} (e:X.base.get? b=some o):b∉X.fs:=fun hb=>by
 have:=(ok.funs.mem hb).1
 rw [e] at this;cases this
theorem Inv.bs (I:Inv X pins σ H s):∀b o,X.base.get? b=some o->s.heap.get? b=some o/\H b=none:=fun b o e =>
 ⟨I.base.keep b o (I.ok.bs b o e).1 (I.ok.bs b o e).2 (I.ok.nofr e) (I.ok.noex b o e),I.base.free b o (I.ok.bs b o e).1 (I.ok.bs b o e).2 (I.ok.noex b o e)⟩
theorem Inv.bk (I:Inv X pins σ H s):∀b o,X.base.get? b=some o->s.heap.get? b=some o:=fun b o e=>(I.bs b o e).1
theorem Inv.mod (I:Inv X pins σ H s):Mod X.K X.mg X.base:=I.ok.mod
theorem Inv.kIn (I:Inv X pins σ H s):X.K.In s.heap:=I.ok.mod.kin.keeps I.bk
theorem Inv.lt (I:Inv X pins σ H s):X.env.locals < s.heap.objs.size:=let ⟨_,hn,_⟩:=I.loc;hn.lt
theorem Inv.sz (I:Inv X pins σ H s):X.s₀.heap.objs.size<=s.heap.objs.size:=Nat.le_trans I.ok.above (Nat.le_of_lt I.lt)
theorem Inv.nofs (I:Inv X pins σ H s) {a:Addr} (h:s.heap.objs.size<=a):a∉X.fs:=fun hb=>by
 obtain⟨_,o,ho,_⟩:=I.ok.funs.mem hb
 exact absurd (Nat.lt_of_lt_of_le (Heap.lt_size ho) (Nat.le_trans I.sz h)) (Nat.lt_irrefl _)
theorem Inv.cne (I:Inv X pins σ H s):∀x c,X.env.cells.lookup x=some c->c≠X.env.locals:=fun x c e z=>by
 obtain⟨v,o,ho,hd⟩:=I.cell x c e
 obtain⟨m,⟨o',es,ep,ho',hd',_⟩,_⟩:=I.loc
 rw [z,ho'] at ho;cases ho;rw [hd'] at hd;cases hd
theorem Inv.funs (I:Inv X pins σ H s):s.heap.FunFrames X.base X.outer:=by
 have all:∀(l:List Env),(∀b∈frs l,b∈X.fs)->X.s₀.heap.FunFrames X.base l->s.heap.FunFrames X.base l:=by
  intro l
  induction l with
  | nil=>intro _ _;trivial
  | cons env r ih =>
   intro hs hl
   obtain⟨hk,⟨L,o,hf,hn,ho,hd⟩,hr⟩:=hl
   have hL:L∈X.fs:=hs L (by unfold frs;rw [List.filterMap_cons,hf];exact List.mem_cons_self)
   obtain⟨sl,e⟩:=I.base.slot L o ho (I.ok.frf L hL) hL fun z=>I.ok.exfs L z hL
   exact⟨hk,⟨L,_,hf,hn,e,hd⟩,ih (fun b hb=>hs b (by unfold frs;rw [List.filterMap_cons,hf];exact List.mem_cons_of_mem _ hb)) hr⟩
 exact all X.outer (fun _ hb=>hb) I.ok.funs
theorem Inv.stack (I:Inv X pins σ H s):s.heap.FunFrames X.base X.stack:=by
 rcases I.ok.stk with e | ⟨e,hf⟩
 ·rw [e];exact I.funs
 ·rw [e]
  obtain⟨m,hn,_⟩:=I.loc
  refine .cons (by rw [I.ok.kind];decide) hf hn ?_ I.funs
  exact Heap.get?_none_of_le (Nat.le_trans I.ok.bsz I.ok.above)
theorem Inv.stkSub (I:Inv X pins σ H s):∀b∈frs X.stack,b∈X.env.locals::X.fs:=fun b hb=>by
 rcases I.ok.stk with e | ⟨e,hf⟩
 ·rw [e] at hb;exact List.mem_cons_of_mem _ hb
 ·rw [e] at hb
  unfold frs at hb
  rw [List.filterMap_cons,hf] at hb
  exact hb
theorem Inv.stkFree (I:Inv X pins σ H s):∀b∈frs X.stack,H b=none:=fun b hb=>by
 rcases List.mem_cons.mp (I.stkSub b hb) with e | hb
 ·rw [e];exact I.free
 ·obtain⟨_,o,ho,_⟩:=I.ok.funs.mem hb
  exact I.base.free b o ho (I.ok.frf b hb) fun z=>I.ok.exfs b z hb
theorem Inv.step {g':Array GenState}{t':Nat}{d':Drawn}{ch:List Addr} (I:Inv X pins σ H s)
  (hch:∀b∈ch,(b∈X.ex\/X.s₀.heap.objs.size<=b)/\b≠X.env.locals/\(∀x c,X.env.cells.lookup x=some c->c≠b)/\∀p∈X.pn++pins,p.1≠b)
  (keep:∀b o,b≠X.env.locals->b∉X.fs->b∉ch->s.heap.get? b=some o->H b=none->h'.get? b=some o)
  (slot:∀b o,b≠X.env.locals->b∈X.fs->b∉ch->s.heap.get? b=some o->H b=none->∃sl,h'.get? b=some { o with slots:=sl }) (free:∀b o,b∉ch->s.heap.get? b=some o->H b=none->H' b=none)
  (there:∀b o,b∉ch->s.heap.get? b=some o->∃o',h'.get? b=some o')
  (tups:∀b xs,H b=some (.tup xs)->H' b=some (.tup xs)) (frzs:∀b o u,H b=some (.frz o u)->H' b=some (.frz o u)) (tbls:∀b ps,H b=some (.tbl ps)->∃more,H' b=some (.tbl (ps++more)))
  (ns:∀m,s.heap.Ns X.env.locals m->h'.Ns X.env.locals m) (hok:HOk X.prog X.w H' h') (hg:AllBare g') :
  Inv X pins σ H' { s with heap:=h',gens:=g',drawn:=d',toks:=t' }:=by
 have neL:∀b o,X.s₀.heap.get? b=some o->b≠X.env.locals:=fun b o e=>Nat.ne_of_lt (Nat.lt_of_lt_of_le (Heap.lt_size e) I.ok.above)
 have neC:∀b o,X.s₀.heap.get? b=some o->b∉X.ex->b∉ch:=fun b o e hx hb=>by
  rcases (hch b hb).1 with z | z
  ·exact hx z
  ·exact absurd (Nat.lt_of_lt_of_le (Heap.lt_size e) z) (Nat.lt_irrefl _)
 have cellK:∀x c,X.env.cells.lookup x=some c->∀v,s.heap.IsCell c v->h'.IsCell c v:=fun x c e v ⟨o,ho,hd⟩=>by
  have nch:c∉ch:=fun z=>(hch c z).2.2.1 x c e rfl
  by_cases hc:c∈X.fs
  ·obtain⟨sl,q⟩:=slot c o (I.cne x c e) hc nch ho (I.freeC x c e)
   exact⟨_,q,hd⟩
  ·exact⟨o,keep c o (I.cne x c e) hc nch ho (I.freeC x c e),hd⟩
 refine⟨I.ok,I.os,hg,⟨fun b o e n hb hx=>?_,fun b o e n hb hx=>?_,fun b o e n hx=>?_,fun b o e hx=>?_,fun b xs e=>tups b xs (I.base.tups b xs e),fun b o xs e=>frzs b o xs (I.base.frzs b o xs e),fun b ps e=>?_⟩,?_,fun x c e=>?_,?_,fun x c e=>?_,fun p hp=>?_,hok,I.len⟩
 ·exact keep b o (neL b o e) hb (neC b o e hx) (I.base.keep b o e n hb hx) (I.base.free b o e n hx)
 ·obtain⟨sl,e1⟩:=I.base.slot b o e n hb hx
  obtain⟨sl',e2⟩:=slot b _ (neL b o e) hb (neC b o e hx) e1 (I.base.free b o e n hx)
  exact⟨sl',e2⟩
 ·obtain⟨o',e1⟩:=I.base.there b o e hx
  exact free b o' (neC b o e hx) e1 (I.base.free b o e n hx)
 ·obtain⟨o',e1⟩:=I.base.there b o e hx
  exact there b o' (neC b o e hx) e1
 ·obtain⟨m1,e1⟩:=I.base.tbls b ps e
  obtain⟨m2,e2⟩:=tbls b _ e1
  exact⟨m1++m2,by rw [e2,Array.append_assoc]⟩
 ·obtain⟨m,hn,hl⟩:=I.loc
  refine⟨m,ns m hn,fun i x v e1 e2 e3=>?_⟩
  obtain⟨u,r,l⟩:=hl i x v e1 e2 e3
  refine⟨u,r,?_⟩
  rcases l with l | ⟨k,c,e,z⟩
  ·exact .inl l
  ·exact .inr ⟨k,c,e,cellK x c e _ z⟩
 ·obtain⟨v,z⟩:=I.cell x c e
  exact⟨v,cellK x c e v z⟩
 ·obtain⟨m,⟨o,_,_,ho,_⟩,_⟩:=I.loc
  exact free _ o (fun z=>(hch _ z).2.1 rfl) ho I.free
 ·obtain⟨v,o,ho,hd⟩:=I.cell x c e
  exact free c o (fun z=>(hch c z).2.2.1 x c e rfl) ho (I.freeC x c e)
 ·obtain⟨e,n,ne,nf,d⟩:=I.pin p hp
  have nch:p.1∉ch:=fun z=>(hch p.1 z).2.2.2 p hp rfl
  exact⟨keep p.1 p.2 ne nf nch e n,free p.1 p.2 nch e n,ne,nf,d⟩
theorem Inv.un {t':Nat} (I:Inv X pins σ H s) (u:Un X.fs [] H H' s.heap h') (hok:HOk X.prog X.w H' h'):Inv X pins σ H' { s with heap:=h',toks:=t' }:=by
 obtain⟨m,⟨o,es,ep,ho,r⟩,_⟩:=id I.loc
 obtain⟨sl,hL⟩:=u.any ho I.free (by simp)
 exact I.step (g':=s.gens) (d':=s.drawn) (ch:=[]) (fun _ z=>nomatch z) (fun b o _ hb _ e n=>u.keep b o e n hb (by simp)) (fun b o _ hb _ e n=>u.slot b o e n hb (by simp)) (fun b o _ e n=>u.free b o e n (by simp)) (fun b o _ e=>u.there b o e (by simp)) u.tups u.frzs u.tbls (fun m' hm=>by
  obtain⟨o',es',ep',ho',r'⟩:=hm
  rw [ho] at ho';cases ho'
  exact⟨_,es',ep',hL,r'⟩) hok I.bare
theorem Inv.call {g':Array GenState}{t':Nat}{d':Drawn}{ch:List Addr} (I:Inv X pins σ H s) (u:Un (frs X.stack) ch H H' s.heap h') (hok:HOk X.prog X.w H' h') (hg:AllBare g')
  (hch:∀b∈ch,(b∈X.ex\/X.s₀.heap.objs.size<=b)/\b≠X.env.locals/\(∀x c,X.env.cells.lookup x=some c->c≠b)/\∀p∈X.pn++pins,p.1≠b) :
  Inv X pins σ H' { s with heap:=h',gens:=g',drawn:=d',toks:=t' }:=by
 obtain⟨m,⟨o,es,ep,ho,r⟩,_⟩:=id I.loc
 obtain⟨sl,hL⟩:=u.any ho I.free fun z=>(hch _ z).2.1 rfl
 exact I.step (ch:=ch) hch (fun b o hL hb hc e n=>u.keep b o e n (fun z=>(List.mem_cons.mp (I.stkSub b z)).elim hL hb) hc) (fun b o _ _ hc e n=>u.any e n hc) (fun b o hc e n=>u.free b o e n hc) (fun b o hc e=>u.there b o e hc) u.tups u.frzs u.tbls (fun m' hm=>by
  obtain⟨o',es',ep',ho',r'⟩:=hm
  rw [ho] at ho';cases ho'
  exact⟨_,es',ep',hL,r'⟩) hok hg
theorem Inv.turned {t':Nat}{it:Addr} (I:Inv X pins σ H s) (k:∀b o,b≠it->s.heap.get? b=some o->h'.get? b=some o) (hn:H it=none) (hL:it≠X.env.locals)
  (h1:it∈X.ex\/X.s₀.heap.objs.size<=it) (h2:∀x c,X.env.cells.lookup x=some c->c≠it) (h3:∀p∈X.pn++pins,p.1≠it):Inv X pins σ H { s with heap:=h',toks:=t' }:=by
 have nit:∀b u,H b=some u->b≠it:=fun b u e z=>by rw [z,hn] at e;cases e
 refine I.step (g':=s.gens) (d':=s.drawn) (ch:=[it]) (fun b hb=>?_) (fun b o _ _ hc e _=>k b o (fun z=>hc (by simp [z])) e) (fun b o _ _ hc e _=>⟨o.slots,k b o (fun z=>hc (by simp [z])) e⟩) (fun _ _ _ _ n=>n)
  (fun b o hc e=>⟨o,k b o (fun z=>hc (by simp [z])) e⟩) (fun _ _ e=>e) (fun _ _ _ e=>e) (fun b ps e=>⟨#[],by rw [e];simp⟩) (fun m hm=>?_) (fun b u e=>?_) I.bare
 ·have e:b=it:=by simpa using hb
  subst e
  exact⟨h1,hL,h2,h3⟩
 ·obtain⟨o,es,ep,ho,r⟩:=hm
  exact⟨o,es,ep,k _ o (Ne.symm hL) ho,r⟩
 ·refine (I.hok b u e).stay (fun c v hc q=>k c v ?_ q) (fun _ q=>q) fun _ _ q=>q
  rcases hc with z | z
  ·rw [z];exact nit b u e
  ·exact nit c _ z
theorem Inv.tok (I:Inv X pins σ H s) (t:Nat):Inv X pins σ H { s with toks:=t }:=I.un (h':=s.heap) (t':=t) Un.refl I.hok
theorem Inv.kept {t':Nat} (I:Inv X pins σ H s) (k:∀b u,s.heap.get? b=some u->h'.get? b=some u):Inv X pins σ H { s with heap:=h',toks:=t' }:=I.un (Un.kept k) (I.hok.kept k)
theorem Inv.laid {a:Addr}{o:HO}{t':Nat} (I:Inv X pins σ H s) (k:∀b u,s.heap.get? b=some u->h'.get? b=some u) (hp:s.heap.objs.size<=a) (new:aA X.prog X.w (upd H a o) h' a o) :
  Inv X pins σ (upd H a o) { s with heap:=h',toks:=t' }:=I.un (Un.laid k hp (I.hok.fresh hp)) (I.hok.laid k hp new)
theorem Inv.write {x e:Addr}{o:HO}{t':Nat} (I:Inv X pins σ H s) (mu:Mut (H x)) (he:e=x\/H e=some (.own x)) (k:∀b u,b≠e->s.heap.get? b=some u->h'.get? b=some u) (heo:∃u,h'.get? e=some u)
  (new:aA X.prog X.w (upd H x o) h' x o):Inv X pins σ (upd H x o) { s with heap:=h',toks:=t' }:=I.un (Un.write mu he k heo) (I.hok.write mu he k heo new)
theorem Inv.pins_of {pins':List (Addr×Obj)} (I:Inv X pins σ H s) (h:∀p∈pins',s.heap.get? p.1=some p.2/\H p.1=none/\p.1≠X.env.locals/\p.1∉X.fs/\∀v,p.2.data≠.cell v):Inv X pins' σ H s :=
 ⟨I.ok,I.os,I.bare,I.base,I.loc,I.cell,I.free,I.freeC,fun p hp=>(List.mem_append.mp hp).elim (fun z=>I.pin p (List.mem_append_left _ z)) (h p),I.hok,I.len⟩
theorem gF {N:List Str} (hN:N.Nodup) {i j:Nat}{x:Str} (a:N[i]?=some x) (b:N[j]?=some x):i=j:=by
 obtain⟨h1,e1⟩:=List.getElem?_eq_some_iff.mp a
 obtain⟨h2,e2⟩:=List.getElem?_eq_some_iff.mp b
 exact (List.getElem_inj hN).mp (e1.trans e2.symm)
theorem jH {M:Model}{A:Around}{E:Value->Shared->Prop}{i:Nat}{x:Str}{v:V}{u:Value}{Q:Unit->Shared->Prop} (I:Inv X pins σ H s) (hN:X.N.Nodup) (hi:X.N[i]?=some x) (hx:Loc X.env.scope x) (r:RelV v u)
  (h:∀s',Inv X pins (σ.set i (some v)) H s'->(∃a,Heap.SameBut a s.heap s'.heap/\(a=X.env.locals\/X.env.cells.lookup x=some a))->Q () s') (hf:X.fn x=true\/X.env.scope.names.lookup x=some .local:=by first | exact .inl rfl | exact .inr rfl | assumption):wpAny M A (storeName X.env x u) Q E s:=by
 obtain⟨m,hn,hl⟩:=id I.loc
 have hcls:(X.env.scope.kind == .class || (X.env.scope.kind == .module && X.env.locals != X.env.globals))=false:=by rw [I.ok.kind];rfl
 have hiσ:i < σ.length:=by rw [I.len];exact (List.getElem?_eq_some_iff.mp hi).1
 have cne:=I.cne
 have tracked:∀{a:Addr}{h':Heap},(∃o,s.heap.get? a=some o/\H a=none)->Heap.SameBut a s.heap h'->HOk X.prog X.w H h':=fun {a h'} ha hs b ob e=>by
  obtain⟨_,_,hfree⟩:=ha
  refine (I.hok b ob e).stay (fun c w' hc q=>(hs.2 c ?_).trans q) (fun _ q=>q) fun _ _ q=>q
  rintro rfl
  rcases hc with rfl | hc
  ·rw [hfree] at e;cases e
  ·rw [hfree] at hc;cases hc
 rcases hx with hk | hk
 ·refine wpAny_storeName_local hk hn (fun h' hn' hs=>?_) hcls
  obtain⟨oL,_,_,hoL,_⟩:=id hn
  refine h _ ⟨I.ok,I.os,I.bare,⟨fun b o e n hb hx=>?_,fun b o e n hb hx=>?_,I.base.free,fun b o e hx=>?_,I.base.tups,I.base.frzs,I.base.tbls⟩,⟨_,hn',fun j y v' e1 e2 e3=>?_⟩,fun y c e=>?_,I.free,I.freeC,fun p hp=>?_,tracked ⟨oL,hoL,I.free⟩ hs,by simpa using I.len⟩ ⟨_,hs,.inl rfl⟩
  ·exact (hs.2 b (Nat.ne_of_lt (Nat.lt_of_lt_of_le (Heap.lt_size e) I.ok.above))).trans (I.base.keep b o e n hb hx)
  ·obtain⟨sl,e1⟩:=I.base.slot b o e n hb hx
   exact⟨sl,(hs.2 b (Nat.ne_of_lt (Nat.lt_of_lt_of_le (Heap.lt_size e) I.ok.above))).trans e1⟩
  ·obtain⟨o',e1⟩:=I.base.there b o e hx
   exact⟨o',(hs.2 b (Nat.ne_of_lt (Nat.lt_of_lt_of_le (Heap.lt_size e) I.ok.above))).trans e1⟩
  ·by_cases hj:j=i
   ·subst hj
    rw [hi] at e1;cases e1
    rw [List.getElem?_set_self hiσ] at e2
    cases e2
    exact⟨u,r,.inl ⟨hk,by simp⟩⟩
   ·rw [List.getElem?_set_ne (Ne.symm hj)] at e2
    obtain⟨u',r',q⟩:=hl j y v' e1 e2 e3
    refine⟨u',r',?_⟩
    rcases q with ⟨k,e⟩ | ⟨k,c,e,z⟩
    ·refine .inl ⟨k,?_⟩
     have:y≠x:=fun e=>hj (gF hN e1 (e ▸ hi))
     simp [this,e]
    ·exact .inr ⟨k,c,e,z.sameBut hs (cne y c e)⟩
  ·obtain⟨w',z⟩:=I.cell y c e
   exact⟨w',z.sameBut hs (cne y c e)⟩
  ·obtain⟨e,n,ne,nf,d⟩:=I.pin p hp
   exact⟨(hs.2 p.1 ne).trans e,n,ne,nf,d⟩
 ·have hfn:X.fn x=true:=by
   rcases hf with z | z
   ·exact z
   ·rw [z] at hk;cases hk
  obtain⟨c,hc⟩:=I.ok.has x (.inl hk)
  obtain⟨w',z⟩:=I.cell x c hc
  refine wpAny_storeName_cell I.ok.kind hk hc z (fun h' hc' hs=>?_)
  obtain⟨oc,hoc,hocd⟩:=id z
  refine h { s with heap:=h' } ⟨I.ok,I.os,I.bare,⟨fun b o e n hb hx=>?_,fun b o e n hb hx=>?_,I.base.free,fun b o e hx=>?_,I.base.tups,I.base.frzs,I.base.tbls⟩,⟨m,hn.sameBut hs (Ne.symm (cne x c hc)),fun j y v' e1 e2 e3=>?_⟩,fun y c' e=>?_,I.free,I.freeC,fun p hp=>?_,tracked ⟨oc,hoc,I.freeC x c hc⟩ hs,by simpa using I.len⟩ ⟨c,hs,.inr hc⟩
  ·exact (hs.2 b (Nat.ne_of_lt (Nat.lt_of_lt_of_le (Heap.lt_size e) (I.ok.cab x c hfn hc)))).trans (I.base.keep b o e n hb hx)
  ·obtain⟨sl,e1⟩:=I.base.slot b o e n hb hx
   exact⟨sl,(hs.2 b (Nat.ne_of_lt (Nat.lt_of_lt_of_le (Heap.lt_size e) (I.ok.cab x c hfn hc)))).trans e1⟩
  ·obtain⟨o',e1⟩:=I.base.there b o e hx
   exact⟨o',(hs.2 b (Nat.ne_of_lt (Nat.lt_of_lt_of_le (Heap.lt_size e) (I.ok.cab x c hfn hc)))).trans e1⟩
  ·by_cases hj:j=i
   ·subst hj
    rw [hi] at e1;cases e1
    rw [List.getElem?_set_self hiσ] at e2
    cases e2
    exact⟨u,r,.inr ⟨.inl hk,c,hc,hc'⟩⟩
   ·rw [List.getElem?_set_ne (Ne.symm hj)] at e2
    obtain⟨u',r',q⟩:=hl j y v' e1 e2 e3
    refine⟨u',r',?_⟩
    rcases q with q | ⟨k,c',e,z'⟩
    ·exact .inl q
    ·refine .inr ⟨k,c',e,z'.sameBut hs ?_⟩
     rintro rfl
     exact hj (gF hN e1 (I.ok.inj _ _ _ e hc ▸ hi))
  ·by_cases hcc:c'=c
   ·subst hcc;exact⟨_,hc'⟩
   ·obtain⟨w2,z2⟩:=I.cell y c' e
    exact⟨w2,z2.sameBut hs hcc⟩
  ·obtain⟨e,n,ne,nf,d⟩:=I.pin p hp
   refine⟨(hs.2 p.1 ?_).trans e,n,ne,nf,d⟩
   intro q
   rw [q,hoc] at e
   have q':oc=p.2:=Option.some.inj e
   exact d w' (by rw [<- q'];exact hocd)
theorem du {M:Model}{A:Around}{E:Value->Shared->Prop}{i:Nat}{x:Str}{v:V}{u:Value}{Q:Unit->Shared->Prop} (I:Inv X pins σ H s) (hN:X.N.Nodup) (hi:X.N[i]?=some x) (hx:Loc X.env.scope x) (r:RelV v u)
  (h:∀s',Inv X pins (σ.set i (some v)) H s'->Q () s') (hf:X.fn x=true\/X.env.scope.names.lookup x=some .local:=by first | exact .inl rfl | exact .inr rfl | assumption):wpAny M A (storeName X.env x u) Q E s :=
 jH I hN hi hx r (fun s' I' _=>h s' I') hf
theorem Inv.call' {s':Shared}{ch:List Addr} (I:Inv X pins σ H s) (ho:s'.os=s.os) (u:Un (frs X.stack) ch H H' s.heap s'.heap) (hok:HOk X.prog X.w H' s'.heap) (hg:AllBare s'.gens)
  (hch:∀b∈ch,(b∈X.ex\/X.s₀.heap.objs.size<=b)/\b≠X.env.locals/\(∀x c,X.env.cells.lookup x=some c->c≠b)/\∀p∈X.pn++pins,p.1≠b):Inv X pins σ H' s':=by
 obtain⟨h',g',d',t',o'⟩:=s'
 have e:o'=s.os:=ho
 subst e
 exact I.call (g':=g') (t':=t') (d':=d') u hok hg hch
end
noncomputable abbrev XK:=Value->Option Addr->Hp->Prop
noncomputable abbrev St:=List (Option V)
noncomputable abbrev VK:=V->Hp->Prop
noncomputable abbrev TE:=St->Hp->VK->Prop
noncomputable abbrev TT:=St->Hp->(Bool->Hp->Prop)->Prop
noncomputable abbrev TA:=St->Hp->(List V->Hp->Prop)->Prop
structure Ends where
 nx:St->Hp->Prop
 rt:VK
 bk:St->Hp->Prop:=fun _ _=>False
 ct:St->Hp->Prop:=fun _ _=>False
noncomputable abbrev TS:=Ends->St->Hp->Prop
noncomputable def EP (X:Cx) (pins:List (Addr×Obj)) (σ:St) (Q:VK) (u:Value) (s':Shared):Prop:=∃v H',Inv X pins σ H' s'/\RelV v u/\Q v H'
noncomputable def TP (X:Cx) (pins:List (Addr×Obj)) (σ:St) (Q:Bool->Hp->Prop) (b:Bool) (s':Shared):Prop:=∃H',Inv X pins σ H' s'/\Q b H'
noncomputable def AP (X:Cx) (pins:List (Addr×Obj)) (σ:St) (Q:List V->Hp->Prop) (us:List Value) (s':Shared):Prop:=∃vs H',Inv X pins σ H' s'/\ak vs us/\Q vs H'
noncomputable def SP (X:Cx) (pins:List (Addr×Obj)) (D:Ends) (f:Flow) (s':Shared):Prop :=
 match f with
 | .next=>∃σ' H',Inv X pins σ' H' s'/\D.nx σ' H'
 | .brk=>∃σ' H',Inv X pins σ' H' s'/\D.bk σ' H'
 | .cont=>∃σ' H',Inv X pins σ' H' s'/\D.ct σ' H'
 | .ret u=>∃v σ' H',Inv X pins σ' H' s'/\RelV v u/\D.rt v H'
noncomputable def PE (X:Cx) (e:Expr) (t:TE):Prop :=
 ∀(pins:List (Addr×Obj)) (s:Shared) (σ:St) (H:Hp) (Q:VK),Inv X pins σ H s->t σ H Q->wpAny (model X.prog X.w) X.A (eval e X.env) (EP X pins σ Q) X.xe s
noncomputable def PT (X:Cx) (e:Expr) (t:TT):Prop :=
 ∀(pins:List (Addr×Obj)) (s:Shared) (σ:St) (H:Hp) (Q:Bool->Hp->Prop),Inv X pins σ H s->t σ H Q->wpAny (model X.prog X.w) X.A (isTrue e X.env (eval e X.env)) (TP X pins σ Q) X.xe s
noncomputable def PW (X:Cx) (e:Expr) (t:TT):Prop :=
 ∀(whole:Sem Value) (pins:List (Addr×Obj)) (s:Shared) (σ:St) (H:Hp) (Q:Bool->Hp->Prop),Inv X pins σ H s->t σ H Q->wpAny (model X.prog X.w) X.A (isTrue e X.env whole) (TP X pins σ Q) X.xe s
theorem PW.pt {X:Cx}{e:Expr}{t:TT} (h:PW X e t):PT X e t:=h _
noncomputable def PA (X:Cx) (es:List Expr) (t:TA):Prop :=
 ∀(pos:Pos) (pins:List (Addr×Obj)) (s:Shared) (σ:St) (H:Hp) (Q:List V->Hp->Prop),Inv X pins σ H s->t σ H Q->wpAny (model X.prog X.w) X.A (spliced (backTo pos (starEach es X.env))) (AP X pins σ Q) X.xe s
noncomputable def PS (X:Cx) (st:Stmt) (t:TS):Prop :=
 ∀(pins:List (Addr×Obj)) (s:Shared) (σ:St) (H:Hp) (D:Ends),Inv X pins σ H s->t D σ H->wpAny (model X.prog X.w) X.A (exec st X.env) (SP X pins D) X.xe s
noncomputable def PSs (X:Cx) (st:List Stmt) (t:TS):Prop :=
 ∀(pins:List (Addr×Obj)) (s:Shared) (σ:St) (H:Hp) (D:Ends),Inv X pins σ H s->t D σ H->wpAny (model X.prog X.w) X.A (execs st X.env) (SP X pins D) X.xe s
theorem thn {α:Type}{t:Sem α}{Q Q':α->Shared->Prop}{M:Model}{A:Around}{E:Value->Shared->Prop}{s:Shared} (h:wpAny M A t Q E s) (hQ:∀a s,Q a s->Q' a s):wpAny M A t Q' E s:=wpAny_mono h hQ fun _ _ x=>x
section
variable {X:Cx}
noncomputable def mU (i:Nat):TE:=fun σ H Q=>∃v,σ[i]?=some (some v)/\Q v H
noncomputable def tC (v:V):TE:=fun _ H Q=>Q v H
theorem tw {i:Nat}{x:Str}{pos:Pos} (hN:X.N[i]?=some x) (hv:Vis X.env.scope x) (hd:(x == ("__debug__":Str))=false:=by decide) (hcd:(x == ("__classdict__":Str))=false:=by decide):PE X (.Name x pos) (mU i):=by
 intro pins s σ H Q I h
 obtain⟨v,e,h⟩:=h
 obtain⟨m,hn,hl⟩:=I.loc
 obtain⟨u,r,l⟩:=hl i x v hN e hv
 have fin:EP X pins σ Q u s:=⟨v,H,I,r,h⟩
 rcases l with ⟨hk,hm⟩ | ⟨hk,c,hc,hcell⟩
 ·exact wpAny_Name (wpAny_loadName_local I.ok.kind hk hn hm fin) hd
 ·rcases hk with hk | hk
  ·exact wpAny_Name (wpAny_loadName_cell I.ok.kind hk hc hcell fin) hd
  ·exact wpAny_Name (wpAny_loadName_free I.ok.kind hk hc hcell fin hcd) hd
theorem ai {i j pos}:PE X (.Constant (.int i) j pos) (tC (.int i)):=fun _ _ _ H _ I h=>wpAny_Constant_int ⟨.int i,H,I.tok _,⟨_,rfl⟩,h⟩
theorem df {b j pos}:PE X (.Constant (.bool b) j pos) (tC (.bl b)):=fun _ _ _ H _ I h=>Constant_bool ⟨.bl b,H,I,rfl,h⟩
theorem tM {j pos}:PE X (.Constant .none j pos) (tC .non):=fun _ _ _ H _ I h=>Constant_none ⟨.non,H,I,rfl,h⟩
theorem bb {x j pos}:PE X (.Constant (.str x) j pos) (tC (.str x)):=fun _ _ _ H _ I h=>Calls.Constant_str ⟨.str x,H,I.tok _,⟨_,rfl⟩,h⟩
noncomputable def Gl (X:Cx) (x:Str):Prop:=X.env.kindOf x=some .globalImplicit
theorem eJ {E:Value->Shared->Prop}{pins:List (Addr×Obj)}{s:Shared}{σ:St}{H:Hp}{x:Str}{u:Value}{pos:Pos}{Q:Value->Shared->Prop} (I:Inv X pins σ H s) (hg:Gl X x) (hm:X.mg x=some u) (h:Q u s)
  (hd:(x == ("__debug__":Str))=false:=by decide):wpAny (model X.prog X.w) X.A (eval (.Name x pos) X.env) Q E s :=
 Calls.Name_function_global I.ok.kind hg (Calls.loadGlobal_global (by rw [I.ok.glob];exact I.mod.glob.keeps I.bk) hm h) hd
theorem cI {E:Value->Shared->Prop}{pins:List (Addr×Obj)}{s:Shared}{σ:St}{H:Hp}{x:Str}{u:Value}{pos:Pos}{Q:Value->Shared->Prop} (I:Inv X pins σ H s) (hg:Gl X x) (hm:X.mg x=none) (hv:bootBuiltins x=some u) (h:Q u s)
  (hn:x≠"__name__":=by decide) (hd:(x == ("__debug__":Str))=false:=by decide):wpAny (model X.prog X.w) X.A (eval (.Name x pos) X.env) Q E s:=by
 obtain⟨mb,h1,h2⟩:=I.mod.blt
 exact Calls.Name_function_global I.ok.kind hg (Calls.loadGlobal_builtin (by rw [I.ok.glob];exact I.mod.glob.keeps I.bk) hm (by rw [I.ok.blt];exact h1.keeps I.bk) ((h2 x hn).trans hv) h) hd
theorem fJ {x:Str}{v:V}{u:Value}{pos:Pos} (hg:Gl X x) (hm:X.mg x=some u) (r:RelV v u) (hd:(x == ("__debug__":Str))=false:=by decide):PE X (.Name x pos) (tC v) :=
 fun _ _ _ H _ I h=>eJ I hg hm ⟨v,H,I,r,h⟩ hd
theorem cY {x:Str}{v:V}{u:Value}{pos:Pos} (hg:Gl X x) (hm:X.mg x=none) (hv:bootBuiltins x=some u) (r:RelV v u) (hn:x≠"__name__":=by decide) (hd:(x == ("__debug__":Str))=false:=by decide):PE X (.Name x pos) (tC v) :=
 fun _ _ _ H _ I h=>cI I hg hm hv ⟨v,H,I,r,h⟩ hn hd
variable {a b:Expr}{ta tb:TE}{pos:Pos}
noncomputable def PC (X:Cx) (op:CmpOp) (a b:Expr) (t:TE):Prop :=
 ∀(pins:List (Addr×Obj)) (s:Shared) (σ:St) (H:Hp) (Q:VK),Inv X pins σ H s->t σ H Q ->
  wpAny (model X.prog X.w) X.A (eval a X.env) (fun v s₁=>wpAny (model X.prog X.w) X.A (eval b X.env) (fun u s₂=>wpAny (model X.prog X.w) X.A (compareOp op v u) (EP X pins σ Q) X.xe s₂) X.xe s₁) X.xe s
noncomputable def tB (t:TE):TT:=fun σ H Q=>t σ H fun x H1=>∃c,x=.bl c/\Q c H1
theorem sS {op:CmpOp}{t:TE} (h:PC X op a b t) (h1:behindInMarks op b=false:=by first | exact nobehind _ (by decide) (by decide) | rfl):PT X (.Compare a [op] [b] pos) (tB t):=by
 intro pins s σ H Q I hw
 refine wpAny_isTrue_Compare1 (thn (h pins s σ H _ I hw) fun v s1 h1=>thn h1 fun u s2 h2=>thn h2 fun c s3 ⟨x,H1,I1,r1,q1⟩=>?_) h1
 obtain⟨d,rfl,q⟩:=q1
 cases r1
 exact wpAny_truthy_bool ⟨H1,I1,q⟩
theorem bV {e:Expr}{t:TE} (h:PE X e t) (he:∀whole,isTrue e X.env whole=(do let v <- whole;standAt e.pos;holding [v] (truthy v)):=by intro _;rfl):PT X e (tB t):=by
 intro pins s σ H Q I hw
 refine isTrue_plain (thn (h pins s σ H _ I hw) fun v s1 ⟨x,H1,I1,r1,q1⟩=>?_) (he _)
 obtain⟨d,rfl,q⟩:=q1
 cases r1
 exact wpAny_truthy_bool ⟨H1,I1,q⟩
variable {tA tB':TT}{rest:List Expr}
noncomputable def tOr (t u:TT):TT:=fun σ H Q=>t σ H fun c H1=>if c=true then Q true H1 else u σ H1 Q
noncomputable def v6 (t:TT):TT:=fun σ H Q=>t σ H fun c H1=>Q (!c) H1
theorem dM (ha:PT X a tA):PW X (.BoolOp .Or [a] pos) tA:=by
 intro wh pins s σ H Q I h
 refine isTrue_or (thn (ha pins s σ H Q I h) fun c s1 e=>?_)
 cases c with
 | false=>exact isTrue_or_nil e
 | true=>exact e
theorem dg (ha:PT X a tA) (hb:PW X (.BoolOp .Or (b::rest) pos) tB'):PW X (.BoolOp .Or (a::b::rest) pos) (tOr tA tB'):=by
 intro wh pins s σ H Q I h
 refine isTrue_or (thn (ha pins s σ H _ I h) fun c s1 ⟨H1,I1,q1⟩=>?_)
 cases c with
 | true=>exact⟨H1,I1,q1⟩
 | false=>exact hb wh pins s1 σ H1 Q I1 q1
theorem bZ (ha:PT X a tA):PT X (.UnaryOp .Not a pos) (v6 tA):=by
 intro pins s σ H Q I h
 exact isTrue_not (ha pins s σ H (fun c H1=>Q (!c) H1) I h)
noncomputable def vz (ta tb:TE):TE:=fun σ H Q=>ta σ H fun x H1=>∃c,x=.bl c/\if c=true then tb σ H1 Q else Q (.bl false) H1
theorem fX {op}{t:TE} (h:PE X a t):PE X (.BoolOp op [a] pos) t:=fun pins s σ H Q I hw=>BoolOp_one (h pins s σ H Q I hw)
theorem dJ (ha:PE X a ta) (hb:PE X (.BoolOp .And (b::rest) pos) tb):PE X (.BoolOp .And (a::b::rest) pos) (vz ta tb):=by
 intro pins s σ H Q I h
 refine BoolOp_and (thn (ha pins s σ H _ I h) fun v s1 ⟨x,H1,I1,r1,q1⟩=>?_)
 obtain⟨c,rfl,q1⟩:=q1
 cases r1
 refine wpAny_truthy_bool ?_
 cases c with
 | true=>exact hb pins s1 σ H1 Q I1 q1
 | false=>exact⟨.bl false,H1,I1,rfl,q1⟩
noncomputable def tIf (t:TT) (ta tb:TE):TE:=fun σ H Q=>t σ H fun c H1=>if c=true then ta σ H1 Q else tb σ H1 Q
theorem qh {c:Expr} (hc:PT X c tA) (ha:PE X a ta) (hb:PE X b tb):PE X (.IfExp c a b pos) (tIf tA ta tb):=by
 intro pins s σ H Q I h
 refine wpAny_IfExp (thn (hc pins s σ H _ I h) fun d s1 ⟨H1,I1,q1⟩=>?_)
 cases d with
 | true=>exact ha pins s1 σ H1 Q I1 q1
 | false=>exact hb pins s1 σ H1 Q I1 q1
end
noncomputable def SqL (K:PySem.W.Frag) (H:Hp) (a:Addr) (xs:List V):Prop :=
 Rd H a (.lst xs) \/
  ∃(o:Obj) (its:Array Value) (n:Nat),K.lookup a=some o/\o.cls=.type "list"/\o.dict=none/\o.data=.seq its n/\its.size<=sizeLine/\ak xs its.toList
noncomputable def SqT (K:PySem.W.Frag) (H:Hp) (a:Addr) (xs:List V):Prop :=
 Rd H a (.tup xs) \/
  ∃(o:Obj) (its:Array Value) (n:Nat),K.lookup a=some o/\o.cls=.type "tuple"/\o.data=.seq its n/\its.size<=sizeLine/\ak xs its.toList
noncomputable def v5:Value->Option V
 | .none=>some .non
 | .bool b=>some (.bl b)
 | .int i _=>some (.int i)
 | .str x _=>some (.str x)
 | .bytes b _=>some (.byt b)
 | .float b _=>some (.flt b)
 | .ref a=>some (.ref a)
 | .type n=>some (.ty n)
 | _=>none
theorem RelV.abs {x:V}{u:Value} (r:RelV x u):v5 u=some x:=by
 cases x with
 | non=>cases r;rfl
 | bl _=>cases r;rfl
 | int _=>obtain⟨t,rfl⟩:=r;rfl
 | str _=>obtain⟨t,rfl⟩:=r;rfl
 | byt _=>obtain⟨t,rfl⟩:=r;rfl
 | flt _=>obtain⟨t,rfl⟩:=r;rfl
 | ref _=>cases r;rfl
 | ty _=>cases r;rfl
theorem RelV.inj {x y:V}{u:Value} (r:RelV x u) (q:RelV y u):x=y:=Option.some.inj (r.abs.symm.trans q.abs)
theorem ak.inj:∀{xs ys:List V}{us:List Value},ak xs us->ak ys us->xs=ys
 | _,_,_,.nil,.nil=>rfl
 | _,_,_,.cons r t,.cons r' t'=>by rw [r.inj r',ak.inj t t']
section
variable {X:Cx}{pins:List (Addr×Obj)}{σ:St}{H:Hp}{s:Shared}{a:Addr}{xs ys:List V}
theorem SqL.of {K:PySem.W.Frag} (h:H a=some (.lst xs)):SqL K H a xs:=.inl (.inl h)
theorem SqT.of {K:PySem.W.Frag} (h:H a=some (.tup xs)):SqT K H a xs:=.inl (.inl h)
theorem Inv.list (I:Inv X pins σ H s) (h:SqL X.K H a xs):∃its:List Value,ak xs its/\PlainL s.heap a its.toArray/\xs.length<=sizeLine:=by
 rcases h with h | ⟨o,its,n,hk,hc,hd,hs,hz,r⟩
 ·obtain⟨z,its,n,r,e⟩:=h.ok I.hok
  exact⟨its,r,⟨_,n,e,rfl,rfl,rfl⟩,z⟩
 ·refine⟨its.toList,r,⟨o,n,I.kIn a o hk,hc,hd,by simpa using hs⟩,?_⟩
  have e:=r.length
  simp only [Array.length_toList] at e
  omega
theorem Inv.tuple (I:Inv X pins σ H s) (h:SqT X.K H a xs):∃its:List Value,ak xs its/\IsTup s.heap a its.toArray/\xs.length<=sizeLine:=by
 rcases h with h | ⟨o,its,n,hk,hc,hs,hz,r⟩
 ·obtain⟨z,its,r,p⟩:=h.ok I.hok
  exact⟨its,r,p,z⟩
 ·refine⟨its.toList,r,⟨o,I.kIn a o hk,hc,n,by simpa using hs⟩,?_⟩
  have e:=r.length
  simp only [Array.length_toList] at e
  omega
theorem Inv.list_inj (I:Inv X pins σ H s) (h:SqL X.K H a xs) (h':SqL X.K H a ys):xs=ys:=by
 obtain⟨its,r,⟨o,n,e,_,_,d⟩,_⟩:=I.list h
 obtain⟨its',r',⟨o',n',e',_,_,d'⟩,_⟩:=I.list h'
 rw [e] at e';cases e'
 rw [d] at d'
 injection d' with d1 _
 have:its=its':=by simpa using congrArg Array.toList d1
 subst this
 exact r.inj r'
theorem Inv.tuple_inj (I:Inv X pins σ H s) (h:SqT X.K H a xs) (h':SqT X.K H a ys):xs=ys:=by
 obtain⟨its,r,⟨o,e,_,n,d⟩,_⟩:=I.tuple h
 obtain⟨its',r',⟨o',e',_,n',d'⟩,_⟩:=I.tuple h'
 rw [e] at e';cases e'
 rw [d] at d'
 injection d' with d1 _
 have:its=its':=by simpa using congrArg Array.toList d1
 subst this
 exact r.inj r'
end
noncomputable abbrev Cx.wish (X:Cx) (E:Value->Shared->Prop):Cx:={ X with xe:=E }
noncomputable abbrev Cx.nox (X:Cx):Cx:=X.wish fun _ _=>False
theorem Cx.Ok.wish {X:Cx} (ok:X.Ok) (E:Value->Shared->Prop):(X.wish E).Ok :=
 ⟨ok.mod,ok.kind,ok.glob,ok.blt,ok.above,ok.inj,ok.has,ok.cab,ok.hd,ok.frames,ok.stk,ok.exf,ok.bs,ok.bsz,ok.noex,ok.exfs,ok.funs,ok.frf⟩
theorem Cx.Ok.unwish {X:Cx}{E:Value->Shared->Prop} (ok:(X.wish E).Ok):X.Ok :=
 ⟨ok.mod,ok.kind,ok.glob,ok.blt,ok.above,ok.inj,ok.has,ok.cab,ok.hd,ok.frames,ok.stk,ok.exf,ok.bs,ok.bsz,ok.noex,ok.exfs,ok.funs,ok.frf⟩
section
variable {X:Cx}{pins:List (Addr×Obj)}{σ:St}{H:Hp}{s:Shared}{E:Value->Shared->Prop}
theorem Inv.wish (I:Inv X pins σ H s) (E:Value->Shared->Prop):Inv (X.wish E) pins σ H s:=⟨I.ok.wish E,I.os,I.bare,I.base,I.loc,I.cell,I.free,I.freeC,I.pin,I.hok,I.len⟩
theorem Inv.unwish (I:Inv (X.wish E) pins σ H s):Inv X pins σ H s:=⟨I.ok.unwish,I.os,I.bare,I.base,I.loc,I.cell,I.free,I.freeC,I.pin,I.hok,I.len⟩
theorem SP.unwish {D:Ends}{f:Flow}{s':Shared} (h:SP (X.wish E) pins D f s'):SP X pins D f s':=by
 cases f with
 | next=>obtain⟨σ',H',I,q⟩:=h;exact⟨σ',H',I.unwish,q⟩
 | brk=>obtain⟨σ',H',I,q⟩:=h;exact⟨σ',H',I.unwish,q⟩
 | cont=>obtain⟨σ',H',I,q⟩:=h;exact⟨σ',H',I.unwish,q⟩
 | ret u=>obtain⟨v,σ',H',I,r,q⟩:=h;exact⟨v,σ',H',I.unwish,r,q⟩
theorem PSs.nox {st:List Stmt}{t:TS} (h:PSs X.nox st t):PSs X st t:=fun pins s σ H D I hw =>
 wpAny_mono (h pins s σ H D (I.wish _) hw) (fun _ _ q=>q.unwish) fun _ _ z=>False.elim z
end
section
variable {X:Cx}{st:Stmt}{rest:List Stmt}{t u:TS}{e:Expr}{te:TE}{pos:Pos}
noncomputable def mf:TS:=fun D σ H=>D.nx σ H
noncomputable def iN (t u:TS):TS:=fun D σ H=>t { D with nx:=u D } σ H
theorem a9:PSs X [] mf:=fun _ _ σ H _ I h=>wpAny_execs_nil ⟨σ,H,I,h⟩
theorem ao (h1:PS X st t) (h2:PSs X rest u):PSs X (st::rest) (iN t u):=by
 intro pins s σ H D I h
 refine wpAny_execs_cons (thn (h1 pins s σ H { D with nx:=u D } I h) fun f s1 q=>?_)
 cases f with
 | next =>
  obtain⟨σ',H',I',q⟩:=q
  exact h2 pins s1 σ' H' D I' q
 | ret v=>exact q
 | brk=>exact q
 | cont=>exact q
theorem ar (h1:PS X st t):PSs X [st] t:=by
 intro pins s σ H D I h
 refine wpAny_execs_cons (thn (h1 pins s σ H D I h) fun f s1 q=>?_)
 cases f with
 | next=>exact wpAny_execs_nil q
 | ret v=>exact q
 | brk=>exact q
 | cont=>exact q
theorem Inv.quiet {pins:List (Addr×Obj)}{σ:St}{H:Hp}{s:Shared} (I:Inv X pins σ H s):interactive X.env=false:=by simp [interactive,I.ok.kind]
noncomputable def uZ (te:TE):TS:=fun D σ H=>te σ H fun _ H1=>D.nx σ H1
theorem cw (he:PE X e te) (hs:swapsWith e none pos.line X.env=pure false:=by rfl):PS X (.Expr e pos) (uZ te):=by
 intro pins s σ H D I h
 exact wpAny_Expr_any (thn (he pins s σ H _ I h) fun v s1 ⟨x,H1,I1,r1,q1⟩=>⟨σ,H1,I1,q1⟩) I.quiet hs
noncomputable def vL (te:TE):TS:=fun D σ H=>te σ H D.rt
theorem aO (he:PE X e te):PS X (.Return (some e) pos) (vL te):=by
 intro pins s σ H D I h
 exact wpAny_Return_some (thn (he pins s σ H _ I h) fun v s1 ⟨x,H1,I1,r1,q1⟩=>⟨x,σ,H1,I1,r1,q1⟩)
noncomputable def iW (c:TT) (t u:TS):TS:=fun D σ H=>c σ H fun b H1=>if b=true then t D σ H1 else u D σ H1
theorem aY {c:Expr}{a b:List Stmt}{tc:TT} (hc:PT X c tc) (ha:PSs X a t) (hb:PSs X b u):PS X (.If c a b pos) (iW tc t u):=by
 intro pins s σ H D I h
 refine wpAny_If (thn (hc pins s σ H _ I h) fun d s1 ⟨H1,I1,q1⟩=>?_)
 cases d with
 | true=>exact ha pins s1 σ H1 D I1 q1
 | false=>exact hb pins s1 σ H1 D I1 q1
noncomputable def uo:TS:=fun _ _ _=>False
theorem cV {sts:List Stmt}:PSs X sts uo:=fun _ _ _ _ _ _ h=>h.elim
end
noncomputable abbrev TG:=V->St->Hp->(St->Hp->Prop)->Prop
noncomputable abbrev TGs:=List V->St->Hp->(St->Hp->Prop)->Prop
noncomputable def PG (X:Cx) (target:Expr) (t:TG):Prop :=
 ∀(pins:List (Addr×Obj)) (s:Shared) (σ:St) (H:Hp) (v:V) (u:Value) (Q:St->Hp->Prop),Inv X pins σ H s->RelV v u->t v σ H Q ->
  wpAny (model X.prog X.w) X.A (assign target X.env u) (fun _ s'=>∃σ' H',Inv X pins σ' H' s'/\Q σ' H') X.xe s
noncomputable def PGs (X:Cx) (ts:List Expr) (t:TGs):Prop :=
 ∀(pins:List (Addr×Obj)) (s:Shared) (σ:St) (H:Hp) (vs:List V) (us:List Value) (Q:St->Hp->Prop),Inv X pins σ H s->ak vs us->t vs σ H Q ->
  wpAny (model X.prog X.w) X.A (assignInOrder ((assignEach ts X.env).map (·.2)) us) (fun _ s'=>∃σ' H',Inv X pins σ' H' s'/\Q σ' H') X.xe s
noncomputable abbrev eW:=V->V->V->Hp->(Hp->Prop)->Prop
noncomputable def i5 (X:Cx) (t:eW):Prop :=
 ∀(pins:List (Addr×Obj)) (s:Shared) (σ:St) (H:Hp) (o i v:V) (ov iv u:Value) (Q:Hp->Prop),Inv X pins σ H s->RelV o ov->RelV i iv->RelV v u->t o i v H Q ->
  wpAny (model X.prog X.w) X.A (setItem ov iv u) (fun _ s'=>∃H',Inv X pins σ H' s'/\Q H') X.xe s
noncomputable abbrev TIp:=V->V->Hp->VK->Prop
noncomputable def PIp (X:Cx) (op:Operator) (t:TIp):Prop :=
 ∀(pins:List (Addr×Obj)) (s:Shared) (σ:St) (H:Hp) (x y:V) (v u:Value) (Q:VK),Inv X pins σ H s->RelV x v->RelV y u->t x y H Q ->
  wpAny (model X.prog X.w) X.A (inplaceOp op v u) (EP X pins σ Q) X.xe s
section
variable {X:Cx}{pos:Pos}
noncomputable def bM (i:Nat):TG:=fun v σ H Q=>Q (σ.set i (some v)) H
theorem be {i:Nat}{x:Str} (hN:X.N.Nodup) (hi:X.N[i]?=some x) (hx:Loc X.env.scope x) (hf:X.fn x=true\/X.env.scope.names.lookup x=some .local:=by first | exact .inl rfl | exact .inr rfl | assumption):PG X (.Name x pos) (bM i):=by
 intro pins s σ H v u Q I r h
 exact wpAny_assign_Name (du I hN hi hx r (fun s' I'=>⟨_,H,I',h⟩) hf)
noncomputable def v7:TGs:=fun vs σ H Q=>vs=[]/\Q σ H
noncomputable def vb (t:TG) (u:TGs):TGs:=fun vs σ H Q=>∃v r,vs=v::r/\t v σ H fun σ' H'=>u r σ' H' Q
theorem bO:PGs X [] v7:=by
 intro pins s σ H vs us Q I r h
 obtain⟨e,h⟩:=h
 subst e
 cases r
 exact assignInOrder_nil ⟨σ,H,I,h⟩
theorem aU {e:Expr}{es:List Expr}{t:TG}{u:TGs} (h1:PG X e t) (h2:PGs X es u)
  (hs:(assignEach (e::es) X.env).map (·.2)=assign e X.env::(assignEach es X.env).map (·.2):=by rfl):PGs X (e::es) (vb t u):=by
 intro pins s σ H vs us Q I r h
 obtain⟨v,vr,e1,h⟩:=h
 subst e1
 cases r with
 | cons r rr =>
  rw [hs]
  refine assignInOrder_cons (thn (h1 pins s σ H _ _ _ I r h) fun _ s1 ⟨σ1,H1,I1,q1⟩=>?_)
  exact h2 pins s1 σ1 H1 _ _ Q I1 rr q1
noncomputable def ng (K:PySem.W.Frag) (n:Nat) (t:TGs):TG:=fun v σ H Q=>∃a xs,v=.ref a/\SqT K H a xs/\xs.length=n/\t xs σ H Q
theorem cM {es:List Expr}{k:Nat}{t:TGs}{n:Nat} (hc:X.calm=true) (h:PGs X es t)
  (hn:(assignEach es X.env).length=n:=by rfl) (hst:(assignEach es X.env).findIdx? (·.1)=none:=by rfl):PG X (.Tuple es k pos) (ng X.K n t):=by
 intro pins s σ H v u Q I r hw
 obtain⟨a,xs,e1,hq,hl,hw⟩:=hw
 subst e1
 cases r
 obtain⟨its,rv,ht,hz⟩:=I.tuple hq
 refine assign_Tuple_tuple (I.ok.hd hc) ht (by simp [hn,<- hl,rv.length]) hst fun h' hx=>?_
 have I1:Inv X pins σ H { s with heap:=h' }:=I.kept (t':=s.toks) fun b o e=>hx b o (Nat.ne_of_lt (Heap.lt_size e)) e
 exact h pins _ σ H xs _ Q I1 (by simpa using rv) hw
noncomputable def vX (to ti:TE) (t:eW):TG:=fun v σ H Q=>to σ H fun o H1=>ti σ H1 fun i H2=>t o i v H2 fun H3=>Q σ H3
theorem fU {o i:Expr}{to ti:TE}{t:eW} (ho:PE X o to) (hi:PE X i ti) (hs:i5 X t)
  (ha:∀v,assign (.Subscript o i pos) X.env v=(do
   let ov <- holding [v] (eval o X.env)
   let iv <- holding [v,ov] (eval i X.env)
   standAt pos
   holding [v,ov,iv] (setItem ov iv v)
   release [v,ov,iv] []):=by intro _;rfl):PG X (.Subscript o i pos) (vX to ti t):=by
 intro pins s σ H v u Q I r h
 rw [ha]
 refine wpAny_bind (wpAny_holding (thn (ho pins s σ H _ I h) fun ov s1 ⟨x,H1,I1,r1,q1⟩=>?_))
 refine wpAny_bind (wpAny_holding (thn (hi pins s1 σ H1 _ I1 q1) fun iv s2 ⟨y,H2,I2,r2,q2⟩=>?_))
 refine wpAny_bind (wpAny_standAt (wpAny_bind (wpAny_holding (thn (hs pins s2 σ H2 x y v ov iv u _ I2 r1 r2 r q2) fun _ s3 ⟨H3,I3,q3⟩=>?_))))
 exact wpAny_release ⟨σ,H3,I3,q3⟩
noncomputable def iU (te:TE) (g:TG):TS:=fun D σ H=>te σ H fun x H1=>g x σ H1 D.nx
theorem da {tg e:Expr}{te:TE}{g:TG} (he:PE X e te) (hg:PG X tg g) (hs:swapsWithSole [tg] e pos.line X.env=pure false:=by rfl) (hw:swappedStores [tg] e X.env=pure none:=by rfl)
  (h1:(assignEach [tg] X.env).map (·.2)=[assign tg X.env]:=by rfl):PS X (.Assign [tg] e pos) (iU te g):=by
 intro pins s σ H D I h
 refine wpAny_Assign_stores (thn (he pins s σ H _ I h) fun v s1 ⟨x,H1,I1,r1,q1⟩=>?_) hs hw
 rw [h1]
 exact thn (hg pins s1 σ H1 x v _ I1 r1 q1) fun _ s2 q=>q
theorem aE {i:Nat}{x:Str}{e:Expr}{te:TE}{pos':Pos} (hN:X.N.Nodup) (hi:X.N[i]?=some x) (hx:Loc X.env.scope x) (he:PE X e te) (hs:swapsWith e (some (.Name x pos')) pos.line X.env=pure false:=by rfl) (hf:X.fn x=true\/X.env.scope.names.lookup x=some .local:=by first | exact .inl rfl | exact .inr rfl | assumption) :
  PS X (.Assign [.Name x pos'] e pos) (iU te (bM i)):=by
 intro pins s σ H D I h
 refine wpAny_Assign_Name (thn (he pins s σ H _ I h) fun v s1 ⟨y,H1,I1,r1,q1⟩=>?_) hs
 exact du I1 hN hi hx r1 (fun s2 I2=>⟨_,H1,I2,q1⟩) hf
noncomputable def vP (i:Nat) (te:TE) (ti:TIp):TS:=fun D σ H=>∃x,σ[i]?=some (some x)/\te σ H fun y H1=>ti x y H1 fun z H2=>D.nx (σ.set i (some z)) H2
theorem tX {i:Nat}{x:Str}{e:Expr}{te:TE}{op:Operator}{ti:TIp}{pos':Pos} (hN:X.N.Nodup) (hi:X.N[i]?=some x) (hx:Loc X.env.scope x) (he:PE X e te) (ho:PIp X op ti) (hf:X.fn x=true\/X.env.scope.names.lookup x=some .local:=by first | exact .inl rfl | exact .inr rfl | assumption) :
  PS X (.AugAssign (.Name x pos') op e pos) (vP i te ti):=by
 intro pins s σ H D I h
 obtain⟨v,e1,h⟩:=h
 obtain⟨m,hn,hl⟩:=I.loc
 have vis:Vis X.env.scope x:=by rcases hx with k | k;exact .inl k;exact .inr (.inl k)
 obtain⟨u,r,l⟩:=hl i x v hi e1 vis
 refine wpAny_AugAssign_Name ?_
 have go:wpAny (model X.prog X.w) X.A (eval e X.env) (fun w s₂=>wpAny (model X.prog X.w) X.A (inplaceOp op u w) (fun r s₃=>wpAny (model X.prog X.w) X.A (storeName X.env x r) (fun _=>SP X pins D .next) X.xe s₃) X.xe s₂) X.xe s:=by
  refine thn (he pins s σ H _ I h) fun w s1 ⟨y,H1,I1,r1,q1⟩=>?_
  refine thn (ho pins s1 σ H1 v y u w _ I1 r r1 q1) fun z s2 ⟨zv,H2,I2,r2,q2⟩=>?_
  exact du I2 hN hi hx r2 (fun s3 I3=>⟨_,H2,I3,q2⟩) hf
 rcases l with ⟨hk,hm⟩ | ⟨hk,c,hc,hcell⟩
 ·exact wpAny_loadName_local I.ok.kind hk hn hm go
 ·rcases hk with hk | hk
  ·exact wpAny_loadName_cell I.ok.kind hk hc hcell go
  ·rcases hx with k | k
   ·have:X.env.scope.names.lookup x=some .free:=hk
    rw [k] at this;cases this
   ·have:X.env.scope.names.lookup x=some .free:=hk
    rw [k] at this;cases this
noncomputable def uV (to ti te:TE) (tget:V->V->Hp->VK->Prop) (tip:TIp) (tset:eW):TS:=fun D σ H=>to σ H fun o H1=>ti σ H1 fun i H2=>tget o i H2 fun x H3=>te σ H3 fun y H4=>tip x y H4 fun z H5=>tset o i z H5 fun H6=>D.nx σ H6
noncomputable def m8 (X:Cx) (t:V->V->Hp->VK->Prop):Prop :=
 ∀(pins:List (Addr×Obj)) (s:Shared) (σ:St) (H:Hp) (o i:V) (ov iv:Value) (Q:VK),Inv X pins σ H s->RelV o ov->RelV i iv->t o i H Q ->
  wpAny (model X.prog X.w) X.A (getItem ov iv) (EP X pins σ Q) X.xe s
theorem kN {o i e:Expr}{to ti te:TE}{tget:V->V->Hp->VK->Prop}{tip:TIp}{tset:eW}{op:Operator}{tpos:Pos} (ho:PE X o to) (hi:PE X i ti) (hg:m8 X tget) (he:PE X e te) (hp:PIp X op tip) (hs:i5 X tset)
  (ha:∀ov iv new,augStore i ov iv new=(do holding [new,ov,iv] (setItem ov iv new);release [new,ov,iv] [];pure .next):=by intros;rfl):PS X (.AugAssign (.Subscript o i tpos) op e pos) (uV to ti te tget tip tset):=by
 intro pins s σ H D I h
 refine wpAny_AugAssign_SubscriptAny (thn (ho pins s σ H _ I h) fun ov s1 ⟨x1,H1,I1,r1,q1⟩=>?_) ha
 refine thn (hi pins s1 σ H1 _ I1 q1) fun iv s2 ⟨x2,H2,I2,r2,q2⟩=>?_
 refine thn (hg pins s2 σ H2 x1 x2 ov iv _ I2 r1 r2 q2) fun old s3 ⟨x3,H3,I3,r3,q3⟩=>?_
 refine thn (he pins s3 σ H3 _ I3 q3) fun v s4 ⟨x4,H4,I4,r4,q4⟩=>?_
 refine thn (hp pins s4 σ H4 x3 x4 old v _ I4 r3 r4 q4) fun new s5 ⟨x5,H5,I5,r5,q5⟩=>?_
 exact thn (hs pins s5 σ H5 x1 x2 x5 ov iv new _ I5 r1 r2 r5 q5) fun _ s6 ⟨H6,I6,q6⟩=>⟨σ,H6,I6,q6⟩
noncomputable def ipI (f:Int->Int->Int):TIp:=fun x y H Q=>∃i j,x=.int i/\y=.int j/\Q (.int (f i j)) H
theorem tF:PIp X .Add (ipI fun i j=>i + j):=by
 intro pins s σ H x y v u Q I r1 r2 h
 obtain⟨i,j,e1,e2,q⟩:=h
 subst e1;subst e2
 obtain⟨t,rfl⟩:=r1
 obtain⟨t',rfl⟩:=r2
 exact iadd_int ⟨.int _,H,I.tok _,⟨_,rfl⟩,q⟩
theorem lA:PIp X .Sub (ipI fun i j=>i - j):=by
 intro pins s σ H x y v u Q I r1 r2 h
 obtain⟨i,j,e1,e2,q⟩:=h
 subst e1;subst e2
 obtain⟨t,rfl⟩:=r1
 obtain⟨t',rfl⟩:=r2
 exact isub_int ⟨.int _,H,I.tok _,⟨_,rfl⟩,q⟩
end
section
variable {X:Cx}{pos:Pos}
noncomputable def tI (c:TT) (tb:TS):TS:=fun D σ H=>∃W:Nat->St->Hp->Prop,(∃m,W m σ H)/\∀m σ H,W m σ H ->
 c σ H fun b H1=>if b=true then ∃N:St->Hp->Prop,(∀σ' H',N σ' H'->∃m',m' < m/\W m' σ' H')/\tb { D with nx:=N,ct:=N,bk:=D.nx } σ H1 else D.nx σ H1
theorem jX {c:Expr}{body:List Stmt}{tc:TT}{tb:TS} (hp:PassesOwn (model X.prog X.w) X.A X.env X.xe) (hc:PT X c tc) (hb:PSs X body tb):PS X (.While c body [] pos) (tI tc tb):=by
 intro pins s σ H D I h
 obtain⟨W,⟨m0,w0⟩,turn⟩:=h
 refine wpAny_While (codeAny_whileLoop (fun n s'=>∃σ' H',Inv X pins σ' H' s'/\W n σ' H') ?_ m0 ⟨σ,H,I,w0⟩)
 rintro n s1 ⟨σ1,H1,I1,w1⟩
 refine wpAny_passesOwn hp (thn (hc pins s1 σ1 H1 _ I1 (turn n σ1 H1 w1)) fun b s2 ⟨H2,I2,q2⟩=>?_)
 cases b with
 | true =>
  obtain⟨N,hN,q2⟩:=q2
  rw [if_pos rfl]
  refine wpAny_passesOwn hp (thn (hb pins s2 σ1 H2 _ I2 q2) fun f s3 q3=>?_)
  cases f with
  | next =>
   obtain⟨σ3,H3,I3,n3⟩:=q3
   obtain⟨m',hm,w3⟩:=hN σ3 H3 n3
   exact⟨m',hm,σ3,H3,I3,w3⟩
  | cont =>
   obtain⟨σ3,H3,I3,n3⟩:=q3
   obtain⟨m',hm,w3⟩:=hN σ3 H3 n3
   exact⟨m',hm,σ3,H3,I3,w3⟩
  | brk=>exact q3
  | ret v=>exact q3
 | false =>
  rw [if_neg Bool.false_ne_true]
  exact wpAny_execs_nil ⟨σ1,H2,I2,q2⟩
end
structure It where
 go:Nat->Hp->Prop
 yld:Nat->Hp->V->Hp->Prop
 stop:Nat->Hp->Prop
noncomputable def bv (X:Cx) (pins:List (Addr×Obj)) (H:Hp) (b:Addr):Prop :=
 H b=none/\b≠X.env.locals/\b∉X.fs/\(b∈X.ex\/X.s₀.heap.objs.size<=b)/\(∀x c,X.env.cells.lookup x=some c->c≠b)/\∀p∈X.pn++pins,p.1≠b
theorem Inv.fpOk {X:Cx}{pins:List (Addr×Obj)}{σ:St}{H H':Hp}{s:Shared}{b:Addr} (I:Inv X pins σ H s) (hb:s.heap.objs.size<=b) (hn:H' b=none):bv X pins H' b:=by
 refine⟨hn,Nat.ne_of_gt (Nat.lt_of_lt_of_le I.lt hb),I.nofs hb,.inr (Nat.le_trans I.sz hb),fun x c e z=>?_,fun p hp z=>?_⟩
 ·obtain⟨v,q⟩:=I.cell x c e
  exact absurd (Nat.lt_of_lt_of_le q.lt (by rw [z];exact hb)) (Nat.lt_irrefl _)
 ·exact absurd (Nat.lt_of_lt_of_le (Heap.lt_size (I.pin p hp).1) (by rw [z];exact hb)) (Nat.lt_irrefl _)
structure Turn (P:Program) (w:World) (K:PySem.W.Frag) (tg:Expr) (J:It) (fp:List Addr) (it:Addr) (tn:Nat->Heap->Prop):Prop where
 mem:it∈fp
 obj:∀i h,tn i h->∀b∈fp,∃o,h.get? b=some o/\∀v,o.data≠.cell v
 keep:∀i h h',tn i h->(∀b∈fp,∀o,h.get? b=some o->h'.get? b=some o)->tn i h'
 item:∀(X:Cx),X.prog=P->X.w=w->X.K=K->X.calm=true->∀(i:Nat) (pins:List (Addr×Obj)) (s:Shared) (σ:St) (H:Hp) (E:Value->Shared->Prop),Inv X pins σ H s->(∀b∈fp,bv X pins H b)->tn i s.heap->J.go i H ->
  wpAny (model P w) X.A (pyNext (.ref it)) (fun r s1=>∃u,r=some u /\
   wpAny (model P w) X.A (letOwnedTupleGo tg (.ref it) u) (fun _ s2=>∃x H',Inv X pins σ H' s2/\RelV x u/\J.yld i H x H'/\tn (i + 1) s2.heap/\∀b∈fp,H' b=none) E s1) E s
 done:∀(X:Cx),X.prog=P->X.w=w->X.K=K->X.calm=true->∀(i:Nat) (pins:List (Addr×Obj)) (s:Shared) (σ:St) (H:Hp) (E:Value->Shared->Prop),Inv X pins σ H s->(∀b∈fp,bv X pins H b)->tn i s.heap->J.stop i H ->
  wpAny (model P w) X.A (pyNext (.ref it)) (fun r s1=>r=none/\Inv X pins σ H s1) E s
 self:∀(A:Around) (i:Nat) (s:Shared) (Q:Value->Shared->Prop) (E:Value->Shared->Prop),tn i s.heap->Q (.ref it) s->wpAny (model P w) A (pyIter (.ref it)) Q E s
noncomputable abbrev TI:=St->Hp->(It->Hp->Prop)->Prop
noncomputable def PIE (X:Cx) (pins:List (Addr×Obj)) (σ:St) (tg:Expr) (R:It->Hp->Prop) (itv:Value) (s2:Shared):Prop :=
 ∃(it:Addr) (fp:List Addr) (tn:Nat->Heap->Prop) (J:It) (H':Hp),itv=.ref it/\Inv X pins σ H' s2/\Turn X.prog X.w X.K tg J fp it tn/\tn 0 s2.heap/\(∀b∈fp,bv X pins H' b)/\R J H'
noncomputable def PI (X:Cx) (tg iter:Expr) (wi:TI):Prop :=
 ∀(pins:List (Addr×Obj)) (s:Shared) (σ:St) (H:Hp) (R:It->Hp->Prop),Inv X pins σ H s->wi σ H R ->
  wpAny (model X.prog X.w) X.A (eval iter X.env) (fun v s1=>wpAny (model X.prog X.w) X.A (pyIter v) (PIE X pins σ tg R) X.xe s1) X.xe s
theorem eU {M:Model}{A:Around}{E:Value->Shared->Prop}{s:Shared}{tg:Expr}{it:Addr}{u:Value}{o:Obj}{n:String}{vs:Array Value}{Q:Unit->Shared->Prop} (ho:s.heap.get? it=some o) (hc:o.cls=.type n) (hd:o.data=.fields vs)
  (hn:["enumerate","zip","dict_itemiterator","dict_reverseitemiterator","odict_iterator","itertools.zip_longest","itertools.pairwise"].contains n=false) (hQ:Q () s):wpAny M A (letOwnedTupleGo tg (.ref it) u) Q E s:=by
 unfold letOwnedTupleGo
 cases tg <;> first
  | exact wpAny_pure hQ
  | (cases u <;> first
    | exact wpAny_pure hQ
    | (refine wpAny_bind (wpAny_load ho ?_)
       rw [hc,hd]
       show wpAny M A (if (["enumerate","zip","dict_itemiterator","dict_reverseitemiterator","odict_iterator","itertools.zip_longest","itertools.pairwise"].contains n && vs[0]? == some (rawInt _))=true then _ else _) Q E s
       rw [if_neg (by intro h;rw [hn,Bool.false_and] at h;cases h)]
       exact wpAny_pure hQ))
noncomputable def Itl (K:PySem.W.Frag) (a:Addr):It :=
 ⟨fun i H=>∃xs x,SqL K H a xs/\xs[i]?=some x,fun i H x H'=>H'=H/\∀xs,SqL K H a xs->xs[i]?=some x,fun i H=>∃xs,SqL K H a xs/\xs.length<=i⟩
noncomputable def Itt (K:PySem.W.Frag) (a:Addr):It :=
 ⟨fun i H=>∃xs x,SqT K H a xs/\xs[i]?=some x,fun i H x H'=>H'=H/\∀xs,SqT K H a xs->xs[i]?=some x,fun i H=>∃xs,SqT K H a xs/\xs.length<=i⟩
noncomputable def Itr (lo:Int) (n:Nat):It:=⟨fun i _=>i < n,fun i H x H'=>H'=H/\x=.int (lo + i),fun i _=>n<=i⟩
theorem oI {P:Program}{w:World}{K:PySem.W.Frag}{tg:Expr} (a it:Addr):Turn P w K tg (Itl K a) [it] it (fun i h=>h.IsListIter it a i) where
 mem:=by simp
 obj:=fun i h st b hb=>by
  have e:b=it:=by simpa using hb
  subst e
  obtain⟨o,e,c,d⟩:=st
  exact⟨o,e,fun v z=>by rw [d] at z;cases z⟩
 keep:=fun i h h' st k=>st.at fun o e=>k it (by simp) o e
 item:=by
  intro X hP hw hK hc i pins s σ H E I hf st hg
  subst hP hw hK
  obtain⟨xs,x,hq,hx⟩:=hg
  obtain⟨its,rv,p,hz⟩:=I.list hq
  obtain⟨u,hu,ru⟩:=rv.get hx
  obtain⟨f0,f1,f2,f3,f4,f5⟩:=hf it (by simp)
  refine wpAny_pyNext_list_item st p.isList (x:=u) (by simpa using hu) fun h' st' sb=>?_
  have I1:Inv X pins σ H { s with heap:=h' }:=I.turned (t':=s.toks) (fun b o hb e=>(sb.2 b hb).trans e) f0 f1 f3 f4 f5
  obtain⟨o,e,c,d⟩:=id st'
  exact⟨u,rfl,eU (s:={ s with heap:=h' }) e c d (by decide) ⟨x,H,I1,ru,⟨rfl,fun ys hy=>by rw [I.list_inj hy hq];exact hx⟩,st',fun b hb=>(hf b hb).1⟩⟩
 done:=by
  intro X hP hw hK hc i pins s σ H E I hf st hg
  subst hP hw hK
  obtain⟨xs,hq,hx⟩:=hg
  obtain⟨its,rv,p,hz⟩:=I.list hq
  obtain⟨f0,f1,f2,f3,f4,f5⟩:=hf it (by simp)
  have hl:=rv.length
  exact wpAny_pyNext_list_end (I.ok.hd hc) st p.isList (by simp;omega) fun h' eb=>⟨rfl,I.turned (t':=s.toks) (fun b o hb e=>eb b o hb e) f0 f1 f3 f4 f5⟩
 self:=fun _ _ _ _ _ st h=>wpAny_pyIter_listiter st h
theorem oE {P:Program}{w:World}{K:PySem.W.Frag}{tg:Expr} (a it:Addr):Turn P w K tg (Itt K a) [it] it (fun i h=>h.IsTupleIter it a i) where
 mem:=by simp
 obj:=fun i h st b hb=>by
  have e:b=it:=by simpa using hb
  subst e
  obtain⟨o,e,c,d⟩:=st
  exact⟨o,e,fun v z=>by rw [d] at z;cases z⟩
 keep:=fun i h h' st k=>st.at fun o e=>k it (by simp) o e
 item:=by
  intro X hP hw hK hc i pins s σ H E I hf st hg
  subst hP hw hK
  obtain⟨xs,x,hq,hx⟩:=hg
  obtain⟨its,rv,p,hz⟩:=I.tuple hq
  obtain⟨u,hu,ru⟩:=rv.get hx
  obtain⟨f0,f1,f2,f3,f4,f5⟩:=hf it (by simp)
  refine wpAny_pyNext_tuple_item st (show s.heap.IsTuple a its.toArray from p) (x:=u) (by simpa using hu) fun h' st' sb=>?_
  have I1:Inv X pins σ H { s with heap:=h' }:=I.turned (t':=s.toks) (fun b o hb e=>(sb.2 b hb).trans e) f0 f1 f3 f4 f5
  obtain⟨o,e,c,d⟩:=id st'
  exact⟨u,rfl,eU (s:={ s with heap:=h' }) e c d (by decide) ⟨x,H,I1,ru,⟨rfl,fun ys hy=>by rw [I.tuple_inj hy hq];exact hx⟩,st',fun b hb=>(hf b hb).1⟩⟩
 done:=by
  intro X hP hw hK hc i pins s σ H E I hf st hg
  subst hP hw hK
  obtain⟨xs,hq,hx⟩:=hg
  obtain⟨its,rv,p,hz⟩:=I.tuple hq
  obtain⟨f0,f1,f2,f3,f4,f5⟩:=hf it (by simp)
  have hl:=rv.length
  exact wpAny_pyNext_tuple_end (I.ok.hd hc) st (show s.heap.IsTuple a its.toArray from p) (by simp;omega) fun h' eb=>⟨rfl,I.turned (t':=s.toks) (fun b o hb e=>eb b o hb e) f0 f1 f3 f4 f5⟩
 self:=fun _ _ _ _ _ st h=>wpAny_pyIter_tupleiter st h
theorem oo {P:Program}{w:World}{K:PySem.W.Frag}{tg:Expr} (it:Addr) (lo:Int) (n:Nat):Turn P w K tg (Itr lo n) [it] it (fun i h=>IsRangeIter h it (lo + (i:Nat) * 1) ((n:Int) - (i:Nat)) 1) where
 mem:=by simp
 obj:=fun i h st b hb=>by
  have e:b=it:=by simpa using hb
  subst e
  exact⟨_,st,fun v z=>by
   have z':Data.fields _=Data.cell v:=z
   cases z'⟩
 keep:=fun i h h' st k=>k it (by simp) _ st
 item:=by
  intro X hP hw hK hc i pins s σ H E I hf st hg
  subst hP hw hK
  obtain⟨f0,f1,f2,f3,f4,f5⟩:=hf it (by simp)
  have W:=Walks.range (prog:=X.prog) (w:=X.w) (I.ok.hd hc) it lo 1 n
  refine W.item i s _ _ hg st fun v h' tk hv st' kk=>?_
  obtain⟨t,rfl⟩:=hv
  have I1:Inv X pins σ H { s with heap:=h',toks:=tk }:=I.turned (fun b o hb e=>kk b o (by simpa using hb) e) f0 f1 f3 f4 f5
  refine⟨_,rfl,eU (s:={ s with heap:=h',toks:=tk }) (n:="range_iterator") st' rfl rfl (by decide) ⟨.int (lo + i),H,I1,⟨t,?_⟩,⟨rfl,rfl⟩,st',fun b hb=>(hf b hb).1⟩⟩
  rw [Int.mul_one]
 done:=by
  intro X hP hw hK hc i pins s σ H E I hf st hg
  subst hP hw hK
  obtain⟨f0,f1,f2,f3,f4,f5⟩:=hf it (by simp)
  exact wpAny_pyNext_range_end (I.ok.hd hc) st (by have:n<=i:=hg;omega) fun h' eb=>⟨rfl,I.turned (t':=s.toks) (fun b o hb e=>eb b o hb e) f0 f1 f3 f4 f5⟩
 self:=fun _ _ _ _ _ st h=>wpAny_pyIter_rangeiter st h
section
variable {X:Cx}{tg:Expr}
noncomputable def gh (K:PySem.W.Frag) (tl:TE):TI:=fun σ H R=>tl σ H fun x H1=>∃a,x=.ref a/\(∃xs,SqL K H1 a xs)/\R (Itl K a) H1
noncomputable def eZ (K:PySem.W.Frag) (tl:TE):TI:=fun σ H R=>tl σ H fun x H1=>∃a,x=.ref a/\(∃xs,SqT K H1 a xs)/\R (Itt K a) H1
theorem cv {l:Expr}{tl:TE} (hl:PE X l tl):PI X tg l (gh X.K tl):=by
 intro pins s σ H R I h
 refine thn (hl pins s σ H _ I h) fun v s1 ⟨x,H1,I1,r1,q1⟩=>?_
 obtain⟨a,e,⟨xs,hq⟩,q⟩:=q1
 subst e
 cases r1
 obtain⟨its,rv,p,hz⟩:=I1.list hq
 refine wpAny_pyIter_list p.isList ?_
 refine⟨s1.heap.objs.size,[s1.heap.objs.size],_,_,H1,rfl,I1.kept (t':=s1.toks) fun b o e=>Heap.get?_push_of_some _ e,oI a _,⟨_,Heap.get?_push_size _ rfl,rfl,rfl⟩,fun b hb=>?_,q⟩
 have e:b=s1.heap.objs.size:=by simpa using hb
 subst e
 exact I1.fpOk (Nat.le_refl _) (I1.hok.fresh (Nat.le_refl _))
theorem bP {l:Expr}{tl:TE} (hl:PE X l tl):PI X tg l (eZ X.K tl):=by
 intro pins s σ H R I h
 refine thn (hl pins s σ H _ I h) fun v s1 ⟨x,H1,I1,r1,q1⟩=>?_
 obtain⟨a,e,⟨xs,hq⟩,q⟩:=q1
 subst e
 cases r1
 obtain⟨its,rv,p,hz⟩:=I1.tuple hq
 refine wpAny_pyIter_tuple (show s1.heap.IsTuple a its.toArray from p) ?_
 refine⟨s1.heap.objs.size,[s1.heap.objs.size],_,_,H1,rfl,I1.kept (t':=s1.toks) fun b o e=>Heap.get?_push_of_some _ e,oE a _,⟨_,Heap.get?_push_size _ rfl,rfl,rfl⟩,fun b hb=>?_,q⟩
 have e:b=s1.heap.objs.size:=by simpa using hb
 subst e
 exact I1.fpOk (Nat.le_refl _) (I1.hok.fresh (Nat.le_refl _))
theorem jY {pins:List (Addr×Obj)}{σ:St}{H:Hp}{s:Shared}{R:It->Hp->Prop}{E:Value->Shared->Prop}{lo hi:Int}{t u v:Tok}{tk:Nat} (I:Inv X pins σ H s) (h1:-(2 ^ 62)<=lo) (h2:lo < 2 ^ 62) (h3:-(2 ^ 62)<=hi) (h4:hi < 2 ^ 62)
  (q:R (Itr lo (hi - lo).toNat) H):wpAny (model X.prog X.w) X.A (pyIter (.ref s.heap.objs.size)) (PIE X pins σ tg R) E { s with heap:=s.heap.push { cls:=.type "range",data:=.fields #[.int lo t,.int hi u,.int 1 v] },toks:=tk }:=by
 refine wpAny_pyIter_range (IsRange.new ..) (small_one h1 h2 h3 h4) ?_
 have I1:Inv X pins σ H { s with heap:=s.heap.push { cls:=.type "range",data:=.fields #[.int lo t,.int hi u,.int 1 v] },toks:=tk }:=I.kept fun b o e=>Heap.get?_push_of_some _ e
 refine⟨(s.heap.push { cls:=.type "range",data:=.fields #[.int lo t,.int hi u,.int 1 v] }).objs.size,[(s.heap.push { cls:=.type "range",data:=.fields #[.int lo t,.int hi u,.int 1 v] }).objs.size],_,_,H,rfl,
  I1.kept (t':=tk) fun b o e=>Heap.get?_push_of_some _ e,oo _ lo (hi - lo).toNat,?_,fun b hb=>?_,q⟩
 ·have e1:lo + ((0:Nat):Int) * 1=lo:=by simp
  have e2:(((hi - lo).toNat:Nat):Int) - ((0:Nat):Int)=Builtin.Range.rangeSize lo hi 1:=by rw [rangeSize_one];split <;> omega
  show IsRangeIter _ _ (lo + ((0:Nat):Int) * 1) ((((hi - lo).toNat:Nat):Int) - ((0:Nat):Int)) 1
  rw [e1,e2]
  exact Heap.get?_push_size _ rfl
 ·have e:b=(s.heap.push { cls:=.type "range",data:=.fields #[.int lo t,.int hi u,.int 1 v] }).objs.size:=by simpa using hb
  subst e
  exact I1.fpOk (Nat.le_refl _) (I1.hok.fresh (Nat.le_refl _))
noncomputable def uY (ta:TA):TI:=fun σ H R=>ta σ H fun vs H1=>∃j:Int,vs=[.int j]/\-(2 ^ 62)<=j/\j < 2 ^ 62/\R (Itr 0 j.toNat) H1
noncomputable def uW (ta:TA):TI:=fun σ H R=>ta σ H fun vs H1=>∃i j:Int,vs=[.int i,.int j]/\(-(2 ^ 62)<=i/\i < 2 ^ 62/\-(2 ^ 62)<=j/\j < 2 ^ 62)/\R (Itr i (j - i).toNat) H1
theorem dm {a:Expr}{ta:TA}{p pos:Pos} (hg:Gl X "range") (hm:X.mg "range"=none) (ha:PA X [a] ta) (hs:starEach [a] X.env=[(false,eval a X.env)]:=by rfl):PI X tg (.Call (.Name "range" p) [a] [] pos) (uY ta):=by
 intro pins s σ H R I h
 refine Call_ (cI I hg hm boot_range (PyProof.Rows.callWith_type1 (thn (ha pos pins s σ H _ I h) fun us s1 ⟨vs,H1,I1,r1,q1⟩=>?_) hs rfl))
 obtain⟨j,e,q1,q2,q⟩:=q1
 subst e
 cases r1 with
 | cons r rr =>
  cases rr
  obtain⟨t,rfl⟩:=r
  exact call_range_1 (jY I1 (by omega) (by omega) q1 q2 (by simpa using q))
theorem pj {a b:Expr}{ta:TA}{p pos:Pos} (hg:Gl X "range") (hm:X.mg "range"=none) (ha:PA X [a,b] ta) (hs:starEach [a,b] X.env=[(false,eval a X.env),(false,eval b X.env)]:=by rfl) (hs2:starEach [b] X.env=[(false,eval b X.env)]:=by rfl) :
  PI X tg (.Call (.Name "range" p) [a,b] [] pos) (uW ta):=by
 intro pins s σ H R I h
 refine Call_ (cI I hg hm boot_range (PyProof.Rows.callWith_type1 (thn (ha pos pins s σ H _ I h) fun us s1 ⟨vs,H1,I1,r1,q1⟩=>?_) (by rw [hs,hs2]) (by rw [hs2];rfl)))
 obtain⟨i,j,e,⟨q1,q2,q3,q4⟩,q⟩:=q1
 subst e
 cases r1 with
 | cons r rr =>
  cases rr with
  | cons r' rr =>
   cases rr
   obtain⟨t,rfl⟩:=r
   obtain⟨t',rfl⟩:=r'
   exact call_range_2 (jY I1 q1 q2 q3 q4 q)
noncomputable def m7 (wi:TI) (g:TG) (tb:TS):TS:=fun D σ H=>wi σ H fun J H1=>∃W:Nat->Nat->St->Hp->Prop,(∃m,W 0 m σ H1)/\∀i m σ H,W i m σ H ->
 (J.stop i H/\D.nx σ H)\/(J.go i H/\∃N:St->Hp->Prop,(∀σ' H',N σ' H'->∃m',m' < m/\W (i + 1) m' σ' H')/\∀x H',J.yld i H x H'->g x σ H' fun σ2 H2=>tb { D with nx:=N,ct:=N,bk:=D.nx } σ2 H2)
noncomputable def dN (fp:List Addr) (h:Heap):List (Addr×Obj):=fp.filterMap fun b=>(h.get? b).map fun o=>(b,o)
theorem dk {fp:List Addr}{h:Heap}{b:Addr}{o:Obj} (hb:b∈fp) (e:h.get? b=some o):(b,o)∈dN fp h:=List.mem_filterMap.mpr ⟨b,hb,by rw [e];rfl⟩
theorem oO {fp:List Addr}{h:Heap}{p:Addr×Obj} (hp:p∈dN fp h):p.1∈fp/\h.get? p.1=some p.2:=by
 obtain⟨b,hb,e⟩:=List.mem_filterMap.mp hp
 cases q:h.get? b with
 | none=>rw [q] at e;cases e
 | some o =>
  rw [q] at e
  have e':(b,o)=p:=Option.some.inj e
  subst e'
  exact⟨hb,q⟩
theorem Inv.pinned {pins:List (Addr×Obj)}{σ:St}{H:Hp}{s:Shared}{fp:List Addr} (I:Inv X pins σ H s) (hf:∀b∈fp,bv X pins H b) (ho:∀b∈fp,∃o,s.heap.get? b=some o/\∀v,o.data≠.cell v):Inv X (pins++dN fp s.heap) σ H s :=
 I.pins_of fun p hp=>(List.mem_append.mp hp).elim (fun z=>I.pin p (List.mem_append_right _ z)) fun z=>by
  obtain⟨hb,e⟩:=oO z
  obtain⟨f0,f1,f2,_⟩:=hf p.1 hb
  obtain⟨o,e',d⟩:=ho p.1 hb
  rw [e] at e';cases e'
  exact⟨e,f0,f1,f2,d⟩
theorem Inv.unpinned {pins pl:List (Addr×Obj)}{σ:St}{H:Hp}{s:Shared} (I:Inv X (pins++pl) σ H s):Inv X pins σ H s:=I.pins_of fun p hp=>I.pin p (List.mem_append_right _ (List.mem_append_left _ hp))
theorem b9 {iter:Expr}{body:List Stmt}{wi:TI}{g:TG}{tb:TS}{pos:Pos} (hp:PassesOwn (model X.prog X.w) X.A X.env X.xe) (hc:X.calm=true) (hi:PI X tg iter wi) (hg:PG X tg g) (hb:PSs X body tb)
  (hs:∀x,foldedSetIterable iter X.env x=pure x:=by intro _;rfl):PS X (.For tg iter body [] pos) (m7 wi g tb):=by
 intro pins s σ H D I h
 refine wpAny_For (thn (hi pins s σ H _ I h) fun v s1 h1=>thn h1 fun itv s2 h2=>?_) hs
 obtain⟨it,fp,tn,J,H2,e,I2,T,st2,f2,W,⟨m0,w0⟩,turn⟩:=h2
 subst e
 have stat:∀{H':Hp},(∀b∈fp,H' b=none)->∀b∈fp,bv X pins H' b:=fun hn b hb=>⟨hn b hb,(f2 b hb).2⟩
 refine codeAny_forLoop_any (fun n s'=>∃i σ' H',Inv X pins σ' H' s'/\tn i s'.heap/\(∀b∈fp,H' b=none)/\W i n σ' H') ?_ m0 ⟨0,σ,H2,I2,st2,fun b hb=>(f2 b hb).1,w0⟩
 rintro n s3 ⟨i,σ3,H3,I3,st3,fr3,w3⟩
 rcases turn i n σ3 H3 w3 with ⟨stop,qn⟩ | ⟨go,N,hN,step⟩
 ·refine wpAny_passesOwn hp (thn (T.done X rfl rfl rfl hc i pins s3 σ3 H3 X.xe I3 (stat fr3) st3 stop) fun r s4 ⟨hr,I4⟩=>?_)
  subst hr
  exact wpAny_execs_nil ⟨σ3,H3,I4,qn⟩
 ·refine wpAny_passesOwn hp (thn (T.item X rfl rfl rfl hc i pins s3 σ3 H3 X.xe I3 (stat fr3) st3 go) fun r s4 ⟨u,hr,h4⟩=>?_)
  subst hr
  refine wpAny_passesOwn hp (thn h4 fun _ s5 ⟨x,H5,I5,r5,y5,st5,fr5⟩=>?_)
  have I5':=I5.pinned (stat fr5) (T.obj _ _ st5)
  refine wpAny_passesOwn hp (thn (hg _ s5 σ3 H5 x u _ I5' r5 (step x H5 y5)) fun _ s6 ⟨σ6,H6,I6,q6⟩=>?_)
  refine wpAny_passesOwn hp (thn (hb _ s6 σ6 H6 _ I6 q6) fun f s7 q7=>?_)
  have again:∀{σ7:St}{H7:Hp},Inv X (pins++dN fp s5.heap) σ7 H7 s7->N σ7 H7->∃m,m < n/\∃i σ' H',Inv X pins σ' H' s7/\tn i s7.heap/\(∀b∈fp,H' b=none)/\W i m σ' H':=fun {σ7 H7} I7 n7=>by
   obtain⟨m',hm,w7⟩:=hN σ7 H7 n7
   refine⟨m',hm,i + 1,σ7,H7,I7.unpinned,T.keep _ _ _ st5 fun b hb o e=>(I7.pin (b,o) (List.mem_append_right _ (List.mem_append_right _ (dk hb e)))).1,fun b hb=>?_,w7⟩
   obtain⟨o,e,d⟩:=T.obj _ _ st5 b hb
   exact (I7.pin (b,o) (List.mem_append_right _ (List.mem_append_right _ (dk hb e)))).2.1
  cases f with
  | next=>obtain⟨σ7,H7,I7,n7⟩:=q7;exact again I7 n7
  | cont=>obtain⟨σ7,H7,I7,n7⟩:=q7;exact again I7 n7
  | brk=>obtain⟨σ7,H7,I7,q7⟩:=q7;exact⟨σ7,H7,I7.unpinned,q7⟩
  | ret v=>obtain⟨x7,σ7,H7,I7,r7,q7⟩:=q7;exact⟨x7,σ7,H7,I7.unpinned,r7,q7⟩
end
theorem kg {K:PySem.W.Frag}{a:Addr}{xs:List V}{g:TG}{tb:TS}{D:Ends}{σ:St}{H:Hp} (Pv:Nat->St->Hp->Prop) (h0:Pv 0 σ H) (hl:∀i σ H,i<=xs.length->Pv i σ H->SqL K H a xs)
  (hs:∀i x σ H,xs[i]?=some x->Pv i σ H->g x σ H fun σ2 H2=>tb { D with nx:=Pv (i + 1),ct:=Pv (i + 1),bk:=D.nx } σ2 H2) (hd:∀σ H,Pv xs.length σ H->D.nx σ H) :
  ∃W:Nat->Nat->St->Hp->Prop,(∃m,W 0 m σ H)/\∀i m σ H,W i m σ H ->
   ((Itl K a).stop i H/\D.nx σ H)\/((Itl K a).go i H/\∃N:St->Hp->Prop,(∀σ' H',N σ' H'->∃m',m' < m/\W (i + 1) m' σ' H')/\∀x H',(Itl K a).yld i H x H'->g x σ H' fun σ2 H2=>tb { D with nx:=N,ct:=N,bk:=D.nx } σ2 H2):=by
 refine⟨fun i m σ H=>m=xs.length - i/\i<=xs.length/\Pv i σ H,⟨xs.length,by simp,Nat.zero_le _,h0⟩,?_⟩
 rintro i m σ H ⟨rfl,hi,p⟩
 have q:=hl i σ H hi p
 by_cases hlt:i < xs.length
 ·refine .inr ⟨⟨xs,xs[i],q,by simp [hlt]⟩,Pv (i + 1),fun σ' H' p'=>⟨xs.length - (i + 1),by omega,rfl,hlt,p'⟩,fun x H' y=>?_⟩
  obtain⟨e,y⟩:=y
  subst e
  exact hs i x σ _ (y xs q) p
 ·have e:i=xs.length:=by omega
  subst e
  exact .inl ⟨⟨xs,q,Nat.le_refl _⟩,hd σ H p⟩
theorem dG {K:PySem.W.Frag}{a:Addr}{xs:List V}{g:TG}{tb:TS}{D:Ends}{σ:St}{H:Hp} (Pv:Nat->St->Hp->Prop) (h0:Pv 0 σ H) (hl:∀i σ H,i<=xs.length->Pv i σ H->SqT K H a xs)
  (hs:∀i x σ H,xs[i]?=some x->Pv i σ H->g x σ H fun σ2 H2=>tb { D with nx:=Pv (i + 1),ct:=Pv (i + 1),bk:=D.nx } σ2 H2) (hd:∀σ H,Pv xs.length σ H->D.nx σ H) :
  ∃W:Nat->Nat->St->Hp->Prop,(∃m,W 0 m σ H)/\∀i m σ H,W i m σ H ->
   ((Itt K a).stop i H/\D.nx σ H)\/((Itt K a).go i H/\∃N:St->Hp->Prop,(∀σ' H',N σ' H'->∃m',m' < m/\W (i + 1) m' σ' H')/\∀x H',(Itt K a).yld i H x H'->g x σ H' fun σ2 H2=>tb { D with nx:=N,ct:=N,bk:=D.nx } σ2 H2):=by
 refine⟨fun i m σ H=>m=xs.length - i/\i<=xs.length/\Pv i σ H,⟨xs.length,by simp,Nat.zero_le _,h0⟩,?_⟩
 rintro i m σ H ⟨rfl,hi,p⟩
 have q:=hl i σ H hi p
 by_cases hlt:i < xs.length
 ·refine .inr ⟨⟨xs,xs[i],q,by simp [hlt]⟩,Pv (i + 1),fun σ' H' p'=>⟨xs.length - (i + 1),by omega,rfl,hlt,p'⟩,fun x H' y=>?_⟩
  obtain⟨e,y⟩:=y
  subst e
  exact hs i x σ _ (y xs q) p
 ·have e:i=xs.length:=by omega
  subst e
  exact .inl ⟨⟨xs,q,Nat.le_refl _⟩,hd σ H p⟩
theorem gx {lo:Int}{n:Nat}{g:TG}{tb:TS}{D:Ends}{σ:St}{H:Hp} (Pv:Nat->St->Hp->Prop) (h0:Pv 0 σ H)
  (hs:∀i σ H,i < n->Pv i σ H->g (.int (lo + i)) σ H fun σ2 H2=>tb { D with nx:=Pv (i + 1),ct:=Pv (i + 1),bk:=D.nx } σ2 H2) (hd:∀σ H,Pv n σ H->D.nx σ H) :
  ∃W:Nat->Nat->St->Hp->Prop,(∃m,W 0 m σ H)/\∀i m σ H,W i m σ H ->
   ((Itr lo n).stop i H/\D.nx σ H)\/((Itr lo n).go i H/\∃N:St->Hp->Prop,(∀σ' H',N σ' H'->∃m',m' < m/\W (i + 1) m' σ' H')/\∀x H',(Itr lo n).yld i H x H'->g x σ H' fun σ2 H2=>tb { D with nx:=N,ct:=N,bk:=D.nx } σ2 H2):=by
 refine⟨fun i m σ H=>m=n - i/\i<=n/\Pv i σ H,⟨n,by simp,Nat.zero_le _,h0⟩,?_⟩
 rintro i m σ H ⟨rfl,hi,p⟩
 by_cases hlt:i < n
 ·refine .inr ⟨hlt,Pv (i + 1),fun σ' H' p'=>⟨n - (i + 1),by omega,rfl,hlt,p'⟩,fun x H' y=>?_⟩
  obtain⟨e,y⟩:=y
  subst e y
  exact hs i σ _ hlt p
 ·have e:i=n:=by omega
  subst e
  exact .inl ⟨Nat.le_refl _,hd σ H p⟩
noncomputable abbrev R2:=V->V->Hp->VK->Prop
noncomputable def OpR (X:Cx) (f:Value->Value->Sem Value) (r:R2):Prop :=
 ∀(pins:List (Addr×Obj)) (s:Shared) (σ:St) (H:Hp) (x y:V) (v u:Value) (Q:VK),Inv X pins σ H s->RelV x v->RelV y u->r x y H Q ->
  wpAny (model X.prog X.w) X.A (f v u) (EP X pins σ Q) X.xe s
noncomputable def UnR (X:Cx) (f:Value->Sem Value) (r:V->Hp->VK->Prop):Prop :=
 ∀(pins:List (Addr×Obj)) (s:Shared) (σ:St) (H:Hp) (x:V) (v:Value) (Q:VK),Inv X pins σ H s->RelV x v->r x H Q ->
  wpAny (model X.prog X.w) X.A (f v) (EP X pins σ Q) X.xe s
noncomputable def bo (X:Cx) (f:Value) (r:List V->Hp->VK->Prop):Prop :=
 ∀(pins:List (Addr×Obj)) (s:Shared) (σ:St) (H:Hp) (xs:List V) (us:List Value) (Q:VK),Inv X pins σ H s->ak xs us->r xs H Q ->
  wpAny (model X.prog X.w) X.A (call f us) (EP X pins σ Q) X.xe s
noncomputable def tOp (r:R2) (ta tb:TE):TE:=fun σ H Q=>ta σ H fun x H1=>tb σ H1 fun y H2=>r x y H2 Q
noncomputable def tUn (r:V->Hp->VK->Prop) (ta:TE):TE:=fun σ H Q=>ta σ H fun x H1=>r x H1 Q
noncomputable def rI (C:Int->Int->Prop) (g:Int->Int->V):R2:=fun x y H Q=>∃i j,x=.int i/\y=.int j/\C i j/\Q (g i j) H
noncomputable def rI0 (g:Int->Int->V):R2:=fun x y H Q=>∃i j,x=.int i/\y=.int j/\Q (g i j) H
noncomputable def rU (g:Int->V):V->Hp->VK->Prop:=fun x H Q=>∃i,x=.int i/\Q (g i) H
section
variable {X:Cx}{a b c:Expr}{ta tb tc:TE}{pos:Pos}
theorem iT (ha:PE X a ta) (hb:PE X b tb) {pins:List (Addr×Obj)}{s:Shared}{σ:St}{H:Hp}{R:V->V->Hp->Prop} (I:Inv X pins σ H s)
  (h:ta σ H fun x H1=>tb σ H1 fun y H2=>R x y H2) {Q:Value->Shared->Prop}{f:Value->Value->Sem Value}
  (hf:∀v u s2 x y H2,Inv X pins σ H2 s2->RelV x v->RelV y u->R x y H2->wpAny (model X.prog X.w) X.A (f v u) Q X.xe s2) :
  wpAny (model X.prog X.w) X.A (eval a X.env) (fun v s₁=>wpAny (model X.prog X.w) X.A (eval b X.env) (fun u s₂=>wpAny (model X.prog X.w) X.A (f v u) Q X.xe s₂) X.xe s₁) X.xe s:=by
 refine thn (ha pins s σ H _ I h) fun v s1 ⟨x,H1,I1,r1,q1⟩=>?_
 refine thn (hb pins s1 σ H1 _ I1 q1) fun u s2 ⟨y,H2,I2,r2,q2⟩=>?_
 exact hf v u s2 x y H2 I2 r1 r2 q2
theorem aH {op:Operator}{r:R2} (ho:OpR X (binaryOp op) r) (ha:PE X a ta) (hb:PE X b tb):PE X (.BinOp a op b pos) (tOp r ta tb):=by
 intro pins s σ H Q I h
 exact wpAny_BinOp (iT ha hb I h fun v u s2 x y H2 I2 rx ry q=>ho pins s2 σ H2 x y v u Q I2 rx ry q)
theorem vy {op:UnaryOp}{r:V->Hp->VK->Prop} (ho:UnR X (unaryOp op) r) (ha:PE X a ta):PE X (.UnaryOp op a pos) (tUn r ta):=by
 intro pins s σ H Q I h
 exact UnaryOp_ (thn (ha pins s σ H _ I h) fun v s1 ⟨x,H1,I1,r1,q1⟩=>ho pins s1 σ H1 x v Q I1 r1 q1)
theorem opI {f:Value->Value->Sem Value}{C:Int->Int->Prop}{g:Int->Int->Int}
  (rule:∀(i j:Int) (t u:Tok) (s:Shared) (Q:Value->Shared->Prop) (E:Value->Shared->Prop),C i j->Q (.int (g i j) s.toks) { s with toks:=s.toks + 1 }->wpAny (model X.prog X.w) X.A (f (.int i t) (.int j u)) Q E s) :
  OpR X f (rI C fun i j=>.int (g i j)):=by
 intro pins s σ H x y v u Q I rx ry h
 obtain⟨i,j,rfl,rfl,hc,q⟩:=h
 obtain⟨t,rfl⟩:=rx
 obtain⟨t',rfl⟩:=ry
 exact rule i j t t' s _ _ hc ⟨.int (g i j),H,I.tok _,⟨_,rfl⟩,q⟩
theorem mV {f:Value->Value->Sem Value}{g:Int->Int->Int}
  (rule:∀(i j:Int) (t u:Tok) (s:Shared) (Q:Value->Shared->Prop) (E:Value->Shared->Prop),Q (.int (g i j) s.toks) { s with toks:=s.toks + 1 }->wpAny (model X.prog X.w) X.A (f (.int i t) (.int j u)) Q E s) :
  OpR X f (rI0 fun i j=>.int (g i j)):=by
 intro pins s σ H x y v u Q I rx ry h
 obtain⟨i,j,rfl,rfl,q⟩:=h
 obtain⟨t,rfl⟩:=rx
 obtain⟨t',rfl⟩:=ry
 exact rule i j t t' s _ _ ⟨.int (g i j),H,I.tok _,⟨_,rfl⟩,q⟩
theorem iS {f:Value->Value->Sem Value}{g:Int->Int->Bool}
  (rule:∀(i j:Int) (t u:Tok) (s:Shared) (Q:Value->Shared->Prop) (E:Value->Shared->Prop),Q (.bool (g i j)) s->wpAny (model X.prog X.w) X.A (f (.int i t) (.int j u)) Q E s) :
  OpR X f (rI0 fun i j=>.bl (g i j)):=by
 intro pins s σ H x y v u Q I rx ry h
 obtain⟨i,j,rfl,rfl,q⟩:=h
 obtain⟨t,rfl⟩:=rx
 obtain⟨t',rfl⟩:=ry
 exact rule i j t t' s _ _ ⟨.bl (g i j),H,I,rfl,q⟩
noncomputable def vY (i j:Int):Prop:=0 < j/\j < 1073741824
noncomputable def vW (i j:Int):Prop:=0<=j/\j<=1000000/\i.natAbs < 2 ^ 64
noncomputable def iQ (i j:Int):Prop:=(-(2 ^ 64) < i/\i < 2 ^ 64)\/(-(2 ^ 64) < j/\j < 2 ^ 64)
theorem iQ.ok {i j:Int} (h:iQ i j):IntMulOk i j:=by
 rcases h with ⟨h1,h2⟩ | ⟨h1,h2⟩
 ·exact .of_left (intBits_le_64 h1 h2)
 ·exact .of_right (intBits_le_64 h1 h2)
theorem cL:OpR X (binaryOp .Add) (rI0 fun i j=>.int (i + j)):=mV fun _ _ _ _ _ _ _ q=>add_int q
theorem ir:OpR X (binaryOp .Sub) (rI0 fun i j=>.int (i - j)):=mV fun _ _ _ _ _ _ _ q=>sub_int q
theorem iC:OpR X (binaryOp .Mult) (rI iQ fun i j=>.int (i * j)):=opI fun _ _ _ _ _ _ _ hc q=>mul_int q hc.ok
theorem kH:OpR X (binaryOp .FloorDiv) (rI vY fun i j=>.int (i / j)):=opI fun i j _ _ _ _ _ hc q=>by
 have h1:(0:Int) < j:=hc.1
 have h2:j < 1073741824:=hc.2
 exact floordiv_int (by omega) (by rw [Int.fdiv_eq_ediv_of_nonneg i (by omega)];exact q) (.inl (PyProof.noPylong_small (by omega)))
theorem eN:OpR X (binaryOp .Mod) (rI (fun _ j=>0 < j) fun i j=>.int (i % j)):=opI fun i j _ _ _ _ _ hc q=>by
 have h1:(0:Int) < j:=hc
 exact mod_int' (by omega) (by rw [Int.fmod_eq_emod_of_nonneg i (by omega)];exact q)
theorem sY:OpR X (binaryOp .Pow) (rI vW fun i j=>.int (i ^ j.toNat)):=opI fun _ _ _ _ _ _ _ hc q=>pow_int_small hc.1 hc.2.1 hc.2.2 q
theorem unI {f:Value->Sem Value}{g:Int->Int}
  (rule:∀(i:Int) (t:Tok) (s:Shared) (Q:Value->Shared->Prop) (E:Value->Shared->Prop),Q (.int (g i) s.toks) { s with toks:=s.toks + 1 }->wpAny (model X.prog X.w) X.A (f (.int i t)) Q E s) :
  UnR X f (rU fun i=>.int (g i)):=by
 intro pins s σ H x v Q I rx h
 obtain⟨i,rfl,q⟩:=h
 obtain⟨t,rfl⟩:=rx
 exact rule i t s _ _ ⟨.int (g i),H,I.tok _,⟨_,rfl⟩,q⟩
theorem ud:UnR X (unaryOp .USub) (rU fun i=>.int (-i)):=unI fun _ _ _ _ _ q=>neg_int q
end
noncomputable def mZ:V->V->Bool
 | .non,.non=>true | .non,.int _=>true | .int _,.non=>true | .non,.bl _=>true | .bl _,.non=>true | .non,.str _=>true | .str _,.non=>true
 | .int _,.int _=>true | .bl _,.bl _=>true | .str _,.str _=>true | .byt _,.byt _=>true
 | .int _,.str _=>true | .str _,.int _=>true | .bl _,.str _=>true | .str _,.bl _=>true
 | _,_=>false
noncomputable def rEq:R2:=fun x y H Q=>mZ x y=true/\Q (.bl (decide (x=y))) H
noncomputable def rNe:R2:=fun x y H Q=>mZ x y=true/\Q (.bl (!decide (x=y))) H
theorem lq {i j:Int}:decide (V.int i=V.int j)=(i == j):=by
 rw [Bool.eq_iff_iff]
 simp
theorem l7 {i j:Bool}:decide (V.bl i=V.bl j)=(i == j):=by
 rw [Bool.eq_iff_iff]
 simp
theorem kJ {i j:Str}:decide (V.str i=V.str j)=(i == j):=by
 rw [Bool.eq_iff_iff]
 simp
theorem lb {i j:Array UInt8}:decide (V.byt i=V.byt j)=(i.toList == j.toList):=by
 rw [Bool.eq_iff_iff]
 cases i
 cases j
 simp
section
variable {X:Cx}{a b c:Expr}{ta tb tc:TE}{pos:Pos}
theorem aT {pins:List (Addr×Obj)}{σ:St}{H:Hp}{s:Shared}{Q:VK}{k k':Bool} (I:Inv X pins σ H s) (q:Q (.bl k) H) (e:k=k'):EP X pins σ Q (.bool k') s:=by
 subst e
 exact⟨.bl k,H,I,rfl,q⟩
theorem cO:OpR X (compareOp .Eq) rEq:=by
 intro pins s σ H x y v u Q I rx ry h
 obtain⟨hs,q⟩:=h
 cases x with
 | non =>
  cases rx
  cases y with
  | non=>cases ry;exact PySem.EqNone.eq_none_none (aT I q (by simp))
  | bl j=>cases ry;exact PySem.EqNone.eq_none_bool (aT I q (by simp))
  | int j=>obtain⟨t',rfl⟩:=ry;exact PySem.EqNone.eq_none_int (aT I q (by simp))
  | str j=>obtain⟨t',rfl⟩:=ry;exact PySem.EqNone.eq_none_str (aT I q (by simp))
  | _=>exact absurd (show false=true from hs) Bool.false_ne_true
 | bl i =>
  cases rx
  cases y with
  | non=>cases ry;exact PySem.EqNone.eq_bool_none (aT I q (by simp))
  | bl j=>cases ry;exact eq_bool (aT I q l7)
  | str j=>obtain⟨t',rfl⟩:=ry;exact PySem.EqMixed.eq_bool_str (aT I q (by simp))
  | _=>exact absurd (show false=true from hs) Bool.false_ne_true
 | int i =>
  obtain⟨t,rfl⟩:=rx
  cases y with
  | non=>cases ry;exact PySem.EqNone.eq_int_none (aT I q (by simp))
  | int j=>obtain⟨t',rfl⟩:=ry;exact eq_int (aT I q lq)
  | str j=>obtain⟨t',rfl⟩:=ry;exact PySem.EqMixed.eq_int_str (aT I q (by simp))
  | _=>exact absurd (show false=true from hs) Bool.false_ne_true
 | str i =>
  obtain⟨t,rfl⟩:=rx
  cases y with
  | non=>cases ry;exact PySem.EqNone.eq_str_none (aT I q (by simp))
  | bl j=>cases ry;exact PySem.EqMixed.eq_str_bool (aT I q (by simp))
  | int j=>obtain⟨t',rfl⟩:=ry;exact PySem.EqMixed.eq_str_int (aT I q (by simp))
  | str j=>obtain⟨t',rfl⟩:=ry;exact eq_str (aT I q kJ)
  | _=>exact absurd (show false=true from hs) Bool.false_ne_true
 | byt i =>
  obtain⟨t,rfl⟩:=rx
  cases y with
  | byt j=>obtain⟨t',rfl⟩:=ry;exact PySem.W.eq_bytes (aT I q lb)
  | _=>exact absurd (show false=true from hs) Bool.false_ne_true
 | _=>cases y <;> exact absurd (show false=true from hs) Bool.false_ne_true
theorem bI:OpR X (compareOp .NotEq) rNe:=by
 intro pins s σ H x y v u Q I rx ry h
 obtain⟨hs,q⟩:=h
 cases x with
 | non =>
  cases rx
  cases y with
  | non=>cases ry;exact PySem.EqNone.ne_none_none (aT I q (by simp))
  | bl j=>cases ry;exact PySem.EqNone.ne_none_bool (aT I q (by simp))
  | int j=>obtain⟨t',rfl⟩:=ry;exact PySem.EqNone.ne_none_int (aT I q (by simp))
  | str j=>obtain⟨t',rfl⟩:=ry;exact PySem.EqNone.ne_none_str (aT I q (by simp))
  | _=>exact absurd (show false=true from hs) Bool.false_ne_true
 | bl i =>
  cases rx
  cases y with
  | non=>cases ry;exact PySem.EqNone.ne_bool_none (aT I q (by simp))
  | bl j=>cases ry;exact ne_bool (aT I q (congrArg not l7))
  | str j=>obtain⟨t',rfl⟩:=ry;exact PySem.EqMixed.ne_bool_str (aT I q (by simp))
  | _=>exact absurd (show false=true from hs) Bool.false_ne_true
 | int i =>
  obtain⟨t,rfl⟩:=rx
  cases y with
  | non=>cases ry;exact PySem.EqNone.ne_int_none (aT I q (by simp))
  | int j=>obtain⟨t',rfl⟩:=ry;exact ne_int (aT I q (congrArg not lq))
  | str j=>obtain⟨t',rfl⟩:=ry;exact PySem.EqMixed.ne_int_str (aT I q (by simp))
  | _=>exact absurd (show false=true from hs) Bool.false_ne_true
 | str i =>
  obtain⟨t,rfl⟩:=rx
  cases y with
  | non=>cases ry;exact PySem.EqNone.ne_str_none (aT I q (by simp))
  | bl j=>cases ry;exact PySem.EqMixed.ne_str_bool (aT I q (by simp))
  | int j=>obtain⟨t',rfl⟩:=ry;exact PySem.EqMixed.ne_str_int (aT I q (by simp))
  | str j=>obtain⟨t',rfl⟩:=ry;exact ne_str (aT I q (congrArg not kJ))
  | _=>exact absurd (show false=true from hs) Bool.false_ne_true
 | byt i =>
  obtain⟨t,rfl⟩:=rx
  cases y with
  | byt j=>obtain⟨t',rfl⟩:=ry;exact PySem.W.ne_bytes (aT I q (congrArg not lb))
  | _=>exact absurd (show false=true from hs) Bool.false_ne_true
 | _=>cases y <;> exact absurd (show false=true from hs) Bool.false_ne_true
theorem mK:OpR X (compareOp .Lt) (rI0 fun i j=>.bl (decide (i < j))):=iS fun _ _ _ _ _ _ _ q=>lt_int q
theorem mR:OpR X (compareOp .LtE) (rI0 fun i j=>.bl (decide (i<=j))):=iS fun _ _ _ _ _ _ _ q=>le_int q
theorem gc:OpR X (compareOp .Gt) (rI0 fun i j=>.bl (decide (j < i))):=iS fun _ _ _ _ _ _ _ q=>gt_int q
theorem oZ:OpR X (compareOp .Lt) (fun x y H Q=>∃i j,x=.str i/\y=.str j/\Q (.bl (decide (i.cps.toList < j.cps.toList))) H):=by
 intro pins s σ H x y v u Q I rx ry h
 obtain⟨i,j,rfl,rfl,q⟩:=h
 obtain⟨t,rfl⟩:=rx
 obtain⟨t',rfl⟩:=ry
 exact lt_str (aT I q rfl)
theorem aN (b:Expr) {op:CmpOp} (h:op≠.In:=by decide) (h2:op≠.NotIn:=by decide):behindInMarks op b=false:=by
 have e1:(op == CmpOp.In)=false:=by cases op <;> first | rfl | exact absurd rfl h
 have e2:(op == CmpOp.NotIn)=false:=by cases op <;> first | rfl | exact absurd rfl h2
 cases b <;> simp [behindInMarks,e1,e2]
theorem dE {op:CmpOp}{r:R2} (ho:OpR X (compareOp op) r) (ha:PE X a ta) (hb:PE X b tb) (hm:behindInMarks op b=false):PE X (.Compare a [op] [b] pos) (tOp r ta tb):=by
 intro pins s σ H Q I h
 exact wpAny_Compare1 (iT ha hb I h fun v u s2 x y H2 I2 rx ry q=>ho pins s2 σ H2 x y v u Q I2 rx ry q) hm
noncomputable def mQ (t:TE):TT:=fun σ H Q=>t σ H fun x H'=>∃k,x=.bl k/\Q k H'
theorem aV {op:CmpOp}{r:R2} (ho:OpR X (compareOp op) r) (ha:PE X a ta) (hb:PE X b tb) (hm:behindInMarks op b=false):PT X (.Compare a [op] [b] pos) (mQ (tOp r ta tb)):=by
 intro pins s σ H Q I h
 refine wpAny_isTrue_Compare1 (thn (ha pins s σ H _ I h) fun v s1 ⟨x,H1,I1,r1,q1⟩=>thn (hb pins s1 σ H1 _ I1 q1) fun u s2 ⟨y,H2,I2,r2,q2⟩ =>
  thn (ho pins s2 σ H2 x y v u _ I2 r1 r2 q2) fun c s3 ⟨z,H3,I3,r3,k,e,q3⟩=>?_) hm
 subst e
 cases r3
 exact wpAny_truthy_bool ⟨H3,I3,q3⟩
noncomputable def lW (r r':R2) (ta tb tc:TE):TE:=fun σ H Q=>ta σ H fun x H1=>tb σ H1 fun y H2=>r x y H2 fun z H3=>∃k,z=.bl k /\
 (if k=true then tc σ H3 fun w' H4=>r' y w' H4 Q else Q (.bl false) H3)
theorem pI {op op':CmpOp}{r r':R2} (ho:OpR X (compareOp op) r) (ho':OpR X (compareOp op') r') (ha:PE X a ta) (hb:PE X b tb) (hc:PE X c tc)
  (hm:lastMarks [op,op'] [b,c]=false:=by with_unfolding_all rfl):PE X (.Compare a [op,op'] [b,c] pos) (lW r r' ta tb tc):=by
 intro pins s σ H Q I h
 refine Compare_chain (thn (ha pins s σ H _ I h) fun v s1 ⟨x,H1,I1,r1,q1⟩=>chain_link (thn (hb pins s1 σ H1 _ I1 q1) fun u s2 ⟨y,H2,I2,r2,q2⟩ =>
  thn (ho pins s2 σ H2 x y v u _ I2 r1 r2 q2) fun d s3 ⟨z,H3,I3,r3,k,e,q3⟩=>?_)) hm
 subst e
 cases r3
 refine wpAny_truthy_bool ?_
 cases k with
 | false=>exact ite_ff ⟨.bl false,H3,I3,rfl,q3⟩
 | true=>exact ite_tt (chain_last (thn (hc pins s3 σ H3 _ I3 q3) fun w' s4 ⟨z',H4,I4,r4,q4⟩=>ho' pins s4 σ H4 y z' u w' Q I4 r2 r4 q4))
theorem pQ {op op':CmpOp}{r r':R2} (ho:OpR X (compareOp op) r) (ho':OpR X (compareOp op') r') (ha:PE X a ta) (hb:PE X b tb) (hc:PE X c tc)
  (hm:lastMarks [op,op'] [b,c]=false:=by with_unfolding_all rfl):PT X (.Compare a [op,op'] [b,c] pos) (mQ (lW r r' ta tb tc)):=by
 intro pins s σ H Q I h
 refine isTrue_chain (thn (ha pins s σ H _ I h) fun v s1 ⟨x,H1,I1,r1,q1⟩=>test_link (thn (hb pins s1 σ H1 _ I1 q1) fun u s2 ⟨y,H2,I2,r2,q2⟩ =>
  thn (ho pins s2 σ H2 x y v u _ I2 r1 r2 q2) fun d s3 ⟨z,H3,I3,r3,k,e,q3⟩=>?_)) hm
 subst e
 cases r3
 refine wpAny_truthy_bool ?_
 cases k with
 | false =>
  obtain⟨k',e',q'⟩:=q3
  cases e'
  exact ite_ff ⟨H3,I3,q'⟩
 | true =>
  refine ite_tt (test_last (thn (hc pins s3 σ H3 _ I3 q3) fun w' s4 ⟨z',H4,I4,r4,q4⟩=>thn (ho' pins s4 σ H4 y z' u w' _ I4 r2 r4 q4) fun d' s5 ⟨z2,H5,I5,r5,k2,e2,q5⟩=>?_))
  subst e2
  cases r5
  exact wpAny_truthy_bool ⟨H5,I5,q5⟩
theorem c9:(sizeLine:Nat) < 2 ^ 63:=by rw [sizeLine_eq];decide
theorem gv:OpR X (binaryOp .Add) (fun x y H Q=>∃i j,x=.str i/\y=.str j/\i.length + j.length<=sizeLine/\Q (.str (i++j)) H):=by
 intro pins s σ H x y v u Q I rx ry h
 obtain⟨i,j,rfl,rfl,hz,q⟩:=h
 obtain⟨t,rfl⟩:=rx
 obtain⟨t',rfl⟩:=ry
 exact add_str (fun t' tk=>⟨.str (i++j),H,I.tok _,⟨_,rfl⟩,q⟩) hz
theorem vals1 {x:V}{us:List Value} (r:ak [x] us):∃u,us=[u]/\RelV x u:=by
 cases r with
 | cons r1 r2=>cases r2;exact⟨_,rfl,r1⟩
theorem vals2 {x y:V}{us:List Value} (r:ak [x,y] us):∃u w',us=[u,w']/\RelV x u/\RelV y w':=by
 cases r with
 | cons r1 r2 =>
  cases r2 with
  | cons r3 r4=>cases r4;exact⟨_,_,rfl,r1,r3⟩
theorem ju (hc:X.calm=true):bo X (.builtin "max") (fun xs H Q=>∃i j,xs=[.int i,.int j]/\Q (.int (if j > i then j else i)) H):=by
 intro pins s σ H xs us Q I r h
 obtain⟨i,j,rfl,q⟩:=h
 obtain⟨u,w',rfl,⟨t,rfl⟩,⟨t',rfl⟩⟩:=vals2 r
 refine max_two_ints (I.ok.hd hc) fun h' tk k=>⟨_,H,I.kept k,?_,q⟩
 by_cases hj:j > i
 ·rw [if_pos hj,if_pos hj];exact⟨_,rfl⟩
 ·rw [if_neg hj,if_neg hj];exact⟨_,rfl⟩
theorem pE (hc:X.calm=true):bo X (.builtin "min") (fun xs H Q=>∃i j,xs=[.int i,.int j]/\Q (.int (if j < i then j else i)) H):=by
 intro pins s σ H xs us Q I r h
 obtain⟨i,j,rfl,q⟩:=h
 obtain⟨u,w',rfl,⟨t,rfl⟩,⟨t',rfl⟩⟩:=vals2 r
 refine min_two_ints (I.ok.hd hc) fun h' tk k=>⟨_,H,I.kept k,?_,q⟩
 by_cases hj:j < i
 ·rw [if_pos hj,if_pos hj];exact⟨_,rfl⟩
 ·rw [if_neg hj,if_neg hj];exact⟨_,rfl⟩
theorem nD:bo X (.type "str") (fun xs H Q=>∃i,xs=[.int i]/\i.natAbs.log2 < 1920/\Q (.str (toString i)) H):=by
 intro pins s σ H xs us Q I r h
 obtain⟨i,rfl,hz,q⟩:=h
 obtain⟨u,rfl,t,rfl⟩:=vals1 r
 exact PySem.P.str_of_int hz ⟨.str _,H,I.tok _,⟨_,rfl⟩,q⟩
end
structure i4 (h:Heap) (x dx C:Addr) (mA:Str->Option Value):Prop where
 obj:h.get? x=some (PySem.W.instObj C dx)
 ns:h.Ns1 dx mA
 ne:dx≠x
theorem pe {h:Heap}{dx:Addr}{mA:Str->Option Value} (n:h.Ns1 dx mA):∃od,h.get? dx=some od/\∀name,PySem.W.lookIn name od=some (mA name):=by
 obtain⟨o,es,ep,ho,hd,hk,_,hm⟩:=n
 refine⟨o,ho,fun name=>?_⟩
 have e:=hm name
 unfold nsFind findBy at e
 rw [<- Array.find?_toList] at e
 unfold PySem.W.lookIn
 rw [hd]
 dsimp only
 split
 ·rename_i y q
  rw [q] at e
  exact congrArg some e
 ·rename_i q
  rw [q] at e
  have a:es.toList.any (·.refKey)=false:=by
   rw [List.any_eq_false]
   intro y hy
   obtain⟨z,t,hkey⟩:=hk y (Array.mem_toList_iff.mp hy)
   simp [DictEntry.refKey,hkey]
  have a':¬ es.toList.any (·.refKey)=true:=by rw [a];exact Bool.false_ne_true
  rw [if_neg a']
  exact congrArg some e
theorem i4.look {h:Heap}{x dx C:Addr}{mA:Str->Option Value} (I:i4 h x dx C mA):∃od,PySem.W.InstAt h x (PySem.W.instObj C dx) C (some od)/\∀name,PySem.W.lookIn name od=some (mA name) :=
 let ⟨od,ho,hl⟩:=pe I.ns
 ⟨od,⟨I.obj,rfl,rfl,ho⟩,hl⟩
section
variable {prog:Program}{w:World}{A:Around}{E:Value->Shared->Prop}{s:Shared}{K:PySem.W.Frag}{x dx C f:Addr}{mA:Str->Option Value}{name:Str}{v:Value}
end
theorem b6.some_of {v:V}{o:Option Value} (r:b6 (some v) o):∃u,o=some u/\RelV v u:=by
 cases o with
 | none=>exact (show False from r).elim
 | some u=>exact⟨u,rfl,r⟩
section
variable {P:Program}{w:World}{H H':Hp}{h h':Heap}{a C dx:Addr}{fs fs':List (Str×V)}
theorem qJ (hok:HOk P w H h) (e:H a=some (.ins C dx fs)):∃mA,i4 h a dx C mA/\(∀f,b6 (fs.lookup f) (mA f))/\PySem.Within mA (fs.map (·.1))/\fs.length<=1000/\H dx=some (.own a):=by
 obtain⟨d,z,ne,ob,mA,n,r,q⟩:=(show aA P w H h a (.ins C dx fs) from hok a _ e)
 exact⟨mA,⟨ob,n,ne⟩,r,q,z,d⟩
end
structure Cls (K:PySem.W.Frag) (C:Addr):Prop where
 pg:PySem.W.plainGet K C Str.empty=true
 hd:PySem.W.hasDictIn K C=true
 po:PySem.W.plainOver K C=true
 sa:PySem.W.findIn K (.ref C) "__setattr__"=some (some (.builtin "object.__setattr__"))
theorem Cls.get {K:PySem.W.Frag}{C:Addr} (c:Cls K C) (f:Str):PySem.W.plainGet K C f=true:=c.pg
structure Con (K:PySem.W.Frag) (C:Addr) (f:Str) (v:V) (u:Value):Prop where
 at_:PySem.W.findIn K (.ref C) f=some (some u)
 rel:RelV v u
 get:PySem.W.specialIn K u "__get__"=some none
 cp:PySem.W.copiedNames.contains f=false
structure wF (K:PySem.W.Frag) (C:Addr) (m:Str) (f:Addr):Prop where
 at_:PySem.W.findIn K (.ref C) m=some (some (.ref f))
 fn:PySem.W.isFn K (.ref f)=true
 kp:PySem.W.keepIn K (.ref f)=true
section
variable {X:Cx}{pins:List (Addr×Obj)}{σ:St}{H:Hp}{s:Shared}{a C dx:Addr}{fs:List (Str×V)}{f:Str}{v:V}{A:Around}{E:Value->Shared->Prop}
end
section
variable {X:Cx}{o e value:Expr}{f:Str}{pos pos' tpos:Pos}{ta tv:TE}
end
section
variable {X:Cx}{pins:List (Addr×Obj)}{σ:St}{H:Hp}{s:Shared}{A:Around}{E:Value->Shared->Prop}{Q:Value->Shared->Prop}{c:Value}{b:Bool}
inductive bS (K:PySem.W.Frag) (H:Hp):V->Value->Prop where
 | non:bS K H .non (.type "NoneType")
 | bl (x:Bool):bS K H (.bl x) (.type "bool")
 | int (i:Int):bS K H (.int i) (.type "int")
 | str (x:Str):bS K H (.str x) (.type "str")
 | flt (x:UInt64):bS K H (.flt x) (.type "float")
 | lst {a:Addr}{xs:List V} (e:H a=some (.lst xs)):bS K H (.ref a) (.type "list")
 | frz {a:Addr}{o:Obj}{xs:List V} (e:H a=some (.frz o (.lst xs))):bS K H (.ref a) (.type "list")
 | tup {a:Addr}{xs:List V} (e:H a=some (.tup xs)):bS K H (.ref a) (.type "tuple")
 | dK {a:Addr}{kvs:List (Key×V)} (e:H a=some (.dK kvs)):bS K H (.ref a) (.type "dict")
 | dT {a:Addr}{kvs:List (List Key×V)} (e:H a=some (.dT kvs)):bS K H (.ref a) (.type "dict")
 | ins {a C dx:Addr}{fs:List (Str×V)} (e:H a=some (.ins C dx fs)) (cl:Cls K C) (ha:PySem.W.findIn K (.ref C) "__class__"=some (some (.builtin "object.__class__")))
   (hn:PySem.W.specialIn K (.builtin "object.__class__") "__get__"=some (some (.builtin "getset_descriptor.__get__"))) (htk:PySem.W.takesIn K (.builtin "object.__class__")=some true)
   (hm:PySem.W.mroIn K C (.type "object")=some true):bS K H (.ref a) (.ref C)
theorem oX {x:V}{u t:Value} (I:Inv X pins σ H s) (rx:RelV x u) (ty:bS X.K H x t) (e:PySem.W.kitOne X.K t c=some b) (h:∀tk,Q (.bool b) { s with toks:=tk }) :
  wpAny (model X.prog X.w) A (call (.builtin "isinstance") [u,c]) Q E s:=by
 cases ty with
 | non=>cases (show u=Value.none from rx);exact PySem.W.kia_one PySem.W.kitx_none I.kIn True.intro e (fun z=>nomatch z) h
 | bl y=>cases (show u=Value.bool y from rx);exact PySem.W.kia_one PySem.W.kitx_bool I.kIn True.intro e (fun z=>nomatch z) h
 | int i=>obtain⟨t,q⟩:=(show ∃t,u=Value.int i t from rx);cases q;exact PySem.W.kia_one PySem.W.kitx_int I.kIn True.intro e (fun z=>nomatch z) h
 | str y=>obtain⟨t,q⟩:=(show ∃t,u=Value.str y t from rx);cases q;exact PySem.W.kia_one PySem.W.kitx_str I.kIn True.intro e (fun z=>nomatch z) h
 | flt y=>obtain⟨t,q⟩:=(show ∃t,u=Value.float y t from rx);cases q;exact PySem.W.kia_one PySem.W.kitx_float I.kIn True.intro e (fun z=>nomatch z) h
 | @lst a xs ea =>
  cases (show u=Value.ref a from rx)
  obtain⟨_,_,n,_,h1⟩:=(show aA X.prog X.w H s.heap a (.lst xs) from I.hok a _ ea)
  exact PySem.W.kia_one PySem.W.kitx_list I.kIn ⟨_,h1,rfl⟩ e (fun z=>nomatch z) h
 | @frz a ob xs ea =>
  cases (show u=Value.ref a from rx)
  obtain⟨_,_,_,n,_,h1⟩:=(show aA X.prog X.w H s.heap a (.frz ob (.lst xs)) from I.hok a _ ea)
  exact PySem.W.kia_one PySem.W.kitx_list I.kIn ⟨_,h1,rfl⟩ e (fun z=>nomatch z) h
 | @tup a xs ea =>
  cases (show u=Value.ref a from rx)
  obtain⟨_,_,_,p⟩:=(show aA X.prog X.w H s.heap a (.tup xs) from I.hok a _ ea)
  obtain⟨o,h1,h2,_⟩:=p
  exact PySem.W.kia_one PySem.W.kitx_tuple I.kIn ⟨o,h1,h2⟩ e (fun z=>nomatch z) h
 | @dK a kvs ea =>
  cases (show u=Value.ref a from rx)
  obtain⟨_,_,vs,_,p⟩:=(show aA X.prog X.w H s.heap a (.dK kvs) from I.hok a _ ea)
  obtain⟨o,es,ep,h1,h2,_⟩:=p
  exact PySem.W.kia_one PySem.W.kitx_dict I.kIn ⟨o,h1,h2.1⟩ e (fun z=>nomatch z) h
 | @dT a kvs ea =>
  cases (show u=Value.ref a from rx)
  obtain⟨_,_,xs,_,o,es,ep,h1,h2,_⟩:=(show aA X.prog X.w H s.heap a (.dT kvs) from I.hok a _ ea)
  exact PySem.W.kia_one PySem.W.kitx_dict I.kIn ⟨o,h1,h2.1⟩ e (fun z=>nomatch z) h
 | @ins a C dx fs ea cl ha hn htk hm =>
  cases (show u=Value.ref a from rx)
  obtain⟨mA,O,_⟩:=qJ I.hok ea
  obtain⟨od,J,_⟩:=O.look
  exact PySem.W.kia_one (PySem.W.kitx_own (cl.get _) cl.hd ha hn htk hm) I.kIn J e (fun z=>nomatch z) h
end
structure aL (k:Nat) (A:Around):Prop where
 hd:A.handled=none
 dp:A.depth + 3 * k + 5 < recursionLimit
 un:A.units + 16 * k + 200 < cLine
 gd:A.guards=some []
theorem aL.mono {j k:Nat}{A:Around} (r:aL k A) (h:j<=k):aL j A:=⟨r.hd,by have:=r.dp;omega,by have:=r.un;omega,r.gd⟩
theorem aL.deeper {k:Nat}{A:Around} (r:aL (k + 1) A) (env:Env):aL k (A.deeper env) :=
 ⟨r.hd,by have:=r.dp;show A.depth + 1 + 3 * k + 5 < _;omega,by have:=r.un;show A.units + 3 + 16 * k + 200 < _;omega,r.gd⟩
theorem aL.depth {k:Nat}{A:Around} (r:aL k A):A.depth < recursionLimit:=by have:=r.dp;omega
theorem aL.units {k:Nat}{A:Around} (r:aL k A):A.units + 64 < cLine:=by have:=r.un;omega
noncomputable def vF:TA:=fun _ H Q=>Q [] H
noncomputable def vg (ta:TE) (tr:TA):TA:=fun σ H Q=>ta σ H fun x H1=>tr σ H1 fun xs H2=>Q (x::xs) H2
section
variable {X:Cx}{e:Expr}{es:List Expr}{te:TE}{t:TA}{pos:Pos}
theorem ag:PA X [] vF:=fun _ _ _ _ H Q I h=>Calls.spliced_nil ⟨[],H,I,.nil,h⟩
theorem aa (ha:PE X e te) (hr:PA X es t) (hs:starEach (e::es) X.env=(false,eval e X.env)::starEach es X.env:=by rfl):PA X (e::es) (vg te t):=by
 intro pos pins s σ H Q I h
 rw [hs]
 show wpAny _ _ (spliced ((false,eval e X.env)::backTo pos (starEach es X.env))) _ _ s
 refine Calls.spliced_cons (thn (ha pins s σ H _ I h) fun u s1 ⟨x,H1,I1,r1,q1⟩=>?_)
 exact thn (hr pos pins s1 σ H1 _ I1 q1) fun us s2 ⟨xs,H2,I2,r2,q2⟩=>⟨x::xs,H2,I2,.cons r1 r2,q2⟩
noncomputable def v2 (t:TA):TE:=fun σ H Q=>t σ H fun xs H1=>xs.length<=sizeLine/\∀p,H1 p=none->Q (.ref p) (upd H1 p (.tup xs))
noncomputable def vB (t:TA):TE:=fun σ H Q=>t σ H fun xs H1=>xs.length<=sizeLine/\∀p,H1 p=none->Q (.ref p) (upd H1 p (.lst xs))
theorem bz {x1} (h:PA X es t):PE X (.Tuple es x1 pos) (v2 t):=by
 intro pins s σ H Q I hq
 refine wpAny_Tuple_spliced (thn (h pos pins s σ H _ I hq) fun us s1 ⟨xs,H1,I1,r,z,q⟩=>⟨by rw [<- r.length];exact z,?_⟩)
 have hf:H1 s1.heap.objs.size=none:=I1.hok.fresh (Nat.le_refl _)
 refine⟨.ref s1.heap.objs.size,upd H1 s1.heap.objs.size (.tup xs),I1.laid (t':=s1.toks) (fun b u e=>Heap.get?_push_of_some _ e) (Nat.le_refl _) ?_,rfl,q _ hf⟩
 exact⟨z,us,r,⟨_,Heap.get?_push_size _ rfl,rfl,_,rfl⟩⟩
theorem bL (h:PA X es t):PE X (.List es pos) (vB t):=by
 intro pins s σ H Q I hq
 refine wpAny_List_spliced (thn (h pos pins s σ H _ I hq) fun us s1 ⟨xs,H1,I1,r,z,q⟩=>⟨by rw [<- r.length];exact z,?_⟩)
 have hf:H1 s1.heap.objs.size=none:=I1.hok.fresh (Nat.le_refl _)
 refine⟨.ref s1.heap.objs.size,upd H1 s1.heap.objs.size (.lst xs),I1.laid (t':=s1.toks) (fun b u e=>Heap.get?_push_of_some _ e) (Nat.le_refl _) ?_,rfl,q _ hf⟩
 exact⟨z,us,0,r,Heap.get?_push_size _ rfl⟩
end
noncomputable abbrev Sp:=List V->Hp->VK->XK->Prop
noncomputable abbrev CXT:=List Env->Hp->Shared->XK->Value->Shared->Prop
structure dU (P:Program) (w:World) (K:PySem.W.Frag) (mg:Str->Option Value) (base:Heap) (A:Around) (outer:List Env) (s:Shared) (H:Hp):Prop where
 frames:A.frames=some outer
 mod:Mod K mg base
 bs:∀b o,base.get? b=some o->s.heap.get? b=some o/\H b=none
 bsz:base.objs.size<=s.heap.objs.size
 funs:s.heap.FunFrames base outer
 frf:∀b∈frs outer,H b=none
 hok:HOk P w H s.heap
 bare:AllBare s.gens
noncomputable def CE (outer:List Env) (P:Program) (w:World) (H:Hp) (s:Shared) (Q:VK) (u:Value) (s':Shared):Prop :=
 ∃v H',s'.os=s.os/\AllBare s'.gens/\Un (frs outer) [] H H' s.heap s'.heap/\HOk P w H' s'.heap/\RelV v u/\Q v H'
noncomputable def CR (CX:CXT) (outer:List Env) (P:Program) (w:World) (H:Hp) (s:Shared) (Q:VK) (E:XK) (r:Result) (s':Shared):Prop :=
 match r with
 | .ok (.ret u)=>CE outer P w H s Q u s'
 | .ok _=>False
 | .error e=>CX outer H s E e s'
structure aG (P:Program) (w:World) (K:PySem.W.Frag) (mg:Str->Option Value) (base:Heap) (CX:CXT) (k:Nat) (f:Addr) (fd:FuncData) (ps:List Str) (sp:Sp):Prop where
 len:∀vs H Q E,sp vs H Q E->vs.length=ps.length
 run:∀(A:Around) (outer:List Env) (s:Shared) (H:Hp) (args:Args) (us:List Value) (vs:List V) (Q:VK) (E:XK),aL k A->dU P w K mg base A outer s H->BindsTo s fd args (ps.zip us)->ak vs us->sp vs H Q E ->
  codeAny (model P w) A (.call (.ref f) args) (CR CX outer P w H s Q E) s
section
variable {X:Cx}{pins:List (Addr×Obj)}{σ:St}{H:Hp}{s s':Shared}
theorem Inv.env0 (I:Inv X pins σ H s):dU X.prog X.w X.K X.mg X.base X.A X.stack s H :=
 ⟨I.ok.frames,I.ok.mod,I.bs,Nat.le_trans I.ok.bsz I.sz,I.stack,I.stkFree,I.hok,I.bare⟩
theorem Inv.after {Q:VK}{u:Value} (I:Inv X pins σ H s) (h:CE X.stack X.prog X.w H s Q u s'):EP X pins σ Q u s':=by
 obtain⟨v,H',os,bare,un,hok,r,q⟩:=h
 obtain⟨hh,g,d,t,os'⟩:=s'
 obtain rfl:os'=s.os:=os
 exact⟨v,H',I.call (h':=hh) (g':=g) (d':=d) (t':=t) (ch:=[]) un hok bare (fun b z=>absurd z (by simp)),r,q⟩
end
noncomputable def mw (sp:Sp) (dvs:List V) (E:XK) (t:TA):TE:=fun σ H Q=>t σ H fun vs H1=>sp (vs++dvs) H1 Q E
noncomputable def Binds (K:PySem.W.Frag) (fd:FuncData) (ps:List Str) (ds:List Value):Prop :=
 ∀(s:Shared) (us:List Value),K.In s.heap->(us++ds).length=ps.length->BindsTo s fd ⟨us,[]⟩ (ps.zip (us++ds))
theorem Binds.all {K:PySem.W.Frag}{fd:FuncData}{ps:List Str} (h:∀us:List Value,us.length=ps.length->bindArgs fd ⟨us,[]⟩=pure (ps.zip us)):Binds K fd ps []:=fun s us _ hl=>by
 rw [List.append_nil] at hl ⊢
 exact .of_eq (h us hl)
noncomputable def iw (CX:CXT) (X:Cx) (E:XK):Prop:=∀(pins:List (Addr×Obj)) (σ:St) (H:Hp) (s:Shared) (e:Value) (s':Shared),Inv X pins σ H s->CX X.stack H s E e s'->X.xe e s'
section
variable {X:Cx}{CX:CXT}{k:Nat}{f C:Addr}{fd:FuncData}{ps:List Str}{sp:Sp}{dvs:List V}{ds:List Value}{E:XK}{x m:Str}{p pos apos:Pos}{e o:Expr}{es:List Expr}{ta:TE}{t:TA}
theorem ux {pins:List (Addr×Obj)}{σ:St}{H:Hp}{s:Shared}{Q:VK}{us:List Value}{vs:List V} (F:aG X.prog X.w X.K X.mg X.base CX k f fd ps sp) (hr:aL k X.A) (hb:Binds X.K fd ps ds) (hd:ak dvs ds) (hx:iw CX X E)
  (I:Inv X pins σ H s) (r:ak vs us) (h:sp (vs++dvs) H Q E):wpAny (model X.prog X.w) X.A (call (.ref f) us) (EP X pins σ Q) X.xe s:=by
 have r2:ak (vs++dvs) (us++ds):=r.append hd
 have hl:(us++ds).length=ps.length:=by rw [<- r2.length];exact F.len _ _ _ _ h
 refine wpAny_call (codeAny_mono (F.run X.A X.stack s H ⟨us,[]⟩ (us++ds) (vs++dvs) Q E hr I.env0 (hb s us I.kIn hl) r2 h) fun r s' hq=>?_)
 cases r with
 | error e=>exact hx pins σ H s e s' I hq
 | ok fl =>
  cases fl with
  | ret u=>exact I.after hq
  | next=>exact False.elim hq
  | brk=>exact False.elim hq
  | cont=>exact False.elim hq
theorem rB (F:aG X.prog X.w X.K X.mg X.base CX k f fd ps sp) (hr:aL k X.A) (hg:Gl X x) (hm:X.mg x=some (.ref f)) (hk:PySem.W.keepIn X.K (.ref f)=true) (hb:Binds X.K fd ps ds) (hd:ak dvs ds) (hx:iw CX X E)
  (ha:PA X (e::es) t) (hdb:(x == ("__debug__":Str))=false:=by decide) (he:starEach (e::es) X.env=(false,eval e X.env)::starEach es X.env:=by rfl) (hpl:(backTo pos (starEach es X.env)).any (·.1)=false:=by rfl) :
  PE X (.Call (.Name x p) (e::es) [] pos) (mw sp dvs E t):=by
 intro pins s σ H Q I h
 refine wpAny_Call_Name_kw (eJ I hg hm ?_ hdb)
 refine PySem.W.callWith_K (h₀:=X.base) I.ok.mod.kin hk (thn (ha pos pins s σ H _ I h) fun us s1 ⟨vs,H1,I1,r,q⟩=>⟨I1.kIn,?_⟩) he hpl
 exact ux F hr hb hd hx I1 r q
structure Mk (K:PySem.W.Frag) (C f:Addr):Prop where
 makes:PySem.W.makesIn K C=true
 init:PySem.W.findIn K (.ref C) "__init__"=some (some (.ref f))
 fn:PySem.W.isFn K (.ref f)=true
 kp:PySem.W.keepIn K (.ref C)=true
end
section
variable {X:Cx}{CX:CXT}{k:Nat}{f C:Addr}{fd:FuncData}{ps ks:List Str}{sp:Sp}{E:XK}{x m:Str}{p pos apos kpos:Pos}{e o:Expr}{es:List Expr}{kws:List Keyword}{te ta:TE}{t tk:TA}{nm:Option Str}
structure wq (K:PySem.W.Frag) (fd:FuncData) (ps ks:List Str) (g:List Value->List Value->List Value) (gV:List V->List V->List V):Prop where
 to:∀(s:Shared) (us ws:List Value),K.In s.heap->(g us ws).length=ps.length->BindsTo s fd ⟨us,ks.zip ws⟩ (ps.zip (g us ws))
 rel:∀{vs:List V}{us:List Value}{zs:List V}{ws:List Value},ak vs us->ak zs ws->ak (gV vs zs) (g us ws)
variable {g:List Value->List Value->List Value}{gV:List V->List V->List V}
end
structure aQ (N P:List Str) (sc:Scope):Prop where
 kind:sc.kind=.function
 co:sc.isCoroutine=false
 gen:sc.isGenerator=false
 nd:N.Nodup
 pre:N.take P.length=P
 par:∀x∈P,sc.names.lookup x=some .local\/sc.names.lookup x=some .cell
 nofree:∀y∈sc.names,y.2≠.free
theorem ji {kindOf:Str->Option NameKind}{x:Str}:∀{binds:List (Str×Value)}{m:Str->Option Value},(∀v,(x,v)∉binds)->bindL kindOf binds m x=m x
 | [],_,_=>rfl
 | (n,v)::r,m,h=>by
  unfold bindL
  rw [ji fun w hw=>h w (List.mem_cons_of_mem _ hw)]
  split
  ·have:x≠n:=by rintro rfl;exact h v List.mem_cons_self
   simp [this]
  ·rfl
theorem jI {kindOf:Str->Option NameKind}{x:Str}:∀{binds:List (Str×Value)}{m:Str->Option Value},(∀v,(x,v)∉binds)->bindC kindOf binds m x=m x
 | [],_,_=>rfl
 | (n,v)::r,m,h=>by
  unfold bindC
  rw [jI fun w hw=>h w (List.mem_cons_of_mem _ hw)]
  split
  ·rfl
  ·have:x≠n:=by rintro rfl;exact h v List.mem_cons_self
   simp [this]
theorem jz {kindOf:Str->Option NameKind}{x:Str}{v:Value}:∀{P:List Str}{vs:List Value}{i:Nat}{m:Str->Option Value},P.Nodup->P[i]?=some x->vs[i]?=some v->kindOf x=some .local ->
  bindL kindOf (P.zip vs) m x=some v
 | [],_,_,_,_,h,_,_=>by simp at h
 | _::_,[],_,_,_,_,h,_=>by simp at h
 | p::P,w::vs,0,m,nd,h1,h2,hk=>by
  simp at h1 h2;subst h1;subst h2
  show bindL kindOf ((p,w)::P.zip vs) m p=_
  unfold bindL
  rw [ji fun v hv=>(List.nodup_cons.mp nd).1 (List.of_mem_zip hv).1,if_pos hk]
  simp
 | p::P,w::vs,i + 1,m,nd,h1,h2,hk=>by
  show bindL kindOf ((p,w)::P.zip vs) m x=_
  unfold bindL
  exact jz (i:=i) (List.nodup_cons.mp nd).2 (by simpa using h1) (by simpa using h2) hk
theorem jo {kindOf:Str->Option NameKind}{x:Str}{v:Value}:∀{P:List Str}{vs:List Value}{i:Nat}{m:Str->Option Value},P.Nodup->P[i]?=some x->vs[i]?=some v->kindOf x≠some .local ->
  bindC kindOf (P.zip vs) m x=some v
 | [],_,_,_,_,h,_,_=>by simp at h
 | _::_,[],_,_,_,_,h,_=>by simp at h
 | p::P,w::vs,0,m,nd,h1,h2,hk=>by
  simp at h1 h2;subst h1;subst h2
  show bindC kindOf ((p,w)::P.zip vs) m p=_
  unfold bindC
  rw [jI fun v hv=>(List.nodup_cons.mp nd).1 (List.of_mem_zip hv).1,if_neg hk]
  simp
 | p::P,w::vs,i + 1,m,nd,h1,h2,hk=>by
  show bindC kindOf ((p,w)::P.zip vs) m x=_
  unfold bindC
  exact jo (i:=i) (List.nodup_cons.mp nd).2 (by simpa using h1) (by simpa using h2) hk
noncomputable def start (N:List Str) (vs:List V):St:=vs.map some++List.replicate (N.length - vs.length) none
noncomputable def bR (CX:CXT) (P:Program) (w:World) (K:PySem.W.Frag) (mg:Str->Option Value) (base:Heap) (N:List Str) (qual:Str) (scope:Scope) (f:Addr) (cd:Value) (A:Around) (outer:List Env) (s:Shared) (H:Hp) (E:XK):Cx where
 prog:=P
 w:=w
 K:=K
 mg:=mg
 base:=base
 A:=A.deeper (envOfC qual scope s.heap.objs.size f cd)
 N:=N
 s₀:=s
 H₀:=H
 env:=envOfC qual scope s.heap.objs.size f cd
 outer:=outer
 stack:=envOfC qual scope s.heap.objs.size f cd::outer
 ex:=[]
 calm:=true
 fn:=fun _=>true
 pn:=[]
 xe:=fun e s'=>wpAny (model P w) (A.deeper (envOfC qual scope s.heap.objs.size f cd)) (leaving (envOfC qual scope s.heap.objs.size f cd) e) (fun _ s''=>CX outer H s E e s'') (fun e' s''=>CX outer H s E e' s'') s'
theorem kh {sc:Scope}{n:Nat}{x:Str} (h:sc.names.lookup x=some .cell):∃c,(cellsFrom n sc.names []).lookup x=some c:=by
 have q:=PySem.W.cellsFrom_some sc.names n [] (.inl h)
 exact Option.isSome_iff_exists.mp q
theorem px {CX:CXT}{P:Program}{w:World}{K:PySem.W.Frag}{mg:Str->Option Value}{base:Heap}{N ps:List Str}{qual:Str}{scope:Scope}{f:Addr}{cd:Value}{A:Around}{outer:List Env}{s s1:Shared}{H:Hp}{E:XK}{us:List Value}{vs:List V}
  (S:aQ N ps scope) (hd:A.handled=none) (e0:dU P w K mg base A outer s H) (hl:vs.length=ps.length) (r:ak vs us)
  (x:InCallC s s.heap.objs.size (bindL (envOfC qual scope s.heap.objs.size f cd).kindOf (ps.zip us) fun _=>none) (cellsFrom (s.heap.objs.size + 1) scope.names []) (bindC (envOfC qual scope s.heap.objs.size f cd).kindOf (ps.zip us) fun _=>none) s1) :
  Inv (bR CX P w K mg base N qual scope f cd A outer s H E) [] (start N vs) H s1:=by
 have hpl:ps.length<=N.length:=by have:=congrArg List.length S.pre;rw [List.length_take] at this;omega
 obtain⟨h1,tk,rfl,hk⟩:=x.done
 have noA:∀b:Addr,b∉(bR CX P w K mg base N qual scope f cd A outer s H E).ex:=fun b z=>absurd (show b∈([]:List Addr) from z) (by simp)
 refine⟨⟨e0.mod,S.kind,rfl,rfl,Nat.le_refl _,fun y z c h1 h2=>?_,fun y hy=>?_,fun y c _ h=>?_,fun _=>hd,Around.frames_deeper e0.frames,.inr ⟨rfl,rfl⟩,fun b z=>absurd z (noA b),e0.bs,e0.bsz,fun b _ _=>noA b,fun b z=>absurd z (noA b),e0.funs,e0.frf⟩,
  rfl,e0.bare,Un.kept hk,⟨_,x.toInCall.ns,fun i y v h1 h2 h3=>?_⟩,fun y c h=>⟨_,x.cell y c h⟩,e0.hok.fresh (Nat.le_refl _),fun y c h=>?_,fun p hp=>absurd (show p∈([]:List (Addr×Obj)) from hp) (by simp),e0.hok.kept hk,?_⟩
 ·exact name_of_addr x.apart (PySem.mem_of_lookup h1) (PySem.mem_of_lookup h2)
 ·have hy:scope.names.lookup y=some .cell\/scope.names.lookup y=some .free:=hy
  rcases hy with hy | hy
  ·exact kh hy
  ·exact absurd rfl (S.nofree _ (PySem.mem_of_lookup hy))
 ·exact Nat.le_of_lt (x.above y c (PySem.mem_of_lookup h))
 ·have hi:i < vs.length:=by
   unfold start at h2
   by_cases hi:i < vs.length
   ·exact hi
   ·rw [List.getElem?_append_right (by simpa using hi)] at h2
    rw [List.getElem?_replicate] at h2
    split at h2 <;> cases h2
  have ha:vs[i]?=some v:=by
   unfold start at h2
   rw [List.getElem?_append_left (by simpa using hi),List.getElem?_map] at h2
   cases e:vs[i]? with
   | none=>rw [e] at h2;cases h2
   | some a=>rw [e] at h2;cases h2;rfl
  obtain⟨u,hu,rv⟩:=r.get ha
  have hp:ps[i]?=some y:=by
   rw [<- S.pre,List.getElem?_take_of_lt (by omega)];exact h1
  have ndP:ps.Nodup:=by rw [<- S.pre];exact S.nd.sublist (List.take_sublist _ _)
  refine⟨u,rv,?_⟩
  rcases S.par y (List.mem_of_getElem? hp) with k | k
  ·exact .inl ⟨k,jz ndP hp hu k⟩
  ·obtain⟨c,e⟩:=kh (n:=s.heap.objs.size + 1) k
   refine .inr ⟨.inl k,c,e,?_⟩
   have q:=x.cell y c e
   rw [jo ndP hp hu (by show scope.names.lookup y≠_;rw [k];decide)] at q
   exact q
 ·exact e0.hok.fresh (Nat.le_of_lt (x.above y c (PySem.mem_of_lookup h)))
 ·unfold start
  show _=N.length
  rw [List.length_append,List.length_map,List.length_replicate]
  omega
theorem mh {CX:CXT}{P:Program}{w:World}{K:PySem.W.Frag}{mg:Str->Option Value}{base:Heap}{k:Nat}{f:Addr}{name qual:Str}{params:Arguments}{body:List Stmt}{scope:Scope}{dV kV doc pm cdv ct oc:Value}{an od:Option Addr}
  {osl:Array (Option Value)}{N ps:List Str}{sp:Sp} (lk:K.lookup f=some ⟨oc,od,.func (PySem.W.fnOf name qual params body scope dV kV doc pm an cdv ct),osl⟩) (hcd:PySem.W.codeIn K cdv qual=true) (S:aQ N ps scope)
  (len:∀vs H Q E,sp vs H Q E->vs.length=ps.length)
  (hbody:∀(A:Around) (outer:List Env) (s:Shared) (H:Hp) (vs:List V) (Q:VK) (E:XK),aL k (A.deeper (envOfC qual scope s.heap.objs.size f cdv))->sp vs H Q E ->
   ∃t,PSs (bR CX P w K mg base N qual scope f cdv A outer s H E) body t/\t { nx:=fun _ H'=>Q .non H',rt:=Q } (start N vs) H) :
  aG P w K mg base CX (k + 1) f (PySem.W.fnOf name qual params body scope dV kV doc pm an cdv ct) ps sp:=by
 refine⟨len,fun A outer s H args us vs Q E hr e0 hb r hsp=>?_⟩
 have hl:=len _ _ _ _ hsp
 have KX:K.In s.heap:=e0.mod.kin.keeps fun b o e=>(e0.bs b o e).1
 have lim:s.heap.NoLimit:=e0.mod.nolimit.keeps fun b o e=>(e0.bs b o e).1
 have hkind:∀y∈ps.zip us,scope.names.lookup y.1=some .local\/(scope.names.lookup y.1=some .cell/\((cellsFrom (s.heap.objs.size + 1) scope.names []).lookup y.1).isSome=true):=fun ⟨n,v⟩ hy=>by
  rcases S.par n (List.of_mem_zip hy).1 with q | q
  ·exact .inl q
  ·exact .inr ⟨q,PySem.W.cellsFrom_some _ _ _ (.inl q)⟩
 refine codeAny_call_function hr.depth (KX _ _ lk) rfl S.co S.gen rfl (PySem.W.codeRec_of KX hcd) (hb _ _ _ _ ?_)
 refine wpAny_newFunctionEnv_cells S.kind hkind fun env he s1 x=>?_
 subst he
 refine⟨lim.keeps x.toInCall.keep,codeAny_func ?_⟩
 obtain⟨t,ht,hq⟩:=hbody A outer s H vs Q E (hr.deeper _) hsp
 have I:Inv (bR CX P w K mg base N qual scope f cdv A outer s H E) [] (start N vs) H s1:=px S hr.hd e0 hl r x
 refine wpAny_mono (ht [] s1 (start N vs) H _ I hq) (fun fl s' hs=>?_) fun e s' hs=>hs
 have fin:∀{σ':St}{H':Hp}{v:V}{u:Value},Inv (bR CX P w K mg base N qual scope f cdv A outer s H E) [] σ' H' s'->RelV v u->Q v H'->CE outer P w H s Q u s' :=
  fun {σ' H' v u} J rv q=>⟨v,H',J.os,J.bare,J.base,J.hok,rv,q⟩
 cases fl with
 | ret u =>
  obtain⟨v,σ',H',J,rv,q⟩:=hs
  exact fin J rv q
 | next =>
  obtain⟨σ',H',J,q⟩:=hs
  exact fin (v:=V.non) (u:=Value.none) J rfl q
 | brk =>
  obtain⟨_,_,_,q⟩:=hs
  exact False.elim q
 | cont =>
  obtain⟨_,_,_,q⟩:=hs
  exact False.elim q
section
variable {X:Cx}{x:Str}{p pos:Pos}{e:Expr}{es:List Expr}{t:TA}{id T:String}{r:List V->Hp->VK->Prop}
noncomputable def tCB (r:List V->Hp->VK->Prop) (t:TA):TE:=fun σ H Q=>t σ H fun vs H1=>r vs H1 Q
theorem aD (hc:bo X (.builtin id) r) (hg:Gl X x) (hm:X.mg x=none) (hv:bootBuiltins x=some (.builtin id)) (ha:PA X (e::es) t) (hn:x≠"__name__":=by decide) (hdb:(x == ("__debug__":Str))=false:=by decide)
  (he:starEach (e::es) X.env=(false,eval e X.env)::starEach es X.env:=by rfl) (hpl:(backTo pos (starEach es X.env)).any (·.1)=false:=by rfl):PE X (.Call (.Name x p) (e::es) [] pos) (tCB r t):=by
 intro pins s σ H Q I h
 refine wpAny_Call_Name_kw (cI I hg hm hv ?_ hn hdb)
 exact PyProof.Rows.callWith_builtin1 (thn (ha pos pins s σ H _ I h) fun us s1 ⟨vs,H1,I1,r1,q1⟩=>hc pins s1 σ H1 vs us Q I1 r1 q1) he hpl
theorem cm (hc:bo X (.type T) r) (hg:Gl X x) (hm:X.mg x=none) (hv:bootBuiltins x=some (.type T)) (ha:PA X (e::es) t) (hn:x≠"__name__":=by decide) (hdb:(x == ("__debug__":Str))=false:=by decide)
  (he:starEach (e::es) X.env=(false,eval e X.env)::starEach es X.env:=by rfl) (hpl:(backTo pos (starEach es X.env)).any (·.1)=false:=by rfl):PE X (.Call (.Name x p) (e::es) [] pos) (tCB r t):=by
 intro pins s σ H Q I h
 refine wpAny_Call_Name_kw (cI I hg hm hv ?_ hn hdb)
 exact PyProof.Rows.callWith_type1 (thn (ha pos pins s σ H _ I h) fun us s1 ⟨vs,H1,I1,r1,q1⟩=>hc pins s1 σ H1 vs us Q I1 r1 q1) he hpl
end
end L2
namespace HT
open PySem PyProof.Rows
section
open PySem.SeqAt
open PySem.AutoSeq1 (wpAny_loadPart')
open PySem.MeetsSeq PySem.MeetsSeq2 PySem.MeetsSeq3
end
section
variable {prog:Program}{w:World}{A:Around}{E:Value->Shared->Prop}{s:Shared}
theorem wf {t b:Addr}{vs ws:List Value}{Q:Value->Shared->Prop} (ht:IsTup s.heap t vs.toArray) (hb:IsTup s.heap b ws.toArray) (hv:vs≠[])
  (h1:ws=[]->Q (.ref t) s) (h2:ws≠[]->Q (.ref s.heap.objs.size) { s with heap:=s.heap.push { cls:=.type "tuple",data:=.seq (vs++ws).toArray } })
  (hsz:vs.length + ws.length<=sizeLine):wpAny (model prog w) A (binaryOp .Add (.ref t) (.ref b)) Q E s:=by
 obtain⟨⟨cls,dd,data,sl⟩,ho,hc,n,hd⟩:=id ht
 obtain⟨⟨cls2,dd2,data2,sl2⟩,ho2,hc2,n2,hd2⟩:=id hb
 simp only at hc hd hc2 hd2
 subst hc hd hc2 hd2
 have e:vs.toArray++ws.toArray=(vs++ws).toArray:=by simp
 by_cases hw:ws=[]
 ·exact concat_meets ⟨_,ho,rfl⟩ ⟨_,ho2,rfl⟩ noFill_tuple_add seq_tuple_add PySem.F.slot_tuple_add PySem.F.entry_tuple_add (PySem.F.args_tuple_add_2 _ _)
   (tuple_addW1 t b vs.toArray ws.toArray n n2 dd dd2 sl sl2 (by simpa using hv) (by simp [hw])) ⟨ho,ho2,h1 hw⟩
 ·refine concat_meets ⟨_,ho,rfl⟩ ⟨_,ho2,rfl⟩ noFill_tuple_add seq_tuple_add PySem.F.slot_tuple_add PySem.F.entry_tuple_add (PySem.F.args_tuple_add_2 _ _)
   (tuple_addW2 t b vs.toArray ws.toArray n n2 dd dd2 sl sl2 (by simpa using hv) (by simpa using hw) (by rw [List.size_toArray,List.size_toArray];exact hsz)) ⟨ho,ho2,?_⟩
  rw [e]
  exact h2 hw
noncomputable def sIx (n d:Nat):Option Int->Nat
 | none=>d
 | some v=>if v < 0 then (v + (n:Int)).toNat else min v.toNat n
theorem wc (n d:Nat):sIx n d none=d:=rfl
theorem wj (n d k:Nat):sIx n d (some (k:Int))=min k n:=by
 show (if (k:Int) < 0 then ((k:Int) + (n:Int)).toNat else min (k:Int).toNat n)=min k n
 rw [if_neg (by omega),Int.toNat_natCast]
theorem tO (n d:Nat) (hd:d<=n) (o:Option Int):sIx n d o<=n:=by
 cases o with
 | none=>exact hd
 | some v =>
  show (if v < 0 then (v + (n:Int)).toNat else min v.toNat n)<=n
  by_cases hv:v < 0
  ·rw [if_pos hv];omega
  ·rw [if_neg hv];exact Nat.min_le_right _ _
theorem kI (v:Int) (n d:Nat):(if v < 0 then max (v + (n:Int)) 0 else min v (n:Int))=((sIx n d (some v):Nat):Int):=by
 show (if v < 0 then max (v + (n:Int)) 0 else min v (n:Int))=(((if v < 0 then (v + (n:Int)).toNat else min v.toNat n):Nat):Int)
 by_cases hv:v < 0
 ·simp only [if_pos hv];omega
 ·simp only [if_neg hv];omega
theorem oh (lo hi:Option Int) (n:Nat):Builtin.Slice.sliceAdjust lo hi 1 (n:Int)=(((sIx n 0 lo:Nat):Int),((sIx n n hi:Nat):Int)):=by
 have h1:¬ ((1:Int) < 0):=by omega
 unfold Builtin.Slice.sliceAdjust
 simp only [h1,if_false]
 refine Prod.ext ?_ ?_
 ·cases lo with
  | none=>rfl
  | some v=>exact kI v n 0
 ·cases hi with
  | none=>rfl
  | some v=>exact kI v n n
theorem ou (i j:Nat):Builtin.Slice.slicePlaces (i:Int) (j:Int) 1=j - i:=by
 unfold Builtin.Slice.slicePlaces
 have h1:(1:Int) > 0:=by omega
 simp only [h1,if_true,Int.ediv_one]
 split <;> omega
theorem jg {v:Value}{o:Option Int}{Q:Option Int->Shared->Prop} (p:IsPart v o) (h:Q o s):wpAny (model prog w) A (Builtin.Slice.slicePartIndex v) Q E s:=by
 cases p with
 | none=>exact slicePart_none h
 | int i t=>exact slicePart_int h
theorem nt {sl:Addr}{vl vu:Value}{lo hi:Option Int}{n:Nat}{Q:Int×Int×Nat->Shared->Prop} (hs:s.heap.IsSliceOf sl vl vu .none) (pl:IsPart vl lo) (pu:IsPart vu hi)
  (h:Q (((sIx n 0 lo:Nat):Int),1,sIx n n hi - sIx n 0 lo) s):wpAny (model prog w) A (Builtin.Slice.sliceApplied (.ref sl) (pure (n:Int))) Q E s:=by
 obtain⟨os,hos,hcs,hds⟩:=id hs
 unfold Builtin.Slice.sliceApplied Builtin.Slice.sliceFields
 refine wpAny_bind (wpAny_bind (wpAny_field hos hds (x:=vl) rfl (wpAny_bind (wpAny_field hos hds (x:=vu) rfl (wpAny_bind (wpAny_field hos hds (x:=.none) rfl (wpAny_pure ?_)))))))
 refine wpAny_bind (slicePart_none ?_)
 show wpAny _ _ (if ((1:Int) == 0)=true then _ else _) _ _ s
 rw [if_neg (by decide)]
 refine wpAny_bind (jg pl (wpAny_bind (jg pu (wpAny_bind (wpAny_pure ?_)))))
 show wpAny _ _ (match Builtin.Slice.sliceAdjust lo hi 1 (n:Int) with | (lo,hi)=>pure (lo,(1:Int),Builtin.Slice.slicePlaces lo hi 1)) _ _ s
 rw [oh lo hi n]
 show wpAny _ _ (pure (((sIx n 0 lo:Nat):Int),(1:Int),Builtin.Slice.slicePlaces ((sIx n 0 lo:Nat):Int) ((sIx n n hi:Nat):Int) 1)) _ _ s
 rw [ou]
 exact wpAny_pure h
theorem p7 (xs:Array Value) (i k:Nat):((List.range k).filterMap fun (m:Nat)=>xs[((i:Int) + (m:Int) * 1).toNat]?).toArray=((xs.toList.drop i).take k).toArray:=by
 have e:(fun (m:Nat)=>xs[((i:Int) + (m:Int) * 1).toNat]?)=fun m=>xs[i + m]?:=by
  funext m
  have:((i:Int) + (m:Int) * 1).toNat=i + m:=by omega
  rw [this]
 rw [e]
 have:=pick_run xs i k
 rw [List.filterMap_map] at this
 have e2:((fun x=>xs[x]?) ∘ fun x=>i + x)=fun m=>xs[i + m]?:=rfl
 rw [e2] at this
 rw [this]
theorem v9 {t sl:Addr}{items:Array Value}{vl vu:Value}{lo hi:Option Int}{Q:Value->Shared->Prop} (ht:IsTup s.heap t items) (hs:s.heap.IsSliceOf sl vl vu .none) (pl:IsPart vl lo) (pu:IsPart vu hi)
  (hw:¬ (sIx items.size 0 lo=0/\sIx items.size items.size hi=items.size))
  (h:Q (.ref s.heap.objs.size) { s with heap:=s.heap.push { cls:=.type "tuple",data:=.seq ((items.toList.drop (sIx items.size 0 lo)).take (sIx items.size items.size hi - sIx items.size 0 lo)).toArray } })
  (hsz:items.size<=sizeLine):wpAny (model prog w) A (getItem (.ref t) (.ref sl)) Q E s:=by
 have htake:sizeOk (.seq ((items.toList.drop (sIx items.size 0 lo)).take (sIx items.size items.size hi - sIx items.size 0 lo)).toArray):=by
  show ((items.toList.drop (sIx items.size 0 lo)).take (sIx items.size items.size hi - sIx items.size 0 lo)).toArray.size<=sizeLine
  rw [List.size_toArray,List.length_take,List.length_drop,Array.length_toList]
  omega
 have hj:sIx items.size items.size hi<=items.size:=tO _ _ (Nat.le_refl _) hi
 obtain⟨os,hos,hcs,hds⟩:=id hs
 have hTs:s.TypeIs (.ref sl) "slice":=⟨os,hos,hcs⟩
 unfold getItem
 try with_reducible refine wpAny_holding ?_
 first | refine wpAny_bind (wpAny_pure ?_) | skip
 refine wpAny_bind (wpAny_sequenceKey ht.typeIs (by decide) ?_)
 refine wpAny_bind (wpAny_callSpecial?_slot (name:=Str.ofString "__getitem__") ht.typeIs PyProof.Rows.slot_tuple_getitem
  (wpAny_call_entry PyProof.Rows.slot_tuple_getitem ht.typeIs entry_tuple_getitem ?_ (args_tuple_getitem _ _)))
 show wpAny _ _ (Builtin.Tuple.tupleItemsOf (.ref t) >>= _) _ _ s
 refine wpAny_bind (tupleItemsOf_ ht ?_)
 refine wpAny_bind (wpAny_typeOf hTs ?_)
 rw [if_pos (by decide)]
 refine wpAny_bind (nt hs pl pu ?_)
 have hno:¬ ((((sIx items.size 0 lo:Nat):Int) == 0 && (1:Int) == 1 && (sIx items.size items.size hi - sIx items.size 0 lo) == items.size)=true):=by
  intro q
  rw [Bool.and_eq_true,Bool.and_eq_true] at q
  have q1:((sIx items.size 0 lo:Nat):Int)=0:=eq_of_beq q.1.1
  have q2:sIx items.size items.size hi - sIx items.size 0 lo=items.size:=eq_of_beq q.2
  exact hw ⟨by omega,by omega⟩
 show wpAny _ _ (if (((sIx items.size 0 lo:Nat):Int) == 0 && (1:Int) == 1 && (sIx items.size items.size hi - sIx items.size 0 lo) == items.size)=true then _ else _) _ _ s
 rw [if_neg hno,p7]
 first
  | exact wpAny_bind (m:=Builtin.Tuple.tupleExact _) (wpAny_newObj_type (wpAny_pure ⟨_,rfl,wpAny_pure h⟩) htake)
  | exact wpAny_bind (m:=Builtin.Tuple.tupleExact _) (wpAny_newObj_type (wpAny_bind (wpAny_pure (wpAny_pure ⟨_,rfl,wpAny_pure h⟩))) htake)
  | exact wpAny_bind (wpAny_bind (m:=Builtin.Tuple.tupleExact _) (wpAny_newObj_type (wpAny_pure (wpAny_pure ⟨_,rfl,wpAny_pure h⟩)) htake))
  | exact wpAny_bind (wpAny_bind (m:=Builtin.Tuple.tupleExact _) (wpAny_newObj_type (wpAny_pure ⟨_,rfl,wpAny_pure h⟩) htake))
end
end HT
namespace L2
open PySem PySem.Spec PyProof.Rows
noncomputable abbrev TO:=St->Hp->(Option Int->Hp->Prop)->Prop
noncomputable def PO (X:Cx) (e:Option Expr) (t:TO):Prop :=
 ∀(pins:List (Addr×Obj)) (s:Shared) (σ:St) (H:Hp) (Q:Option Int->Hp->Prop),Inv X pins σ H s->t σ H Q ->
  wpAny (model X.prog X.w) X.A (evalPart e X.env) (fun u s'=>∃o H',Inv X pins σ H' s'/\IsPart u o/\Q o H') X.xe s
noncomputable def sk:TO:=fun _ H Q=>Q none H
noncomputable def vv (t:TE):TO:=fun σ H Q=>t σ H fun x H1=>∃i,x=.int i/\Q (some i) H1
section
variable {X:Cx}{e:Expr}{te:TE}{lo hi:Option Expr}{tl th:TO}{pos p2:Pos}
theorem cX:PO X none sk:=by
 intro pins s σ H Q I h
 rw [evalPart_none]
 exact wpAny_pure ⟨none,H,I,.none,h⟩
theorem cZ (h:PE X e te):PO X (some e) (vv te):=by
 intro pins s σ H Q I hw
 rw [evalPart_some]
 refine thn (h pins s σ H _ I hw) fun u s1 ⟨x,H1,I1,r1,q1⟩=>?_
 obtain⟨i,rfl,q⟩:=q1
 obtain⟨t,rfl⟩:=r1
 exact⟨some i,H1,I1,.int i t,q⟩
noncomputable def SlR (X:Cx) (r:V->Option Int->Option Int->Hp->VK->Prop):Prop :=
 ∀(pins:List (Addr×Obj)) (s:Shared) (σ:St) (H:Hp) (x:V) (v vl vu:Value) (lo hi:Option Int) (sl:Addr) (Q:VK),Inv X pins σ H s->RelV x v->s.heap.IsSliceOf sl vl vu .none->IsPart vl lo->IsPart vu hi->r x lo hi H Q ->
  ∃T id,typeLookup (.type T) "__getitem__"=pure (some (.builtin id))/\s.TypeIs v T/\wpAny (model X.prog X.w) X.A (getItem v (.ref sl)) (EP X pins σ Q) X.xe s
noncomputable def tSl (r:V->Option Int->Option Int->Hp->VK->Prop) (te:TE) (tl th:TO):TE:=fun σ H Q=>te σ H fun x H1=>tl σ H1 fun l H2=>th σ H2 fun u H3=>r x l u H3 Q
theorem cW {r:V->Option Int->Option Int->Hp->VK->Prop} (hr:SlR X r) (he:PE X e te) (hl:PO X lo tl) (hu:PO X hi th):PE X (.Subscript e (.Slice lo hi none p2) pos) (tSl r te tl th):=by
 intro pins s σ H Q I h
 refine Subscript_ (thn (he pins s σ H _ I h) fun v s1 ⟨x,H1,I1,r1,q1⟩=>?_)
 refine wpAny_Slice (thn (hl pins s1 σ H1 _ I1 q1) fun vl s2 ⟨l,H2,I2,pl,q2⟩=>thn (hu pins s2 σ H2 _ I2 q2) fun vu s3 ⟨u,H3,I3,pu,q3⟩=>?_)
 rw [evalPart_none]
 refine wpAny_pure ?_
 have I4:Inv X pins σ H3 { s3 with heap:=s3.heap.push { cls:=.type "slice",data:=.fields #[vl,vu,.none] } }:=I3.kept (t':=s3.toks) fun b ob q=>Heap.get?_push_of_some _ q
 obtain⟨T,id,hT,ht,hg⟩:=hr pins { s3 with heap:=s3.heap.push { cls:=.type "slice",data:=.fields #[vl,vu,.none] } } σ H3 x v vl vu l u s3.heap.objs.size Q I4 r1 (Heap.IsSliceOf.new ..) pl pu q3
 show wpAny (model X.prog X.w) X.A (subscriptTail e (.Slice lo hi none p2) v (.ref s3.heap.objs.size)) (EP X pins σ Q) X.xe { s3 with heap:=s3.heap.push { cls:=.type "slice",data:=.fields #[vl,vu,.none] } }
 exact tail_any (ops:=[.ref s3.heap.objs.size,v]) ht hT hg (by with_unfolding_all rfl)
noncomputable def bD (xs:List V) (lo hi:Option Int):List V:=(xs.drop (HT.sIx xs.length 0 lo)).take (HT.sIx xs.length xs.length hi - HT.sIx xs.length 0 lo)
theorem jc (xs:List V) (lo hi:Option Int):(bD xs lo hi).length<=xs.length:=by
 unfold bD
 rw [List.length_take,List.length_drop]
 omega
noncomputable def v3 (K:PySem.W.Frag):V->Option Int->Option Int->Hp->VK->Prop:=fun x lo hi H Q=>∃a xs,x=.ref a/\SqT K H a xs /\
 ¬ (HT.sIx xs.length 0 lo=0/\HT.sIx xs.length xs.length hi=xs.length)/\∀p,H p=none->Q (.ref p) (upd H p (.tup (bD xs lo hi)))
theorem tL:SlR X (v3 X.K):=by
 intro pins s σ H x v vl vu lo hi sl Q I rx hs pl pu h
 obtain⟨a,xs,rfl,hx,hw,q⟩:=h
 cases rx
 obtain⟨its,r,ht,hz⟩:=I.tuple hx
 have hlen:its.toArray.size=xs.length:=by rw [List.size_toArray];exact r.length.symm
 refine⟨"tuple",_,PyProof.Rows.slot_tuple_getitem.lookup,ht.typeIs,?_⟩
 refine HT.v9 ht hs pl pu (by rw [hlen];exact hw) ?_ (by rw [hlen];exact hz)
 rw [hlen]
 refine⟨.ref s.heap.objs.size,_,I.laid (t':=s.toks) (o:=.tup (bD xs lo hi)) (fun b ob q=>Heap.get?_push_of_some _ q) (Nat.le_refl _) ?_,rfl,q _ (I.hok.fresh (Nat.le_refl _))⟩
 exact⟨Nat.le_trans (jc xs lo hi) hz,_,(r.drop (HT.sIx xs.length 0 lo)).take (HT.sIx xs.length xs.length hi - HT.sIx xs.length 0 lo),IsTup.new _ _⟩
noncomputable def vi (K:PySem.W.Frag):R2:=fun x y H Q=>∃a b xs ys,x=.ref a/\y=.ref b/\SqT K H a xs/\SqT K H b ys/\xs≠[]/\xs.length + ys.length<=sizeLine /\
 (ys=[]->Q (.ref a) H)/\(ys≠[]->∀p,H p=none->Q (.ref p) (upd H p (.tup (xs++ys))))
theorem ak.nil_iff {xs:List V}{us:List Value} (r:ak xs us):us=[] ↔ xs=[]:=by
 cases r with
 | nil=>simp
 | cons _ _=>simp
theorem rG:OpR X (binaryOp .Add) (vi X.K):=by
 intro pins s σ H x y v u Q I rx ry h
 obtain⟨a,b,xs,ys,rfl,rfl,ha,hb,hx,hz,q1,q2⟩:=h
 cases rx
 cases ry
 obtain⟨its,r1,p1,_⟩:=I.tuple ha
 obtain⟨its2,r2,p2,_⟩:=I.tuple hb
 refine HT.wf p1 p2 (fun z=>hx (r1.nil_iff.mp z)) (fun z=>⟨.ref a,H,I,rfl,q1 (r2.nil_iff.mp z)⟩) (fun z=>?_) (by rw [<- r1.length,<- r2.length];exact hz)
 refine⟨.ref s.heap.objs.size,_,I.laid (t':=s.toks) (o:=.tup (xs++ys)) (fun b ob q=>Heap.get?_push_of_some _ q) (Nat.le_refl _) ?_,rfl,q2 (fun w=>z (r2.nil_iff.mpr w)) _ (I.hok.fresh (Nat.le_refl _))⟩
 exact⟨by rw [List.length_append];exact hz,_,r1.append r2,IsTup.new _ _⟩
end
noncomputable def ixN (n:Nat) (i:Int):Option Nat:=if 0<=i then (if i < n then some i.toNat else none) else if -(n:Int)<=i then some (i + n).toNat else none
noncomputable def atI {α:Type} (xs:List α) (i:Int):Option α:=(ixN xs.length i).bind fun j=>xs[j]?
theorem lh {n:Nat}{i:Int}{j:Nat} (h:ixN n i=some j):seqIndex? i n=some j/\j < n/\-(n:Int)<=i/\i < n:=by
 unfold ixN at h
 by_cases h0:0<=i
 ·rw [if_pos h0] at h
  by_cases h1:i < n
  ·rw [if_pos h1] at h
   have e:i.toNat=j:=Option.some.inj h
   exact⟨by rw [seqIndex_of h0 h1,e],by omega,by omega,h1⟩
  ·rw [if_neg h1] at h;cases h
 ·rw [if_neg h0] at h
  by_cases h1:-(n:Int)<=i
  ·rw [if_pos h1] at h
   have e:(i + n).toNat=j:=Option.some.inj h
   exact⟨by rw [seqIndex_neg (by omega) h1,e],by omega,h1,by omega⟩
  ·rw [if_neg h1] at h;cases h
theorem gQ {α:Type}{xs:List α}{i:Int}{v:α} (h:atI xs i=some v):∃j,seqIndex? i xs.length=some j/\xs[j]?=some v/\j < xs.length/\-(xs.length:Int)<=i/\i < xs.length:=by
 unfold atI at h
 cases e:ixN xs.length i with
 | none=>rw [e] at h;cases h
 | some j =>
  rw [e] at h
  obtain⟨h1,h2,h3,h4⟩:=lh e
  exact⟨j,h1,h,h2,h3,h4⟩
theorem qV {α:Type}{xs:List α}{j:Nat}{v:α} (h:xs[j]?=some v):atI xs (j:Int)=some v:=by
 have hj:j < xs.length:=(List.getElem?_eq_some_iff.mp h).1
 have e:ixN xs.length (j:Int)=some j:=by
  unfold ixN
  rw [if_pos (by omega),if_pos (by omega)];simp
 unfold atI;rw [e];exact h
noncomputable def rq (b:Expr):Prop:=∀o i,subscripted b false o i=operate [o,i] (getItem o i)
noncomputable def IxR (X:Cx) (r:R2):Prop :=
 ∀(value slice:Expr) (pins:List (Addr×Obj)) (s:Shared) (σ:St) (H:Hp) (x y:V) (v u:Value) (Q:VK),Inv X pins σ H s->RelV x v->RelV y u->r x y H Q ->
  subscripted slice false v u=operate [v,u] (getItem v u)->wpAny (model X.prog X.w) X.A (subscriptTail value slice v u) (EP X pins σ Q) X.xe s
noncomputable def MtR (X:Cx) (id:String) (r:V->List V->Hp->VK->Prop):Prop :=
 ∀(pins:List (Addr×Obj)) (s:Shared) (σ:St) (H:Hp) (x:V) (xs:List V) (v:Value) (us:List Value) (Q:VK),Inv X pins σ H s->RelV x v->ak xs us->r x xs H Q ->
  wpAny (model X.prog X.w) X.A (call (.builtin id) (v::us)) (EP X pins σ Q) X.xe s
section
variable {X:Cx}{a b:Expr}{ta tb:TE}{pos:Pos}
theorem IxR.or {r r':R2} (h:IxR X r) (h':IxR X r'):IxR X (fun x y H Q=>r x y H Q\/r' x y H Q):=by
 intro value slice pins s σ H x y v u Q I rx ry q hs
 rcases q with q | q
 ·exact h value slice pins s σ H x y v u Q I rx ry q hs
 ·exact h' value slice pins s σ H x y v u Q I rx ry q hs
theorem ax {r:R2} (hr:IxR X r) (ha:PE X a ta) (hb:PE X b tb) (hs:rq b):PE X (.Subscript a b pos) (tOp r ta tb):=by
 intro pins s σ H Q I h
 exact Subscript_ (iT ha hb I h fun v u s2 x y H2 I2 rx ry q=>hr a b pins s2 σ H2 x y v u Q I2 rx ry q (hs _ _))
noncomputable def nh (K:PySem.W.Frag):R2:=fun x y H Q=>∃p xs i v,x=.ref p/\y=.int i/\SqL K H p xs/\atI xs i=some v/\Q v H
noncomputable def m9 (K:PySem.W.Frag):R2:=fun x y H Q=>∃p xs i v,x=.ref p/\y=.int i/\SqT K H p xs/\atI xs i=some v/\Q v H
noncomputable def mW:R2:=fun x y H Q=>∃z i c,x=.str z/\y=.int i/\z.length<=sizeLine/\atI z.cps.toList i=some c/\Q (.str ⟨#[c]⟩) H
theorem sE:IxR X (nh X.K):=by
 intro value slice pins s σ H x y v u Q I rx ry h hs
 obtain⟨p,xs,i,z,rfl,rfl,hq,he,q⟩:=h
 cases rx
 obtain⟨t,rfl⟩:=ry
 obtain⟨its,r,pl,hz⟩:=I.list hq
 obtain⟨j,h1,h2,h3,h4,h5⟩:=gQ he
 obtain⟨w,ew,rw'⟩:=r.get h2
 have hl:=r.length
 have hn:=c9
 have fin:EP X pins σ Q w s:=⟨z,H,I,rw',q⟩
 by_cases h0:0<=i
 ·have hj:i.toNat=j:=by
   rw [seqIndex_of h0 h5] at h1
   exact Option.some.inj h1
  exact item_listR pl.isList h0 (by omega) (by rw [hj];simpa using ew) fin hs
 ·have hj:(i + (its.toArray.size:Int)).toNat=j:=by
   rw [seqIndex_neg (by omega) h4] at h1
   rw [List.size_toArray,<- hl]
   exact Option.some.inj h1
  exact subscriptTail_builtinR (x:=w) pl.isList.typeIs slot_list_getitem.lookup
   (wpAny_getItem_list_neg (Q:=fun r s'=>r=w/\EP X pins σ Q r s') pl.isList (by omega) (by rw [List.size_toArray] <;> omega) (by omega) (by rw [hj];simpa using ew) ⟨rfl,fin⟩) hs
theorem t6:IxR X (m9 X.K):=by
 intro value slice pins s σ H x y v u Q I rx ry h hs
 obtain⟨p,xs,i,z,rfl,rfl,hq,he,q⟩:=h
 cases rx
 obtain⟨t,rfl⟩:=ry
 obtain⟨its,r,pl,hz⟩:=I.tuple hq
 obtain⟨j,h1,h2,h3,h4,h5⟩:=gQ he
 obtain⟨w,ew,rw'⟩:=r.get h2
 have hl:=r.length
 have hn:=c9
 have fin:EP X pins σ Q w s:=⟨z,H,I,rw',q⟩
 exact subscriptTail_builtinR (x:=w) pl.typeIs slot_tuple_getitem.lookup
  (getItem_tuple (j:=j) (Q:=fun r s'=>r=w/\EP X pins σ Q r s') pl (by omega) (by omega) (by rw [List.size_toArray,<- hl];exact h1) (by simpa using ew) ⟨rfl,fin⟩) hs
theorem sP:IxR X mW:=by
 intro value slice pins s σ H x y v u Q I rx ry h hs
 obtain⟨z,i,c,rfl,rfl,hz,he,q⟩:=h
 obtain⟨t,rfl⟩:=rx
 obtain⟨t',rfl⟩:=ry
 obtain⟨j,h1,h2,h3,h4,h5⟩:=gQ he
 have hl:z.cps.toList.length=z.length:=by simp [Str.length]
 rw [hl] at h1 h4 h5
 have hn:=c9
 exact tail_any (typeIs_str s z t) slot_str_getitem.lookup (getItem_str (c:=c) (by
  have e1:decide (i < -(2 ^ 63:Int))=false:=decide_eq_false (by omega)
  have e2:decide (i ≥ 2 ^ 63)=false:=decide_eq_false (by omega)
  rw [e1,e2,Bool.or_false]) (by rw [h1];simpa using h2) ⟨.str ⟨#[c]⟩,H,I.tok _,⟨_,rfl⟩,q⟩) hs
noncomputable def rIx (K:PySem.W.Frag):R2:=fun x y H Q=>nh K x y H Q\/m9 K x y H Q\/mW x y H Q
theorem aP:IxR X (rIx X.K):=sE.or (t6.or sP)
theorem oA (its:List Value) (n j:Nat) (u:Value):Obj.mapSeq (·.setIfInBounds j u) { cls:=.type "list",data:=.seq its.toArray n }={ cls:=.type "list",data:=.seq (its.set j u).toArray n }:=by
 simp [Obj.mapSeq]
theorem Inv.lst {pins:List (Addr×Obj)}{σ:St}{H:Hp}{s:Shared}{p:Addr}{xs:List V} (I:Inv X pins σ H s) (h:H p=some (.lst xs)) :
  ∃(its:List Value) (n:Nat),ak xs its/\s.heap.get? p=some { cls:=.type "list",data:=.seq its.toArray n }/\xs.length<=sizeLine:=by
 obtain⟨z,its,n,r,e⟩:=I.hok p _ h
 exact⟨its,n,r,e,z⟩
theorem Inv.lstUpd {pins:List (Addr×Obj)}{σ:St}{H:Hp}{s:Shared}{p:Addr}{xs ys:List V}{its its':List Value}{n n':Nat}{f:Obj->Obj} (I:Inv X pins σ H s) (h:H p=some (.lst xs))
  (ho:s.heap.get? p=some { cls:=.type "list",data:=.seq its.toArray n }) (hf:f { cls:=.type "list",data:=.seq its.toArray n }={ cls:=.type "list",data:=.seq its'.toArray n' }) (r:ak ys its') (hz:ys.length<=sizeLine) (t:Nat) :
  Inv X pins σ (upd H p (.lst ys)) { s with heap:=s.heap.update p f,toks:=t }:=by
 have e:(s.heap.update p f).get? p=some { cls:=.type "list",data:=.seq its'.toArray n' }:=by
  rw [Heap.get?_update_self f ho (by rw [hf] <;> rfl),hf]
 refine I.write (x:=p) (e:=p) (by rw [h];trivial) (.inl rfl) (fun b u hb q=>(Heap.get?_update_other _ _ (Ne.symm hb)).trans q) ⟨_,e⟩ ?_
 exact⟨hz,its',n',r,e⟩
noncomputable def uR:V->V->V->Hp->(Hp->Prop)->Prop:=fun o i v H Q=>∃p xs k j,o=.ref p/\i=.int k/\H p=some (.lst xs)/\ixN xs.length k=some j/\Q (upd H p (.lst (xs.set j v)))
theorem set_list:i5 X uR:=by
 intro pins s σ H o i v ov iv u Q I ro ri rv h
 obtain⟨p,xs,k,j,rfl,rfl,hp,hj,q⟩:=h
 cases ro
 obtain⟨t,rfl⟩:=ri
 obtain⟨its,n,r,ho,hz⟩:=I.lst hp
 obtain⟨h1,h2,h3,h4⟩:=lh hj
 have hl:=r.length
 have hn:=c9
 have I':Inv X pins σ (upd H p (.lst (xs.set j v))) { s with heap:=s.heap.update p (Obj.mapSeq (·.setIfInBounds j u)) } :=
  I.lstUpd hp ho (oA its n j u) (r.set rv j) (by rw [List.length_set];exact hz) s.toks
 by_cases h0:0<=k
 ·have hk:k.toNat=j:=by
   rw [seqIndex_of h0 h4] at h1
   exact Option.some.inj h1
  exact PySem.W.ki_setAt ho h0 (by omega) (by rw [List.size_toArray,<- hl];exact h4) (by rw [hk];exact⟨_,I',q⟩)
 ·have hk:(k + (its.toArray.size:Int)).toNat=j:=by
   rw [seqIndex_neg (by omega) h3] at h1
   rw [List.size_toArray,<- hl]
   exact Option.some.inj h1
  exact PySem.W.ki_setBack ho (by omega) (by rw [List.size_toArray,<- hl];exact h3) (by omega) (by rw [hk];exact⟨_,I',q⟩)
theorem nF (lo hi:Option Int) (n:Nat):(sliceBounds lo hi none n).1=((HT.sIx n 0 lo:Nat):Int)/\(sliceBounds lo hi none n).2.1=((HT.sIx n n hi:Nat):Int)/\(sliceBounds lo hi none n).2.2=1:=by
 refine⟨?_,?_,rfl⟩
 ·cases lo with
  | none=>simp [sliceBounds,HT.sIx]
  | some i =>
   simp only [sliceBounds,HT.sIx,Option.getD_none,show (1:Int) > 0 by decide,if_true]
   by_cases h:i < 0
   ·simp only [h,if_true] <;> omega
   ·simp only [h,if_false] <;> omega
 ·cases hi with
  | none=>simp [sliceBounds,HT.sIx]
  | some i =>
   simp only [sliceBounds,HT.sIx,Option.getD_none,show (1:Int) > 0 by decide,if_true]
   by_cases h:i < 0
   ·simp only [h,if_true] <;> omega
   ·simp only [h,if_false] <;> omega
theorem nC (its:List Value) (lo hi:Option Int):slicePick its.toArray lo hi none=((its.drop (HT.sIx its.length 0 lo)).take (HT.sIx its.length its.length hi - HT.sIx its.length 0 lo)).toArray:=by
 obtain⟨h1,h2,h3⟩:=nF lo hi its.toArray.size
 unfold slicePick
 rw [h1,h2,h3]
 simp only [sliceRange_one,pick_run,List.size_toArray] <;> rfl
noncomputable def vK (K:PySem.W.Frag):V->Option Int->Option Int->Hp->VK->Prop:=fun x lo hi H Q=>∃a xs,x=.ref a/\SqL K H a xs/\∀p,H p=none->Q (.ref p) (upd H p (.lst (bD xs lo hi)))
theorem fL:SlR X (vK X.K):=by
 intro pins s σ H x v vl vu lo hi sl Q I rx hs pl pu h
 obtain⟨a,xs,rfl,hx,q⟩:=h
 cases rx
 obtain⟨its,r,ht,hz⟩:=I.list hx
 have hlen:=r.length
 refine⟨"list",_,slot_list_getitem.lookup,ht.isList.typeIs,?_⟩
 refine wpAny_getItem_list_slice ht.isList hs pl pu .none (by simp) ?_ (by rw [List.size_toArray] <;> omega)
 rw [nC,<- hlen]
 refine⟨.ref s.heap.objs.size,_,I.laid (t':=s.toks) (o:=.lst (bD xs lo hi)) (fun b ob q=>Heap.get?_push_of_some _ q) (Nat.le_refl _) ?_,rfl,q _ (I.hok.fresh (Nat.le_refl _))⟩
 exact⟨Nat.le_trans (jc xs lo hi) hz,_,0,(r.drop (HT.sIx xs.length 0 lo)).take (HT.sIx xs.length xs.length hi - HT.sIx xs.length 0 lo),Heap.get?_push_size _ rfl⟩
noncomputable def cx:V->Bool
 | .non=>true
 | .bl _=>true
 | .int _=>true
 | .str _=>true
 | _=>false
noncomputable def eqV:V->V->Bool
 | .non,.non=>true
 | .bl a,.bl b=>a == b
 | .bl a,.int b=>(if a then 1 else 0) == b
 | .int a,.bl b=>a == (if b then 1 else 0)
 | .int a,.int b=>a == b
 | .str a,.str b=>a == b
 | _,_=>false
theorem tV {A:Around}{s:Shared}{y x:V}{u v:Value} (ry:RelV y u) (rx:RelV x v) (fy:cx y=true) (fx:cx x=true):SeqAt.EqAt A s u v (eqV y x):=by
 cases y with
 | non =>
  cases ry
  cases x with
  | non=>cases rx;exact SeqAt.EqAt.same _
  | bl b=>cases rx;exact SeqAt.EqAt.none_bool b
  | int b=>obtain⟨t,rfl⟩:=rx;exact SeqAt.EqAt.none_int b t
  | str b=>obtain⟨t,rfl⟩:=rx;exact SeqAt.EqAt.none_str b t
  | _=>exact absurd (show false=true from fx) Bool.false_ne_true
 | bl a =>
  cases ry
  cases x with
  | non=>cases rx;exact SeqAt.EqAt.bool_none a
  | bl b=>cases rx;exact SeqAt.EqAt.bool_bool a b
  | int b=>obtain⟨t,rfl⟩:=rx;exact SeqAt.EqAt.bool_int a b t
  | str b=>obtain⟨t,rfl⟩:=rx;exact SeqAt.EqAt.bool_str a b t
  | _=>exact absurd (show false=true from fx) Bool.false_ne_true
 | int a =>
  obtain⟨t',rfl⟩:=ry
  cases x with
  | non=>cases rx;exact SeqAt.EqAt.int_none a t'
  | bl b=>cases rx;exact SeqAt.EqAt.int_bool a t' b
  | int b=>obtain⟨t,rfl⟩:=rx;exact SeqAt.EqAt.int_int a t' b t
  | str b=>obtain⟨t,rfl⟩:=rx;exact SeqAt.EqAt.int_str a t' b t
  | _=>exact absurd (show false=true from fx) Bool.false_ne_true
 | str a =>
  obtain⟨t',rfl⟩:=ry
  cases x with
  | non=>cases rx;exact SeqAt.EqAt.str_none a t'
  | bl b=>cases rx;exact SeqAt.EqAt.str_bool a t' b
  | int b=>obtain⟨t,rfl⟩:=rx;exact SeqAt.EqAt.str_int a t' b t
  | str b=>obtain⟨t,rfl⟩:=rx;exact SeqAt.EqAt.str_str a t' b t
  | _=>exact absurd (show false=true from fx) Bool.false_ne_true
 | _=>exact absurd (show false=true from fy) Bool.false_ne_true
noncomputable def eqU (x:V) (u:Value):Bool:=match u with
 | .none=>eqV .non x
 | .bool b=>eqV (.bl b) x
 | .int i _=>eqV (.int i) x
 | .str z _=>eqV (.str z) x
 | _=>false
theorem lO {x y:V}{u:Value} (r:RelV y u) (f:cx y=true):eqU x u=eqV y x:=by
 cases y with
 | non=>cases r;rfl
 | bl b=>cases r;rfl
 | int i=>obtain⟨t,rfl⟩:=r;rfl
 | str z=>obtain⟨t,rfl⟩:=r;rfl
 | _=>exact absurd (show false=true from f) Bool.false_ne_true
theorem gL {x:V}:∀{xs:List V}{us:List Value},ak xs us->xs.all cx=true->us.any (eqU x)=xs.any fun y=>eqV y x
 | _,_,.nil,_=>rfl
 | y::xs,u::us,.cons r t,f=>by
  rw [List.all_cons,Bool.and_eq_true] at f
  rw [List.any_cons,List.any_cons,lO r f.1,gL t f.2]
theorem gG {A:Around}{s:Shared}{x:V}{v:Value} (rx:RelV x v) (fx:cx x=true):∀{xs:List V}{us:List Value},ak xs us->xs.all cx=true->∀u∈us,SeqAt.EqAt A s u v (eqU x u)
 | _,_,.nil,_=>fun u hu=>by cases hu
 | y::xs,u::us,.cons r t,f=>fun u' hu=>by
  rw [List.all_cons,Bool.and_eq_true] at f
  rcases List.mem_cons.mp hu with rfl | hu
  ·rw [lO r f.1];exact tV r rx f.1 fx
  ·exact gG rx fx t f.2 u' hu
noncomputable def inV (x:V) (xs:List V):Bool:=xs.any fun y=>eqV y x
noncomputable def rIn (K:PySem.W.Frag) (neg:Bool):R2:=fun x y H Q=>∃p xs,y=.ref p/\(SqL K H p xs\/SqT K H p xs)/\cx x=true/\xs.all cx=true/\Q (.bl (if neg then !inV x xs else inV x xs)) H
theorem pw:OpR X (compareOp .In) (rIn X.K false):=by
 intro pins s σ H x y v u Q I rx ry h
 obtain⟨p,xs,rfl,hq,fx,fs,q⟩:=h
 cases ry
 rcases hq with hq | hq
 ·obtain⟨its,r,pl,hz⟩:=I.list hq
  refine SeqAt.in_listAt (eqU x) pl.isList (fun w hw=>gG rx fx r fs w (by simpa using hw)) ⟨.bl _,H,I,rfl,?_⟩
  rw [show its.toArray.any (eqU x)=its.any (eqU x) by simp,gL r fs]
  exact q
 ·obtain⟨its,r,pl,hz⟩:=I.tuple hq
  refine SeqAt.in_tupleAt (eqU x) pl (fun w hw=>gG rx fx r fs w (by simpa using hw)) ⟨.bl _,H,I,rfl,?_⟩
  rw [show its.toArray.any (eqU x)=its.any (eqU x) by simp,gL r fs]
  exact q
theorem bA:bo X (.builtin "len") (fun xs H Q=>∃p ys,xs=[.ref p]/\(SqL X.K H p ys\/SqT X.K H p ys)/\Q (.int ys.length) H):=by
 intro pins s σ H xs us Q I r h
 obtain⟨p,ys,rfl,hq,q⟩:=h
 obtain⟨u,rfl,rx⟩:=vals1 r
 cases rx
 have hn:=c9
 rcases hq with hq | hq
 ·obtain⟨its,r',pl,hz⟩:=I.list hq
  have hlen:=r'.length
  exact Calls.call_len_list pl.isList (by simp only [List.size_toArray] <;> omega) ⟨.int ys.length,H,I.tok _,⟨s.toks + 1,by rw [List.size_toArray,hlen]⟩,q⟩
 ·obtain⟨its,r',pl,hz⟩:=I.tuple hq
  have hlen:=r'.length
  exact len_tuple pl (by simp only [List.size_toArray] <;> omega) ⟨.int ys.length,H,I.tok _,⟨s.toks + 1,by rw [List.size_toArray,hlen]⟩,q⟩
theorem nI:bo X (.builtin "len") (fun xs H Q=>∃z,xs=[.str z]/\z.length<=sizeLine/\Q (.int z.length) H):=by
 intro pins s σ H xs us Q I r h
 obtain⟨z,rfl,hz,q⟩:=h
 obtain⟨u,rfl,t,rfl⟩:=vals1 r
 have hn:=c9
 exact len_str (by omega) ⟨.int z.length,H,I.tok _,⟨_,rfl⟩,q⟩
theorem nH:bo X (.type "list") (fun xs H Q=>∃p ys,xs=[.ref p]/\(SqL X.K H p ys\/SqT X.K H p ys)/\∀l,H l=none->Q (.ref l) (upd H l (.lst ys))):=by
 intro pins s σ H xs us Q I r h
 obtain⟨p,ys,rfl,hq,q⟩:=h
 obtain⟨u,rfl,rx⟩:=vals1 r
 cases rx
 have fin:∀(its:List Value),ak ys its->ys.length<=sizeLine->∀(h':Heap) (c':Nat),(∀b o',s.heap.get? b=some o'->h'.get? b=some o') ->
   h'.get? s.heap.objs.size=some { cls:=.type "list",dict:=none,data:=.seq its.toArray c',slots:=#[] }->EP X pins σ Q (.ref s.heap.objs.size) { s with heap:=h' }:=fun its r' hz h' c' kp e =>
  ⟨.ref s.heap.objs.size,_,I.laid (t':=s.toks) kp (Nat.le_refl _) (show aA X.prog X.w _ h' _ (.lst ys) from ⟨hz,its,c',r',e⟩),rfl,q _ (I.hok.fresh (Nat.le_refl _))⟩
 rcases hq with hq | hq
 ·obtain⟨its,r',pl,hz⟩:=I.list hq
  have hlen:=r'.length
  obtain⟨o,ho,hc,n,hd⟩:=pl.isList
  exact call_list_seq p (.inl rfl) ho hc hd (fun h' c' kp e=>fin its r' hz h' c' kp e) (by simp only [List.size_toArray] <;> omega)
 ·obtain⟨its,r',pl,hz⟩:=I.tuple hq
  have hlen:=r'.length
  obtain⟨o,ho,hc,n,hd⟩:=pl
  exact call_list_seq p (.inr rfl) ho hc hd (fun h' c' kp e=>fin its r' hz h' c' kp e) (by simp only [List.size_toArray] <;> omega)
theorem dj:bo X (.type "tuple") (fun xs H Q=>∃p ys,xs=[.ref p]/\((SqL X.K H p ys/\∀l,H l=none->Q (.ref l) (upd H l (.tup ys)))\/(SqT X.K H p ys/\Q (.ref p) H))):=by
 intro pins s σ H xs us Q I r h
 obtain⟨p,ys,rfl,h⟩:=h
 obtain⟨u,rfl,rx⟩:=vals1 r
 cases rx
 rcases h with ⟨hq,q⟩ | ⟨hq,q⟩
 ·obtain⟨its,r',pl,hz⟩:=I.list hq
  have hlen:=r'.length
  refine call_tuple_list pl.isList (fun h' kp=>?_) (by simp only [List.size_toArray] <;> omega)
  have I1:Inv X pins σ H { s with heap:=h' }:=I.kept (t':=s.toks) kp
  have I2:Inv X pins σ (upd H h'.objs.size (.tup ys)) { s with heap:=h'.push { cls:=.type "tuple",data:=.seq its.toArray } } :=
   I1.laid (t':=s.toks) (fun b o e=>Heap.get?_push_of_some _ e) (Nat.le_refl _) (show aA X.prog X.w _ _ _ (.tup ys) from ⟨hz,its,r',IsTup.new _ _⟩)
  exact⟨.ref h'.objs.size,_,I2,rfl,q _ (I1.hok.fresh (Nat.le_refl _))⟩
 ·obtain⟨its,r',pl,hz⟩:=I.tuple hq
  exact call_tuple_same pl ⟨.ref p,H,I,rfl,q⟩
noncomputable def tyV (K:PySem.W.Frag) (T:String) (x:V) (H:Hp):Prop:=match x with
 | .str _=>T="str"
 | .int _=>T="int"
 | .ref p=>(T="list"/\∃xs,SqL K H p xs)\/(T="tuple"/\∃o,K.lookup p=some o/\o.cls=.type "tuple"/\o.dict=none) \/
   (T="dict"/\((∃kvs,H p=some (.dK kvs))\/∃kvs,H p=some (.dT kvs)))\/(T="set"/\∃S n,H p=some (.set S n))
 | _=>False
theorem uD {pins:List (Addr×Obj)}{σ:St}{H:Hp}{s:Shared}{T:String}{x:V}{v:Value} (I:Inv X pins σ H s) (r:RelV x v) (ty:tyV X.K T x H) :
  s.TypeIs v T/\∀a,v=.ref a->∃ob,s.heap.get? a=some ob/\ob.dict=none:=by
 cases x with
 | str z =>
  obtain⟨t,rfl⟩:=r
  cases (show T="str" from ty)
  exact⟨typeIs_str s z t,fun _ e=>nomatch e⟩
 | int i =>
  obtain⟨t,rfl⟩:=r
  cases (show T="int" from ty)
  exact⟨typeIs_int s i t,fun _ e=>nomatch e⟩
 | ref p =>
  cases r
  rcases ty with ⟨rfl,xs,hq⟩ | ⟨rfl,o,hk,hc,hd⟩ | ⟨rfl,hk⟩ | ⟨rfl,S,n,hk⟩
  ·obtain⟨its,_,pl,_⟩:=I.list hq
   refine⟨pl.isList.typeIs,fun a e=>?_⟩
   cases e
   obtain⟨o,n,e,c,hd,_⟩:=pl
   exact⟨o,e,hd⟩
  ·refine⟨⟨o,I.kIn p o hk,hc⟩,fun a e=>?_⟩
   cases e
   exact⟨o,I.kIn _ o hk,hd⟩
  ·have z:∃o,s.heap.get? p=some o/\o.ExactDict:=by
    rcases hk with ⟨kvs,hk⟩ | ⟨kvs,hk⟩
    ·obtain⟨_,_,_,_,o,_,_,e,ex,_⟩:=I.hok p _ hk
     exact⟨o,e,ex⟩
    ·obtain⟨_,_,_,_,o,_,_,e,ex,_⟩:=I.hok p _ hk
     exact⟨o,e,ex⟩
   obtain⟨o,e,ex⟩:=z
   refine⟨⟨o,e,ex.1⟩,fun a e2=>?_⟩
   cases e2
   exact⟨o,e,ex.2.1⟩
  ·obtain⟨o,_,_,_,e,ex,_⟩:=I.hok p _ hk
   refine⟨⟨o,e,ex.1⟩,fun a e2=>?_⟩
   cases e2
   exact⟨o,e,ex.2.1⟩
 | _=>exact False.elim ty
noncomputable def tBM (K:PySem.W.Frag) (T:String) (r:V->List V->Hp->VK->Prop) (to:TE) (t:TA):TE:=fun σ H Q=>to σ H fun x H1=>tyV K T x H1/\t σ H1 fun xs H2=>r x xs H2 Q
variable {o e:Expr}{es:List Expr}{to:TE}{t:TA}{name:Str}{apos cpos:Pos}{T id:String}{r:V->List V->Hp->VK->Prop}
theorem cy (pa:PlainAttrs T) (slot:Slot T name id) (hty:typeOf (.builtin id)=pure (.type "method_descriptor")) (hm:MtR X id r) (ho:PE X o to) (ha:PA X (e::es) t)
  (hbase:attributeBase o name X.env (eval o X.env)=eval o X.env:=by rfl)
  (hfew:((backTo cpos (starEach (e::es) X.env)).all (fun x=>!x.1) && (backToKw cpos (keywordEach [] X.env)).all (fun x=>x.1.isSome)
   && decide ((e::es).length + ([]:List Keyword).length + (if ([]:List Keyword).isEmpty then 0 else 1) < 30))=true:=by rfl)
  (hline:(apos.endLine == cpos.line)=true:=by rfl) (hs:starEach (e::es) X.env=(false,eval e X.env)::starEach es X.env:=by rfl) (hplain:(backTo cpos (starEach es X.env)).any (·.1)=false:=by rfl) :
  PE X (.Call (.Attribute o name apos) (e::es) [] cpos) (tBM X.K T r to t):=by
 intro pins s σ H Q I h
 refine wpAny_Call_method_late hbase hfew hline rfl (thn (ho pins s σ H _ I h) fun v s1 ⟨x,H1,I1,r1,ty,q1⟩=>?_)
 obtain⟨h1,h2⟩:=uD I1 r1 ty
 refine⟨T,id,pa,slot,hty,h1,h2,?_⟩
 have hA:=ha cpos pins s1 σ H1 _ I1 q1
 rw [hs] at hA ⊢
 refine Calls.callWith_builtin (by show (false || (backTo cpos (starEach es X.env)).any (·.1))=false;rw [hplain] <;> rfl) (Calls.evalArgs_plain ?_)
 exact thn hA fun us s2 ⟨vs,H2,I2,r2,q2⟩=>hm pins s2 σ H2 x vs v us Q I2 r1 r2 q2
/- xs.append(e),list.index on a module's tuple .. are MtR facts of 06m -/
end
noncomputable def MtM (X:Cx) (id:String) (r:V->List V->Hp->VK->Prop):Prop :=
 ∀(pins:List (Addr×Obj)) (s:Shared) (σ:St) (H:Hp) (x:V) (xs:List V) (v:Value) (us:List Value) (Q:VK),Inv X pins σ H s->RelV x v->ak xs us->r x xs H Q ->
  wpAny (model X.prog X.w) X.A (call (.builtin id) (v::us)) (EP X pins σ Q) X.xe s
theorem ak.one:∀{x:V}{us:List Value},ak [x] us->∃u,us=[u]/\RelV x u
 | _,_,.cons r .nil=>⟨_,rfl,r⟩
theorem ak.eraseIdx:∀{xs:List V}{us:List Value} (i:Nat),ak xs us->ak (xs.eraseIdx i) (us.eraseIdx i)
 | _,_,_,.nil=>.nil
 | _,_,0,.cons _ t=>t
 | _,_,i + 1,.cons r t=>.cons r (ak.eraseIdx i t)
theorem ak.rep {xs:List V}{us:List Value} (h:ak xs us):∀k:Nat,ak (List.replicate k xs).flatten (List.replicate k us).flatten
 | 0=>.nil
 | k + 1=>by
  rw [List.replicate_succ,List.replicate_succ,List.flatten_cons,List.flatten_cons]
  exact ak.append h (ak.rep h k)
theorem jj {α:Type}:∀(l:List α) (i:Nat),(l.eraseIdx i).length<=l.length
 | [],_=>Nat.le_refl _
 | _::_,0=>Nat.le_succ _
 | _::r,i + 1=>Nat.succ_le_succ (jj r i)
theorem foldl_rep (its:List Value):∀(k:Nat) (acc:List Value),
  List.foldl (fun x1 x2=>x1++x2) acc.toArray (List.replicate k its.toArray)=(acc++(List.replicate k its).flatten).toArray
 | 0,acc=>by simp
 | k + 1,acc=>by
  have e:acc.toArray++its.toArray=(acc++its).toArray:=by simp
  have e2:(acc++its)++(List.replicate k its).flatten=acc++(List.replicate (k + 1) its).flatten:=by
   rw [List.replicate_succ,List.flatten_cons,List.append_assoc]
  rw [<- e2,<- foldl_rep its k (acc++its),<- e,List.replicate_succ,List.foldl_cons]
section
variable {X:Cx}{pins:List (Addr×Obj)}{σ:St}{H:Hp}{s:Shared}{l b:Addr}{xs ys zs:List V}
theorem Inv.lset {its its':List Value}{n:Nat}{f:Array Value->Array Value}{t':Nat} (I:Inv X pins σ H s) (hH:H l=some (.lst xs))
  (e:s.heap.get? l=some { cls:=.type "list",data:=.seq its.toArray n }) (hf:f its.toArray=its'.toArray) (hv:ak ys its') (hz:ys.length<=sizeLine) :
  Inv X pins σ (upd H l (.lst ys)) { s with heap:=s.heap.update l (Obj.mapSeq f),toks:=t' }:=by
 have q:=PySem.IsL.update e f
 rw [hf] at q
 refine I.write (x:=l) (e:=l) (by rw [hH];exact trivial) (.inl rfl) (fun b' u hb hu=>(Heap.get?_update_other s.heap (Obj.mapSeq f) (Ne.symm hb)).trans hu) ⟨_,q⟩ ?_
 exact⟨hz,its',_,hv,q⟩
theorem Inv.lnew {its:List Value}{t':Nat} (I:Inv X pins σ H s) (hv:ak ys its) (hz:ys.length<=sizeLine) :
  Inv X pins σ (upd H s.heap.objs.size (.lst ys)) { s with heap:=s.heap.push { cls:=.type "list",data:=.seq its.toArray },toks:=t' } :=
 I.laid (fun _ _ q=>Heap.get?_push_of_some _ q) (Nat.le_refl _) ⟨hz,its,0,hv,Heap.get?_push_size _ rfl⟩
theorem Inv.fresh (I:Inv X pins σ H s):H s.heap.objs.size=none:=I.hok.fresh (Nat.le_refl _)
theorem Inv.lstM (I:Inv X pins σ H s) (hH:H l=some (.lst xs)):xs.length<=sizeLine/\∃(its:List Value) (n:Nat),ak xs its/\xs.length=its.length/\s.heap.get? l=some { cls:=.type "list",data:=.seq its.toArray n }:=by
 obtain⟨z,its,n,r,e⟩:=I.hok l _ hH
 exact⟨z,its,n,r,r.length,e⟩
theorem jM {n:Nat} (h:n<=sizeLine):Builtin.List.listTooLong n=false:=by
 unfold Builtin.List.listTooLong
 exact decide_eq_false (by omega)
end
section
variable {X:Cx}
noncomputable def qN:V->List V->Hp->VK->Prop:=fun x vs H Q=>∃l xs y,x=.ref l/\vs=[y]/\H l=some (.lst xs)/\xs.length < sizeLine/\Q .non (upd H l (.lst (xs++[y])))
theorem dn:MtM X "list.append" qN:=by
 intro pins s σ H x vs v us Q I rx rv h
 obtain⟨l,xs,y,rfl,rfl,hH,hz,q⟩:=h
 cases rx
 obtain⟨u,rfl,ru⟩:=rv.one
 obtain⟨z,its,n,r,hl,e⟩:=I.lstM hH
 refine call_meets F.slot_list_append ⟨_,e,rfl⟩ F.entry_list_append (F.args_list_append_2 _ _) (PySem.list_append l its.toArray n u (by rw [List.size_toArray];omega)) ⟨e,?_⟩
 refine⟨.non,_,I.lset (its':=its++[u]) hH e (by simp) (r.append (.cons ru .nil)) ?_,rfl,q⟩
 rw [List.length_append,List.length_singleton]
 omega
noncomputable def rm:V->List V->Hp->VK->Prop:=fun x vs H Q=>∃l b xs zs,x=.ref l/\vs=[.ref b]/\H l=some (.lst xs)/\H b=some (.lst zs)/\xs.length + zs.length<=sizeLine/\Q .non (upd H l (.lst (xs++zs)))
theorem oP:MtM X "list.extend" rm:=by
 intro pins s σ H x vs v us Q I rx rv h
 obtain⟨l,b,xs,zs,rfl,rfl,hH,hB,hz,q⟩:=h
 cases rx
 obtain⟨u,rfl,ru⟩:=rv.one
 cases ru
 obtain⟨z,its,n,r,hl,e⟩:=I.lstM hH
 obtain⟨z2,its2,n2,r2,hl2,e2⟩:=I.lstM hB
 have hsz:its.toArray.size + its2.toArray.size<=sizeLine:=by rw [List.size_toArray,List.size_toArray];omega
 have hlong:¬ (!its.toArray.isEmpty && Builtin.List.listTooLong (its.toArray.size + its2.toArray.size))=true:=by
  rw [jM hsz,Bool.and_false]
  exact Bool.false_ne_true
 refine call_meets F.slot_list_extend ⟨_,e,rfl⟩ F.entry_list_extend (F.args_list_extend_2 _ _)
  (AutoSeq1.list_extend_list_list_0 l its.toArray n b its2.toArray n2 hlong (by rw [List.size_toArray];omega) (by omega)) ⟨e,e2,?_⟩
 refine⟨.non,_,I.lset (its':=its++its2) hH e (by simp) (r.append r2) ?_,rfl,q⟩
 rw [List.length_append]
 omega
noncomputable def t9:V->List V->Hp->VK->Prop:=fun x vs H Q=>∃l xs i k y,x=.ref l/\vs=[.int i]/\H l=some (.lst xs)/\-(2 ^ 63)<=i/\i < 2 ^ 63/\seqIndex? i xs.length=some k/\xs[k]?=some y/\Q y (upd H l (.lst (xs.eraseIdx k)))
theorem pP:MtM X "list.pop" t9:=by
 intro pins s σ H x vs v us Q I rx rv h
 obtain⟨l,xs,i,k,y,rfl,rfl,hH,h1,h2,hk,hy,q⟩:=h
 cases rx
 obtain⟨u,rfl,ru⟩:=rv.one
 obtain⟨t,rfl⟩:=ru
 obtain⟨z,its,n,r,hl,e⟩:=I.lstM hH
 obtain⟨w,hw,rw'⟩:=r.get hy
 refine call_meets F.slot_list_pop ⟨_,e,rfl⟩ F.entry_list_pop (F.args_list_pop_2 _ _)
  (MeetsSeq.list_pop_at l its.toArray n i t k w (fitsIndex_both h1 h2) (by rw [List.size_toArray,<- hl];exact hk) (by rw [<- Array.getElem?_toList];exact hw) (by rw [List.size_toArray];omega)) ⟨e,?_⟩
 refine⟨y,_,I.lset (its':=its.eraseIdx k) hH e ?_ (r.eraseIdx k) ?_,rw',q⟩
 ·show its.toArray.eraseIdxIfInBounds k=(its.eraseIdx k).toArray
  rw [List.eraseIdxIfInBounds_toArray]
 ·have:=jj xs k
  omega
noncomputable def vT:R2:=fun x y H Q=>∃l b xs zs,x=.ref l/\y=.ref b/\H l=some (.lst xs)/\H b=some (.lst zs)/\xs.length + zs.length<=sizeLine/\∀p,H p=none->Q (.ref p) (upd H p (.lst (xs++zs)))
theorem fV:OpR X (binaryOp .Add) vT:=by
 intro pins s σ H x y v u Q I rx ry h
 obtain⟨l,b,xs,zs,rfl,rfl,hH,hB,hz,q⟩:=h
 cases rx
 cases ry
 obtain⟨z,its,n,r,hl,e⟩:=I.lstM hH
 obtain⟨z2,its2,n2,r2,hl2,e2⟩:=I.lstM hB
 refine PySem.P.add_list e e2 ?_ (by rw [List.size_toArray,List.size_toArray];omega)
 have ea:its.toArray++its2.toArray=(its++its2).toArray:=by simp
 rw [ea]
 exact⟨.ref _,_,I.lnew (t':=s.toks) (r.append r2) (by rw [List.length_append];omega),rfl,q _ I.fresh⟩
noncomputable def vS:R2:=fun x y H Q=>∃l k xs,x=.ref l/\y=.int k/\H l=some (.lst xs)/\-(2 ^ 63)<=k/\k < 2 ^ 63/\xs.length * k.toNat<=sizeLine /\
 ∀p,H p=none->Q (.ref p) (upd H p (.lst (List.replicate k.toNat xs).flatten))
theorem len_rep {α:Type} (xs:List α) (k:Nat):(List.replicate k xs).flatten.length=k * xs.length:=by
 induction k with
 | zero=>simp
 | succ k ih=>rw [List.replicate_succ,List.flatten_cons,List.length_append,ih,Nat.succ_mul,Nat.add_comm]
theorem eL:OpR X (binaryOp .Mult) vS:=by
 intro pins s σ H x y v u Q I rx ry h
 obtain⟨l,k,xs,rfl,rfl,hH,h1,h2,hz,q⟩:=h
 cases rx
 obtain⟨t,rfl⟩:=ry
 obtain⟨z,its,n,r,hl,e⟩:=I.lstM hH
 have hlen:its.toArray.size * k.toNat<=sizeLine:=by rw [List.size_toArray,<- hl];exact hz
 have hcap:¬ its.toArray.size * k.toNat > (2 ^ 63 - 1) / 8:=by
  have:(sizeLine:Nat)<=(2 ^ 63 - 1) / 8:=by decide
  omega
 have hfit:¬ (!Builtin.List.listFitsIndex k)=true:=by
  rw [fitsIndex_both h1 h2]
  exact Bool.false_ne_true
 have hlong:¬ Builtin.List.listTooLong (its.toArray.size * k.toNat)=true:=by
  rw [jM hlen]
  exact Bool.false_ne_true
 have hnew:List.foldl (fun x1 x2=>x1++x2) #[] (List.replicate (if its.toArray.isEmpty=true then 0 else k.toNat) its.toArray)=(List.replicate k.toNat its).flatten.toArray:=by
  have f0:∀m:Nat,List.foldl (fun x1 x2=>x1++x2) #[] (List.replicate m its.toArray)=(List.replicate m its).flatten.toArray:=fun m=>by
   have:=foldl_rep its m []
   rw [List.nil_append] at this
   exact this
  rw [f0]
  cases its with
  | nil=>simp
  | cons a r'=>rw [if_neg (by simp)]
 refine wpAny_binaryOp_repeat_ref (T:="list") (U:="int") (by decide) ⟨_,e,rfl⟩ (fun s'=>typeIs_int s' k t) noFill_list_mul F.fills_int_mul F.slot_int_rmul repeat_list F.slot_int_index.lookup
  (call_meets F.slot_int_rmul (typeIs_int s k t) F.entry_int_rmul (F.args_int_rmul_2 _ _) (int___rmul___int_list k t l its.toArray n)
   ⟨e,rfl,⟨_,e,rfl⟩,call_meets F.slot_list_mul ⟨_,e,rfl⟩ F.entry_list_mul (F.args_list_mul_2 _ _) (AutoListH.list___mul___list_int_3 l its.toArray n k t hfit hcap hlong) ⟨e,?_⟩⟩)
 rw [hnew]
 exact⟨.ref _,_,I.lnew (t':=s.toks) (r.rep k.toNat) (by rw [len_rep,Nat.mul_comm];exact hz),rfl,q _ I.fresh⟩
end
section
variable {prog:Program}{w:World}{A:Around}{E:Value->Shared->Prop}{s:Shared}
end
section
variable {X:Cx}
end
end L2
namespace Att
open PySem PySem.W PySem.Calls PyProof.Rows
theorem nu {P:Params}{h:Heap}:∀(ns:List Int) (vs:List Value),WellAll P h vs (ns.map WData.int)->IntsAre vs ns:=by
 intro ns
 induction ns with
 | nil =>
  intro vs w
  rw [List.map_nil] at w
  cases w
  exact .nil
 | cons n ns ih =>
  intro vs w
  rw [List.map_cons] at w
  cases w with
  | cons a b =>
   cases a
   exact .cons _ _ (ih _ b)
theorem oN {l:OpenLaw}{n:Nat} (hn:l.most=some n) {P:Params}{h:Heap}{args:List WData}{vals:List Value}
  (hpre:l.row.toRowW.claim.pre args=true) (hwl:WellAll P h vals args) :
  ∃a vs ns,vals=[Value.ref a]/\args=[WData.list (ns.map WData.int)]/\h.get? a=some { cls:=.type "list",data:=.seq vs.toArray }/\IntsAre vs ns/\ns.length<=n:=by
 have hsh:WShape.hasAll [] args [.list .int]=true:=(pre_splitW hpre).1
 have hc:l.pre.holds [] { args:=args }=true:=(pre_splitW hpre).2
 obtain⟨d,r,rfl,h1,h2⟩:=hasAllW_cons hsh
 obtain rfl:=hasAllW_nil h2
 obtain⟨xs,rfl,h3⟩:=hasW_list h1
 obtain⟨ns,rfl⟩:=items_int h3
 have hlen:ns.length<=n:=by
  unfold OpenLaw.pre at hc
  have h4:(WTm.not (.lt (.lit (.int (n:Int))) (.len (.arg 0)))).holds [] { args:=[.list (ns.map .int)] }=true:=by
   have h4:=(holds_andW hc).1
   rw [hn] at h4
   exact h4
  have h5:=condW_of h4 (w_not (w_lt w_lit (w_len_list (w_arg rfl))))
  rw [List.length_map] at h5
  refine Nat.le_of_not_lt fun q=>?_
  have q':(n:Int) < ((ns.length:Nat):Int):=by omega
  first
   | (rw [decide_eq_true q'] at h5;exact absurd h5 (by decide))
   | (simp at h5;omega)
 cases hwl with
 | cons w1 w2 =>
  cases w2
  cases w1 with
  | list ho hall=>exact⟨_,_,ns,rfl,rfl,ho,nu ns _ hall,hlen⟩
theorem pk (l:OpenLaw) (args:List WData):l.row.toRowW.claim.post args (.bool true) args=true :=
 postW_of (r:=l.row.toRowW) (X:=(true == true))
  (show WShape.has [] (.bool true) .bool=true by first | rfl | decide | simp [WShape.has,WShape.arms,WShape.armsAll])
  (show (WTm.eq .res (.lit (.bool true))).value [] { args:=args,res:=some (.bool true),after:=args }=some (.bool (true == true)) from w_eq_bool (w_res rfl) w_lit) rfl
theorem wb {l:OpenLaw}{n:Nat}{q:Program}{loose:List Str}{XP:(Str->Option Value)->Heap->Prop}{YP:World->Heap->Prop}{d:DefRec}
  (hn:l.most=some n) (hdf:d.params.defaults=[])
  (call:∀(w:World) (s₀ s₁:Shared) (mg mb:Str->Option Value) (fa:Addr) (o:Obj) (pm cd doc:Value) (a:Addr) (vs:List Value) (ns:List Int),
   Ground q loose [] XP w s₀ mg mb s₁.heap->YP w s₁.heap ->
   s₁.heap.get? fa=some o->o.data=.func (docDef d.name d.params d.body d.scope pm cd doc)->s₁.heap.CodeRec cd d.name->mg d.name=some (.ref fa) ->
   s₁.heap.get? a=some { cls:=.type "list",data:=.seq vs.toArray }->IntsAre vs ns->ns.length<=n->s₁.gens=#[] ->
   codeAny (model l.prog w) callerA (.call (.ref fa) ⟨[.ref a],[]⟩) (fun r s'=>r=.ok (.ret (.bool true))/\OldK s₁.heap s'.heap/\s'.os=s₁.os/\AllBare s'.gens) s₁) :
  WalkO q loose XP YP l.row.toRowW d [] (fun f vs=>PySem.call f vs):=by
 intro w s₀ s₁ mg mb G Y fa o pm cd doc dV kV ho hd hcd hD hmg hg args vals as hpre hlay hrd hwl hlo
 obtain rfl:dV=.none:=Dflts.none hD hdf
 obtain rfl:kV=.none:=Dflts.noKw hD
 obtain⟨a,vs,ns,rfl,rfl,hobj,hints,hlen⟩:=oN hn hpre hwl
 refine enter_call (codeAny_mono (call w s₀ s₁ mg mb fa o pm cd doc a vs ns G Y ho (fd_plain hd) hcd hmg hobj hints hlen hg) fun r s' hq=>?_)
 obtain⟨rfl,h2,h3,h4⟩:=hq
 exact⟨.inl ⟨.bool true,.bool true,[],rfl,fun _=>rfl,.bool true,pk l _,fun _=>⟨List.Pairwise.nil,fun _ hm=>(nomatch hm)⟩⟩,h2,h3,h4⟩
section
variable {prog:Program}{w:World}{A:Around}{E:Value->Shared->Prop}{s:Shared}{K:Frag}
end
end Att
namespace L2
open PySem PySem.Spec PyProof.Rows
theorem jt:∀{vs:List Value}{ns:List Int},IntsAre vs ns->ak (ns.map V.int) vs
 | _,_,.nil=>.nil
 | _,_,.cons n t h=>.cons ⟨t,rfl⟩ (jt h)
noncomputable def iR (H:Hp):Prop:=∀b,H b=none\/∃o xs,H b=some (.frz o (.lst xs))
theorem pN {P:Program}{w:World}{K:PySem.W.Frag}{mg mb:Str->Option Value}{CX:CXT}{k:Nat}{fa a:Addr}{fd:FuncData}{x:Str}{sp:Sp}{s₁:Shared}{vs:List Value}{ns:List Int}
  (KX:K.In s₁.heap) (hns:s₁.heap.Ns mainGlobals mg) (hb:s₁.heap.Ns builtinsNs mb) (hbb:∀x:Str,x≠"__name__"->mb x=bootBuiltins x) (hlim:s₁.heap.NoLimit) (hg:s₁.gens=#[])
  (ha:s₁.heap.get? a=some { cls:=.type "list",data:=.seq vs.toArray }) (hi:IntsAre vs ns) (hl:ns.length<=sizeLine) (hr:aL k callerA)
  (F:∀base:Heap,K.In base->base.Ns mainGlobals mg->aG P w K mg base CX k fa fd [x] sp) (hbind:∀(s:Shared) (u:Value),BindsTo s fd ⟨[u],[]⟩ [(x,u)])
  (hsp:∀H:Hp,iR H->SqL K H a (ns.map V.int)->sp [.ref a] H (fun v _=>v=.bl true) fun _ _ _=>False)
  (hCX:∀H e s',CX [] H s₁ (fun _ _ _=>False) e s'->False) :
  codeAny (model P w) callerA (.call (.ref fa) ⟨[.ref a],[]⟩) (fun r s'=>r=.ok (.ret (.bool true))/\OldK s₁.heap s'.heap/\s'.os=s₁.os/\AllBare s'.gens) s₁:=by
 have rv:=jt hi
 have lenV:=hi.length
 have core:∀H:Hp,iR H->SqL K H a (ns.map V.int)->HOk P w H s₁.heap->(∀b,H b≠none->b=a)->(H a≠none->K.lookup a=none) ->
   codeAny (model P w) callerA (.call (.ref fa) ⟨[.ref a],[]⟩) (fun r s'=>r=.ok (.ret (.bool true))/\OldK s₁.heap s'.heap/\s'.os=s₁.os/\AllBare s'.gens) s₁:=by
  intro H hO hS hok hA hK
  have base_of:∀{b:Addr}{o:Obj},s₁.heap.get? b=some o->H b=none->(cA s₁.heap H).get? b=some o:=fun e n=>qw e n
  have noA:∀{b:Addr}{o:Obj}{es:Array DictEntry}{ep:Nat},s₁.heap.get? b=some o->o.data=.dict es ep->H b=none:=fun {b o es ep} e d=>by
   cases q:H b with
   | none=>rfl
   | some u =>
    have e':b=a:=hA b (by rw [q];simp)
    subst e'
    rw [ha] at e;cases e
    have d':Data.seq vs.toArray _=Data.dict es ep:=d
    cases d'
  have nsK:∀{b:Addr}{m:Str->Option Value},s₁.heap.Ns b m->(cA s₁.heap H).Ns b m:=fun {b m} ⟨o,es,ep,e,d,r⟩=>⟨o,es,ep,base_of e (noA e d),d,r⟩
  have hKb:K.In (cA s₁.heap H):=fun b o e=>base_of (KX b o e) (by
   cases q:H b with
   | none=>rfl
   | some u =>
    have e':b=a:=hA b (by rw [q];simp)
    subst e'
    rw [hK (by rw [q];simp)] at e;cases e)
  have hM:Mod K mg (cA s₁.heap H):=⟨hKb,nsK hns,⟨mb,nsK hb,hbb⟩,let ⟨mc,h1,h2⟩:=hlim;⟨mc,nsK h1,h2⟩⟩
  have e0:dU P w K mg (cA s₁.heap H) callerA [] s₁ H:=⟨rfl,hM,fun b o e=>qG e,Nat.le_of_eq (oQ _ _),trivial,fun b hb=>absurd (show b∈([]:List Addr) from hb) (by simp),hok,.of_eq hg⟩
  refine codeAny_mono ((F _ hKb (nsK hns)).run callerA [] s₁ H ⟨[.ref a],[]⟩ [.ref a] [.ref a] _ _ hr e0 (hbind s₁ (.ref a)) (.cons rfl .nil) (hsp H hO hS)) fun r s' h=>?_
  cases r with
  | error e=>exact (hCX H e s' h).elim
  | ok fl =>
   cases fl with
   | next=>exact False.elim h
   | brk=>exact False.elim h
   | cont=>exact False.elim h
   | ret u =>
    obtain⟨v,H',os,bare,un,hok',r',q⟩:=h
    have q':v=.bl true:=q
    subst q'
    obtain rfl:u=Value.bool true:=r'
    refine⟨rfl,OldK.of_keep fun b o e=>?_,os,bare⟩
    cases q:H b with
    | none=>exact un.keep b o e q (by intro z;exact absurd (show b∈([]:List Addr) from z) (by simp)) (by simp)
    | some u =>
     rcases hO b with z | ⟨ob,xs,z⟩
     ·rw [q] at z;cases z
     ·have z2:=un.frzs b ob _ z
      obtain⟨e1,_⟩:=hok b _ z
      obtain⟨e2,_⟩:=hok' b _ z2
      rw [e] at e1;cases e1
      exact e2
 cases hk:K.lookup a with
 | some o =>
  have e:=KX a o hk
  rw [ha] at e
  cases e
  refine core (fun _=>none) (fun _=>.inl rfl) (.inr ⟨_,vs.toArray,_,hk,rfl,rfl,rfl,by rw [List.size_toArray,lenV];exact hl,by simpa using rv⟩) (fun b u z=>by have z':(none:Option HO)=some u:=z;cases z') (fun b z=>absurd rfl z) fun z=>absurd rfl z
 | none =>
  refine core (fun b=>if b=a then some (.frz { cls:=.type "list",data:=.seq vs.toArray } (.lst (ns.map V.int))) else none) (fun b=>?_) (.inl (.inr ⟨{ cls:=.type "list",data:=.seq vs.toArray },if_pos rfl⟩)) (fun b u z=>?_) (fun b z=>?_) fun _=>hk
  ·by_cases hb:b=a
   ·exact .inr ⟨_,_,if_pos hb⟩
   ·exact .inl (if_neg hb)
  ·by_cases hb:b=a
   ·have z':=(if_pos hb).symm.trans z
    cases z'
    subst hb
    exact⟨ha,by rw [List.length_map];exact hl,vs,_,rv,ha⟩
   ·have z':=(if_neg hb).symm.trans z
    cases z'
  ·by_cases hb:b=a
   ·exact hb
   ·exact absurd (if_neg hb) z
theorem we {l:PySem.W.OpenLaw}{n k:Nat}{q:Program}{loose:List Str}{XP:(Str->Option Value)->Heap->Prop}{YP:World->Heap->Prop}{d:DefRec}{K:Params->PySem.W.Frag}{CX:World->CXT}{sp:World->Sp}{x:Str}
  (hn:l.most=some n) (hn2:n<=sizeLine) (hdf:d.params.defaults=[]) (hr:aL k callerA)
  (hY:∀(w:World) (h:Heap),YP w h->(K w.params).In h)
  (F:∀(w:World) (mg:Str->Option Value) (fa:Addr) (h:Heap),(K w.params).In h->h.Ns mainGlobals mg->mg d.name=some (.ref fa) ->
   ∃fd:FuncData,(∀(s:Shared) (u:Value),BindsTo s fd ⟨[u],[]⟩ [(x,u)]) /\
    ∀base:Heap,(K w.params).In base->base.Ns mainGlobals mg->aG l.prog w (K w.params) mg base (CX w) k fa fd [x] (sp w))
  (hsp:∀(w:World) (H:Hp) (a:Addr) (ns:List Int),ns.length<=n->iR H->SqL (K w.params) H a (ns.map V.int)->sp w [.ref a] H (fun v _=>v=.bl true) fun _ _ _=>False)
  (hCX:∀(w:World) (H:Hp) (s:Shared) (e:Value) (s':Shared),CX w [] H s (fun _ _ _=>False) e s'->False) :
  PySem.W.WalkO q loose XP YP l.row.toRowW d [] (fun f vs=>PySem.call f vs):=by
 refine Att.wb hn hdf fun w s₀ s₁ mg mb fa o pm cd doc a vs ns G Y ho hd hcd hmg hobj hints hlen hg=>?_
 have KX:=hY w _ Y
 obtain⟨fd,hb,hF⟩:=F w mg fa _ KX G.T.g hmg
 exact pN KX G.T.g G.T.b G.T.builtins G.T.nolimit hg hobj hints (Nat.le_trans hlen hn2) hr hF hb (fun H hO hS=>hsp w H a ns hlen hO hS) fun H e s'=>hCX w H s₁ e s'
end L2
/- THE LAST THEOREM (shape;LID,My.* are yours):
  My.Adr: a structure of the addresses that your layer names (classes,functions);My.Txt K t: a structure (Prop) of the equations over K;
  My.txt_mk:{K}{implicit addresses ..} (e1:nsIn K mainGlobals "law"=some (some (.ref f))) (e2:K.lookup f=some ⟨oc,od,.func (fnOf "law" "law" params body scope dV kV doc pm an cdv ct),sl⟩) (e3:codeIn K cdv "law"=true) ..:∃t,My.Txt K t
set_option maxRecDepth 100000 in
set_option maxHeartbeats 0 in
theorem PySem.Challenge.cw_LID_holds : PySem.Challenge.rw_LID.Holds := by
 w_on;o_law;k_head;(case hw=>w_witness2)
 k_fill
 refine L2.we (l:=PySem.Challenge.rw_LID) (n:=63) (k:=40) (x:="script") (CX:=fun w=>..) (sp:=fun _=>My.sp_law) rfl (by decide) rfl ⟨rfl,by decide,by decide⟩ (fun w h Y=>PySem.W.kIn_of Y) ?F ?S ?C
 case F =>
  intro w mg fa h KX G hmg
  have T:∃t,My.Txt (L2.KOf KX) t:=by
   dsimp only [L2.KOf]
   refine' My.txt_mk ?e1 ?e2 ?e3 ..
   (case e1=>PySem.W.k_is)
   (case e2=>PySem.W.k_is)
   ..
  obtain⟨t,T⟩:=T
  have e0:=hmg.symm.trans (PySem.W.mg_of KX G T.law)
  cases e0
  exact⟨_,fun s u=>.of_eq rfl,fun base kb nb=>My.law_fn T kb nb⟩
 case S=>exact fun w H a ns hl hO hS=>..
 case C=>exact ..
(the tactic k_is has no namespace: write k_is) -/
namespace L2
open PySem PySem.Spec PyProof.Rows
noncomputable def cu (s:Stmt):Arguments:=match s with
 | .FunctionDef _ a _ _ _ _ _ _ _ _=>a
 | _=>{ posonlyargs:=[],args:=[],vararg:=none,kwonlyargs:=[],kw_defaults:=[],kwarg:=none,defaults:=[] }
noncomputable def bX (s:Stmt):List Stmt:=match s with
 | .FunctionDef _ _ b _ _ _ _ _ _ _=>b
 | _=>[]
noncomputable def aC (s:Stmt):Scope:=match s with
 | .FunctionDef _ _ _ _ _ _ sc _ _ _=>sc
 | _=>{ kind:=.function,names:=[],isGenerator:=false,isCoroutine:=false }
noncomputable abbrev CX0:CXT:=fun _ _ _ _ _ _=>False
noncomputable abbrev E0:XK:=fun _ _ _=>False
theorem vd {X:Cx}:iw CX0 X E0:=fun _ _ _ _ _ _ _ h=>h.elim
structure Fun (K:PySem.W.Frag) (x qual:Str) (st:Stmt) (f:Addr) (fd:FuncData):Prop where
 ex:∃(oc:Value) (od:Option Addr) (kV doc pm:Value) (an:Option Addr) (cdv ct:Value) (osl:Array (Option Value)),
  fd=PySem.W.fnOf x qual (cu st) (bX st) (aC st) .none kV doc pm an cdv ct/\K.lookup f=some ⟨oc,od,.func fd,osl⟩/\PySem.W.codeIn K cdv qual=true
 kp:PySem.W.keepIn K (.ref f)=true
section
variable {P:Program}{w:World}{K:PySem.W.Frag}{mg:Str->Option Value}{base:Heap}
theorem Fun.ok {x qual:Str}{st:Stmt}{f:Addr}{fd:FuncData}{N ps:List Str}{k:Nat}{sp:Sp} (F:Fun K x qual st f fd) (S:aQ N ps (aC st)) (len:∀vs H Q E,sp vs H Q E->vs.length=ps.length)
  (hbody:∀(cdv:Value) (A:Around) (outer:List Env) (s:Shared) (H:Hp) (vs:List V) (Q:VK) (E:XK),aL k (A.deeper (envOfC qual (aC st) s.heap.objs.size f cdv))->sp vs H Q E ->
   ∃t,PSs (bR CX0 P w K mg base N qual (aC st) f cdv A outer s H E).nox (bX st) t/\t { nx:=fun _ H'=>Q .non H',rt:=Q } (start N vs) H):aG P w K mg base CX0 (k + 1) f fd ps sp:=by
 obtain⟨oc,od,kV,doc,pm,an,cdv,ct,osl,rfl,lk,hcd⟩:=F.ex
 refine mh lk hcd S len fun A outer s H vs Q E hr hsp=>?_
 obtain⟨t,h,q⟩:=hbody cdv A outer s H vs Q E hr hsp
 exact⟨t,h.nox,q⟩
theorem Fun.binds {x qual:Str}{st:Stmt}{f:Addr}{fd:FuncData}{ps:List Str} (F:Fun K x qual st f fd)
  (h:∀(kV doc pm:Value) (an:Option Addr) (cdv ct:Value) (us:List Value),us.length=ps.length->bindArgs (PySem.W.fnOf x qual (cu st) (bX st) (aC st) .none kV doc pm an cdv ct) ⟨us,[]⟩=pure (ps.zip us)):Binds K fd ps []:=by
 obtain⟨oc,od,kV,doc,pm,an,cdv,ct,osl,rfl,lk,hcd⟩:=F.ex
 exact .all (h kV doc pm an cdv ct)
theorem ig {x qual:Str}{st:Stmt}{f:Addr}{oc:Value}{od an:Option Addr}{osl:Array (Option Value)}{kV doc pm cdv ct:Value} (l:K.lookup f=some ⟨oc,od,.func (PySem.W.fnOf x qual (cu st) (bX st) (aC st) .none kV doc pm an cdv ct),osl⟩)
  (c:PySem.W.codeIn K cdv qual=true) (k:PySem.W.keepIn K (.ref f)=true):Fun K x qual st f (PySem.W.fnOf x qual (cu st) (bX st) (aC st) .none kV doc pm an cdv ct):=⟨⟨oc,od,kV,doc,pm,an,cdv,ct,osl,rfl,l,c⟩,k⟩
end
theorem o6 {n:Nat} (h:n<=1000):n < sizeLine:=Nat.lt_of_le_of_lt h (by decide)
section
variable {X:Cx}
theorem pv (i:Nat) {x:Str}{pos:Pos} (hN:X.N[i]?=some x:=by rfl) (hv:Vis X.env.scope x:=by first | exact Or.inl rfl | exact Or.inr (Or.inl rfl) | exact Or.inr (Or.inr rfl)) (hd:(x == ("__debug__":Str))=false:=by decide)
  (hcd:(x == ("__classdict__":Str))=false:=by decide):PE X (.Name x pos) (mU i):=tw hN hv hd hcd
end
theorem bE {A B:Prop} (h:B):if false=true then A else B:=by
 rw [if_neg Bool.false_ne_true]
 exact h
theorem bJ {A B:Prop} (h:A):if true=true then A else B:=by
 rw [if_pos rfl]
 exact h
theorem bj {c A B:Prop} [Decidable c] (h1:c->A) (h2:¬ c->B):if c then A else B:=by
 by_cases h:c
 ·rw [if_pos h]
  exact h1 h
 ·rw [if_neg h]
  exact h2 h
theorem gg {c A B:Prop} [Decidable c] (hc:c) (h:B):if (!decide c)=true then A else B:=by
 rw [decide_eq_true hc]
 exact bE h
noncomputable def ae (H H':Hp):Prop:=∀b o,H b=some o->H' b=some o
theorem ae.refl (H:Hp):ae H H:=fun _ _ h=>h
theorem ae.trans {H H1 H2:Hp} (a:ae H H1) (b:ae H1 H2):ae H H2:=fun c o h=>b c o (a c o h)
theorem ae.free {H H':Hp} (e:ae H H') {l:Addr} (h:H' l=Option.none):H l=Option.none:=by
 cases q:H l with
 | none=>rfl
 | some o =>
  rw [e l o q] at h
  cases h
theorem ae.seq {K:PySem.W.Frag}{H H':Hp}{a:Addr}{xs:List V} (e:ae H H') (h:SqL K H a xs):SqL K H' a xs:=by
 rcases h with (h | ⟨o,h⟩) | h
 ·exact .inl (.inl (e _ _ h))
 ·exact .inl (.inr ⟨o,e _ _ h⟩)
 ·exact .inr h
noncomputable def bu (env:Env):List (Str×NameKind)->List (Str×Addr)->List (Str×Addr)
 | [],acc=>acc
 | (x,k)::r,acc=>if (k == NameKind.free)=true then (match env.cells.lookup x with | some c=>bu env r ((x,c)::acc) | none=>bu env r acc) else bu env r acc
theorem fj (env:Env):∀(ns:List (Str×NameKind)) (acc:List (Str×Addr)) (x:Str) (c:Addr),(x,c)∈bu env ns acc->(x,c)∈acc\/env.cells.lookup x=some c
 | [],acc,x,c,h=>.inl h
 | (y,k)::r,acc,x,c,h=>by
  unfold bu at h
  split at h
  ·split at h
   ·next d e =>
    rcases fj env r _ x c h with z | z
    ·rcases List.mem_cons.mp z with q | q
     ·cases q;exact .inr e
     ·exact .inl q
    ·exact .inr z
   ·exact fj env r acc x c h
  ·exact fj env r acc x c h
theorem fq (env:Env):∀(ns:List (Str×NameKind)) (acc:List (Str×Addr)) (p:Str×Addr),p∈acc->p∈bu env ns acc
 | [],acc,p,h=>h
 | (y,k)::r,acc,p,h=>by
  unfold bu
  split
  ·split
   ·exact fq env r _ p (List.mem_cons_of_mem _ h)
   ·exact fq env r _ p h
  ·exact fq env r _ p h
theorem fC (env:Env):∀(ns:List (Str×NameKind)) (acc:List (Str×Addr)) (x:Str) (c:Addr),(x,NameKind.free)∈ns->env.cells.lookup x=some c->(x,c)∈bu env ns acc
 | [],acc,x,c,h,_=>nomatch h
 | (y,k)::r,acc,x,c,h,e=>by
  unfold bu
  rcases List.mem_cons.mp h with q | q
  ·cases q
   rw [if_pos (show (NameKind.free == NameKind.free)=true from rfl),e]
   exact fq env r _ _ List.mem_cons_self
  ·split
   ·split
    ·exact fC env r _ x c q e
    ·exact fC env r _ x c q e
   ·exact fC env r _ x c q e
theorem qp {l:List (Str×Addr)}{x:Str}{c:Addr} (h:(x,c)∈l):∃d,l.lookup x=some d:=by
 induction l with
 | nil=>cases h
 | cons p r ih =>
  obtain⟨y,d⟩:=p
  rw [List.lookup_cons]
  cases hx:x == y with
  | true=>exact⟨d,rfl⟩
  | false =>
   rcases List.mem_cons.mp h with q | q
   ·cases q
    rw [beq_self_eq_true] at hx
    cases hx
   ·exact ih q
theorem ck {env:Env}{ns:List (Str×NameKind)}{x:Str}{c:Addr} (h:(bu env ns []).lookup x=some c):env.cells.lookup x=some c:=by
 rcases fj env ns [] x c (PySem.mem_of_lookup h) with z | z
 ·cases z
 ·exact z
theorem jV {env:Env}{ns:List (Str×NameKind)}{x:Str}{c:Addr} (h:(x,NameKind.free)∈ns) (e:env.cells.lookup x=some c):(bu env ns []).lookup x=some c:=by
 obtain⟨d,q⟩:=qp (fC env ns [] x c h e)
 rw [q,<- ck q,e]
theorem oj {env:Env}{scope:Scope} (h:∀x∈scope.names,x.2=NameKind.free->∃c,env.cells.lookup x.1=some c):closureFor scope env=pure (bu env scope.names []):=by
 have go:∀(ns:List (Str×NameKind)) (acc:List (Str×Addr)),(∀x∈ns,x.2=NameKind.free->∃c,env.cells.lookup x.1=some c) ->
   (forIn ns acc (fun x cs=>match x with | (name,kind)=>if (kind == NameKind.free)=true then (do let c <- cellOf env name;pure (ForInStep.yield ((name,c)::cs))) else pure (ForInStep.yield cs)):Sem (List (Str×Addr)))=pure (bu env ns acc):=by
  intro ns
  induction ns with
  | nil=>intro acc _;rfl
  | cons p r ih =>
   intro acc hh
   obtain⟨y,k⟩:=p
   rw [List.forIn_cons]
   unfold bu
   by_cases hk:(k == NameKind.free)=true
   ·rw [if_pos hk]
    obtain⟨c,e⟩:=hh (y,k) List.mem_cons_self (by cases k <;> first | rfl | cases hk)
    dsimp only at e ⊢
    rw [if_pos hk]
    unfold cellOf
    rw [e]
    exact ih _ fun x hx=>hh x (List.mem_cons_of_mem _ hx)
   ·rw [if_neg hk]
    dsimp only
    rw [if_neg hk]
    exact ih _ fun x hx=>hh x (List.mem_cons_of_mem _ hx)
 unfold closureFor
 have q:=go scope.names [] h
 simp only [bind_pure]
 exact q
noncomputable def aB (X:Cx) (scope:Scope) (N:List Str) (C:Addr) (s0:Shared) (H0:Hp) (fp:List Addr):Cx :=
 { X with N:=N,s₀:=s0,H₀:=H0,env:=compEnvC scope (bu X.env scope.names []) C X.env,outer:=X.stack,stack:=X.stack,ex:=fp,fn:=fun _=>false,pn:=[],xe:=fun _ _=>False }
noncomputable def emb (ix:List (Option Nat)) (σ:St):St:=ix.map fun o=>match o with | none=>none | some j=>(σ[j]?).join
noncomputable def iI (No:List Str) (out:Str->Option NameKind) (scope:Scope) (N:List Str) (ix:List (Option Nat)):Bool :=
 (N.length == ix.length) && (N.zip ix).all fun p=>match p.2 with | none=>true | some j=>(No[j]? == some p.1) && (scope.names.lookup p.1 == some NameKind.free) && ((out p.1 == some .cell) || (out p.1 == some .free))
structure br (X:Cx) (scope:Scope) (N:List Str) (ix:List (Option Nat)):Prop where
 kind:scope.kind=.function
 names:scope.names.all (fun x=>(x.2 != .cell) && ((x.2 != .local) || (scope.names.lookup x.1 == some .local)) && ((x.2 != .free) || (X.env.kindOf x.1 == some .cell) || (X.env.kindOf x.1 == some .free)))=true
 em:iI X.N X.env.kindOf scope N ix=true
 nd:N.Nodup
theorem iF {scope:Scope}{env:Env}{x:Str}{k:NameKind}:∀{ns:List (Str×NameKind)},(ns.map fun (n,k)=>if (k == NameKind.free && env.scope.kind == .function && env.kindOf n == some .cell)=true then (n,NameKind.cell) else (n,k)).lookup x=some k ->
  (k=.cell\/k=.free)->(∀y∈ns,y.2≠.cell)->(x,NameKind.free)∈ns
 | [],h,_,_=>by cases h
 | (n,k')::r,h,hk,hc=>by
  have ih:=fun h'=>iF (scope:=scope) (env:=env) (x:=x) (k:=k) (ns:=r) h' hk fun y hy=>hc y (List.mem_cons_of_mem _ hy)
  have key:∀k'':NameKind,List.lookup x ((n,k'')::(r.map fun (n,k)=>if (k == NameKind.free && env.scope.kind == .function && env.kindOf n == some .cell)=true then (n,NameKind.cell) else (n,k)))=some k ->
    (k''=k'\/(k''=.cell/\k'=.free))->(x,NameKind.free)∈(n,k')::r:=fun k'' h hq=>by
   rw [List.lookup_cons] at h
   cases hx:x == n with
   | true =>
    rw [hx] at h
    cases h
    have e:x=n:=eq_of_beq hx
    subst e
    rcases hq with q | ⟨_,q⟩
    ·rcases hk with z | z
     ·exact absurd (q.symm.trans z) (hc (x,k') List.mem_cons_self)
     ·rw [<- q,z];exact List.mem_cons_self
    ·rw [q];exact List.mem_cons_self
   | false =>
    rw [hx] at h
    exact List.mem_cons_of_mem _ (ih h)
  rw [List.map_cons] at h
  dsimp only at h
  split at h
  ·next hh =>
   refine key _ h (.inr ⟨rfl,?_⟩)
   cases k' <;> first | rfl | (simp at hh)
  ·exact key _ h (.inl rfl)
theorem lE {env:Env}{x:Str}:∀{ns:List (Str×NameKind)},ns.lookup x=some NameKind.free->∃k,(k=NameKind.cell\/k=NameKind.free) /\
  (ns.map fun (n,k)=>if (k == NameKind.free && env.scope.kind == .function && env.kindOf n == some .cell)=true then (n,NameKind.cell) else (n,k)).lookup x=some k
 | [],h=>by cases h
 | (n,k')::r,h=>by
  rw [List.lookup_cons] at h
  rw [List.map_cons]
  dsimp only
  cases hx:x == n with
  | true =>
   rw [hx] at h
   cases h
   split
   ·exact⟨_,.inl rfl,by rw [List.lookup_cons,hx]⟩
   ·exact⟨_,.inr rfl,by rw [List.lookup_cons,hx]⟩
  | false =>
   rw [hx] at h
   obtain⟨k,hk,e⟩:=lE (env:=env) (ns:=r) h
   refine⟨k,hk,?_⟩
   split <;> (rw [List.lookup_cons,hx];exact e)
section
variable {X:Cx}{scope:Scope}{N:List Str}{ix:List (Option Nat)}
theorem br.nocell (L:br X scope N ix):∀x∈scope.names,x.2≠.cell:=fun x hx z=>by
 have q:=List.all_eq_true.mp L.names x hx
 rw [z] at q
 simp at q
theorem br.locals (L:br X scope N ix):∀x∈scope.names,x.2=.local->scope.names.lookup x.1=some .local:=fun x hx z=>by
 have q:=List.all_eq_true.mp L.names x hx
 rw [z] at q
 simpa using q
theorem br.frees (L:br X scope N ix):∀x∈scope.names,x.2=.free->X.env.kindOf x.1=some .cell\/X.env.kindOf x.1=some .free:=fun x hx z=>by
 have q:=List.all_eq_true.mp L.names x hx
 rw [z] at q
 simpa using q
theorem br.clos (L:br X scope N ix) (ok:X.Ok):closureFor scope X.env=pure (bu X.env scope.names []) :=
 oj fun x hx z=>ok.has _ (L.frees x hx z)
theorem br.len (L:br X scope N ix):N.length=ix.length:=by
 have q:=L.em
 unfold iI at q
 rw [Bool.and_eq_true] at q
 exact eq_of_beq q.1
theorem br.out (L:br X scope N ix) {i j:Nat}{x:Str} (h1:N[i]?=some x) (h2:ix[i]?=some (some j)):X.N[j]?=some x/\scope.names.lookup x=some NameKind.free/\(X.env.kindOf x=some .cell\/X.env.kindOf x=some .free):=by
 have q:=L.em
 unfold iI at q
 rw [Bool.and_eq_true] at q
 have hz:(N.zip ix)[i]?=some (x,some j):=by
  rw [List.getElem?_zip_eq_some]
  exact⟨h1,h2⟩
 have r:=List.all_eq_true.mp q.2 _ (List.mem_of_getElem? hz)
 simp only [Bool.and_eq_true,Bool.or_eq_true,beq_iff_eq] at r
 exact⟨r.1.1,r.1.2,r.2⟩
theorem vp (L:br X scope N ix) {pins:List (Addr×Obj)}{σ:St}{H2:Hp}{s2:Shared}{C:Addr}{fp:List Addr} (I2:Inv X pins σ H2 s2) (hC:s2.heap.objs.size<=C) (hf:∀b∈fp,bv X pins H2 b) (hb:∀b∈fp,b < s2.heap.objs.size) :
  (aB X scope N C s2 H2 fp).Ok where
 mod:=I2.ok.mod
 kind:=L.kind
 glob:=I2.ok.glob
 blt:=I2.ok.blt
 above:=hC
 inj:=fun x y c h1 h2=>I2.ok.inj x y c (ck h1) (ck h2)
 has:=fun x hx=>by
  have hm:(x,NameKind.free)∈scope.names:=by
   rcases hx with hx | hx
   ·exact iF (scope:=scope) (env:=X.env) hx (.inl rfl) L.nocell
   ·exact iF (scope:=scope) (env:=X.env) hx (.inr rfl) L.nocell
  obtain⟨c,e⟩:=I2.ok.has x (L.frees _ hm rfl)
  exact⟨c,jV hm e⟩
 cab:=fun x c h _=>Bool.noConfusion h
 hd:=I2.ok.hd
 frames:=I2.ok.frames
 stk:=.inl rfl
 exf:=fun b h=>⟨Nat.ne_of_lt (Nat.lt_of_lt_of_le (hb b h) hC),fun x c e=>(hf b h).2.2.2.2.1 x c (ck e)⟩
 bs:=fun b o e=>I2.bs b o e
 bsz:=Nat.le_trans I2.ok.bsz I2.sz
 noex:=fun b o e h=>by
  rcases (hf b h).2.2.2.1 with z | z
  ·exact I2.ok.noex b o e z
  ·exact absurd (Nat.lt_of_lt_of_le (Heap.lt_size e) (Nat.le_trans I2.ok.bsz z)) (Nat.lt_irrefl _)
 exfs:=fun b h z=>(List.mem_cons.mp (I2.stkSub b z)).elim (hf b h).2.1 (hf b h).2.2.1
 funs:=I2.stack
 frf:=fun b h=>I2.stkFree b h
end
noncomputable def PTs (X:Cx) (ifs:List Expr) (t:TT):Prop :=
 ∀(pins:List (Addr×Obj)) (s:Shared) (σ:St) (H:Hp) (Q:Bool->Hp->Prop),Inv X pins σ H s->t σ H Q ->
  wpAny (model X.prog X.w) X.A (forIn ifs true fun c r=>if r=true then do let ok <- isTrue c X.env (eval c X.env);pure (ForInStep.yield ok) else pure (ForInStep.yield r)) (TP X pins σ Q) X.xe s
noncomputable def bq:TT:=fun _ H Q=>Q true H
theorem bw {X:Cx}:PTs X [] bq:=fun _ _ _ H _ I h=>wpAny_tests_nil ⟨H,I,h⟩
theorem dD {X:Cx}{c:Expr}{t:TT} (h:PT X c t):PTs X [c] t:=fun pins s σ H Q I q=>wpAny_tests_one (h pins s σ H Q I q)
section
variable {prog:Program}{w:World}{A:Around}{R:Result->Shared->Prop}{s:Shared}
theorem rY {elt tg iter:Expr}{ifs:List Expr}{scope:Scope}{pos:Pos}{it acc:Value}{env:Env} (J:Nat->Shared->Prop)
  (turn:∀n s,J n s->wpAny (model prog w) A (pyNext it) (fun r s1=>match r with
   | none=>R (.ok .next) s1
   | some v=>wpAny (model prog w) A (letOwnedTupleGo tg it v) (fun _ s2=>wpAny (model prog w) A (assign tg env v) (fun _ s3 =>
     wpAny (model prog w) A (forIn ifs true fun c r=>if r=true then do let ok <- isTrue c env (eval c env);pure (ForInStep.yield ok) else pure (ForInStep.yield r)) (fun ok s4 =>
      if ok=true then wpAny (model prog w) A (eval elt env) (fun x s5=>wpAny (model prog w) A (call (.builtin "list.append") [acc,x]) (fun _ s6=>∃m,m < n/\J m s6) (fun _ _=>False) s5) (fun _ _=>False) s4
      else ∃m,m < n/\J m s4) (fun _ _=>False) s3) (fun _ _=>False) s2) (fun _ _=>False) s1) (fun _ _=>False) s)
  (n:Nat) (h:J n s):codeAny (model prog w) A (.compLoop (.ListComp elt [⟨tg,iter,ifs,0⟩] scope pos) 0 it acc env) R s:=by
 refine codeAny_loop rfl J (fun k t hJ=>?_) n h
 show wpAny _ A ((compTurn (.ListComp elt [⟨tg,iter,ifs,0⟩] scope pos) 0 it acc env).onRaise (fun x=>do noteFrame x env;theTreesLotGoes x)) _ _ t
 refine wpAny_noted (wpAny_mono (E:=fun _ _=>False) ?_ (fun _ _ q=>q) fun _ _ f=>f.elim)
 rw [compTurn_list]
 refine wpAny_bind (wpAny_standAt (wpAny_bind (thn (turn k t hJ) fun r s1 h1=>?_)))
 cases r with
 | none=>exact wpAny_pure h1
 | some v =>
  refine wpAny_bind (thn h1 fun _ s2 h2=>wpAny_bind (thn h2 fun _ s3 h3=>wpAny_bind (thn h3 fun ok s4 h4=>?_)))
  cases ok with
  | false=>exact wpAny_pure ⟨rfl,h4⟩
  | true=>exact wpAny_bind (wpAny_bind (thn h4 fun x s5 h5=>wpAny_bind (thn h5 fun _ s6 h6=>wpAny_pure (wpAny_pure ⟨rfl,h6⟩))))
end
noncomputable def LcW (J:It) (g:TG) (tt:TT) (te:TE) (σ':St) (fin:List V->Hp->Prop) (H1:Hp):Prop :=
 ∃W:Nat->Nat->List V->St->Hp->Prop,(∃m,W 0 m [] σ' H1)/\∀i m ys σ H,W i m ys σ H ->
  (J.stop i H/\ys.length<=sizeLine/\fin ys H)\/(J.go i H/\ys.length < sizeLine/\∃Nx:List V->St->Hp->Prop,(∀ys' σ' H',Nx ys' σ' H'->∃m',m' < m/\W (i + 1) m' ys' σ' H') /\
   ∀x H',J.yld i H x H'->g x σ H' fun σ2 H2=>tt σ2 H2 fun b H3=>if b=true then te σ2 H3 (fun v H4=>Nx (ys++[v]) σ2 H4) else Nx ys σ2 H3)
noncomputable def tLc (wi:TI) (g:TG) (tt:TT) (te:TE) (ix:List (Option Nat)):TE:=fun σ H Q=>wi σ H fun J H1=>LcW J g tt te (emb ix σ) (fun ys H'=>∀p,H' p=none->Q (.ref p) (upd H' p (.lst ys))) H1
section
variable {X:Cx}{scope:Scope}{N:List Str}{ix:List (Option Nat)}
theorem uz {pins pins':List (Addr×Obj)}{σ σ':St}{H2 H':Hp}{s2 s':Shared}{C D:Addr}{fp:List Addr}{ys:List V}{its:List Value}{k:Nat}{h':Heap} (I2:Inv X pins σ H2 s2) (hf:∀b∈fp,bv X pins H2 b)
  (I':Inv (aB X scope N C s2 H2 fp) pins' σ' H' s') (hC:s2.heap.objs.size<=C) (hD:s2.heap.objs.size<=D) (hDC:D≠C) (hn:H' D=none) (ho:s'.heap.get? D=some { cls:=.type "list",data:=.seq its.toArray k }) (rv:ak ys its) (hz:ys.length<=sizeLine)
  (hs:∀b o,b≠C->s'.heap.get? b=some o->h'.get? b=some o):Inv X pins σ (upd H' D (.lst ys)) { s' with heap:=h' }:=by
 have B:Un (frs X.stack) fp H2 H' s2.heap s'.heap:=I'.base
 have neC:∀b o,s2.heap.get? b=some o->b≠C:=fun b o e=>Nat.ne_of_lt (Nat.lt_of_lt_of_le (Heap.lt_size e) hC)
 have neD:∀b o,s2.heap.get? b=some o->b≠D:=fun b o e=>Nat.ne_of_lt (Nat.lt_of_lt_of_le (Heap.lt_size e) hD)
 have hCn:H' C=none:=I'.free
 have tD:∀b u,H' b=some u->b≠D:=fun b u e=>aI e hn
 have tC:∀b u,H' b=some u->b≠C:=fun b u e=>aI e hCn
 refine I2.call' (s':={ s' with heap:=h' }) (ch:=fp) I'.os ⟨fun b o e n hb hx=>?_,fun b o e n hb hx=>?_,fun b o e n hx=>?_,fun b o e hx=>?_,fun b xs e=>?_,fun b o u e=>?_,fun b ps e=>?_⟩ (fun b u e=>?_) I'.bare fun b hb=>⟨(hf b hb).2.2.2.1,(hf b hb).2.1,(hf b hb).2.2.2.2.1,(hf b hb).2.2.2.2.2⟩
 ·exact hs b o (neC b o e) (B.keep b o e n hb hx)
 ·obtain⟨sl,q⟩:=B.slot b o e n hb hx
  exact⟨sl,hs b _ (neC b o e) q⟩
 ·rw [aj (neD b o e)];exact B.free b o e n hx
 ·obtain⟨o',q⟩:=B.there b o e hx
  exact⟨o',hs b o' (neC b o e) q⟩
 ·rw [aj (tD b _ (B.tups b xs e))];exact B.tups b xs e
 ·rw [aj (tD b _ (B.frzs b o u e))];exact B.frzs b o u e
 ·obtain⟨m,q⟩:=B.tbls b ps e
  exact⟨m,by rw [aj (tD b _ q)];exact q⟩
 ·by_cases hb:b=D
  ·subst hb
   rw [ah] at e
   cases e
   exact⟨hz,its,k,rv,hs b _ hDC ho⟩
  ·rw [aj hb] at e
   refine (I'.hok b u e).stay (fun c v hc q=>hs c v ?_ q) (fun c q=>by rw [aj (tD c _ q)];exact q) fun c xs q=>by rw [aj (tD c _ q)];exact q
   rcases hc with z | z
   ·rw [z];exact tC b u e
   ·exact tC c _ z
theorem mn (L:br X scope N ix) {pins:List (Addr×Obj)}{σ:St}{H2:Hp}{s2:Shared}{C:Addr}{fp:List Addr}{h1:Heap}{tk:Nat}{m:Str->Option Value} (I2:Inv X pins σ H2 s2) (hC:s2.heap.objs.size<=C) (hf:∀b∈fp,bv X pins H2 b) (hb:∀b∈fp,b < s2.heap.objs.size)
  (kp:∀b o,s2.heap.get? b=some o->h1.get? b=some o) (hn:h1.Ns C m):Inv (aB X scope N C s2 H2 fp) [] (emb ix σ) H2 { s2 with heap:=h1,toks:=tk }:=by
 refine⟨vp L I2 hC hf hb,rfl,I2.bare,Un.kept kp,⟨m,hn,fun i x v e1 e2 e3=>?_⟩,fun x c e=>?_,I2.hok.fresh hC,fun x c e=>I2.freeC x c (ck e),fun p hp=>absurd (show p∈([]:List (Addr×Obj)) from hp) (by simp),I2.hok.kept kp,?_⟩
 ·unfold emb at e2
  rw [List.getElem?_map] at e2
  cases q:ix[i]? with
  | none=>rw [q] at e2;cases e2
  | some o =>
   rw [q] at e2
   cases o with
   | none=>cases e2
   | some j =>
    have e2':(σ[j]?).join=some v:=Option.some.inj e2
    have e4:σ[j]?=some (some v):=by
     cases z:σ[j]? with
     | none=>rw [z] at e2';cases e2'
     | some y=>rw [z] at e2';exact congrArg some e2'
    obtain⟨a1,a2,a3⟩:=L.out e1 q
    obtain⟨mo,_,hl⟩:=I2.loc
    obtain⟨u,r,lk⟩:=hl j x v a1 e4 (.inr a3)
    refine⟨u,r,?_⟩
    rcases lk with ⟨k,_⟩ | ⟨k,c,e,o,ho,hd⟩
    ·rcases a3 with z | z
     ·rw [z] at k;cases k
     ·rw [z] at k;cases k
    ·obtain⟨k',hk',e'⟩:=lE (env:=X.env) a2
     refine .inr ⟨?_,c,jV (PySem.mem_of_lookup a2) e,o,kp _ _ ho,hd⟩
     rcases hk' with z | z
     ·subst z;exact .inl e'
     ·subst z;exact .inr e'
 ·obtain⟨v,o,ho,hd⟩:=I2.cell x c (ck e)
  exact⟨v,o,kp _ _ ho,hd⟩
 ·unfold emb
  rw [List.length_map]
  exact L.len.symm
variable {tg iter elt:Expr}{ifs:List Expr}{pos:Pos}{g:TG}{tt:TT}{te:TE}
theorem lH (L:br X scope N ix) (hc:X.calm=true) (hg:∀C s0 H0 fp,PG (aB X scope N C s0 H0 fp) tg g) (ht:∀C s0 H0 fp,PTs (aB X scope N C s0 H0 fp) ifs tt) (he:∀C s0 H0 fp,PE (aB X scope N C s0 H0 fp) elt te)
  {pins:List (Addr×Obj)}{σ:St}{H2:Hp}{s2:Shared}{it:Addr}{fp:List Addr}{tn:Nat->Heap->Prop}{J:It}{fin:List V->Hp->Prop}{E:Value->Shared->Prop}{RR:Value->Addr->Result->Shared->Prop}
  (I2:Inv X pins σ H2 s2) (T:Turn X.prog X.w X.K tg J fp it tn) (st:tn 0 s2.heap) (f2:∀b∈fp,bv X pins H2 b) (hW:LcW J g tt te (emb ix σ) fin H2)
  (hRR:∀D C s' m ys H',s'.heap.Ns C m->s'.os=s2.os->D≠C->bv X pins (upd H' D (.lst ys)) C->(∀h',Heap.SameBut C s'.heap h'->Inv X pins σ (upd H' D (.lst ys)) { s' with heap:=h' })->H' D=none->fin ys H'->RR (.ref D) C (.ok .next) s') :
  wpAny (model X.prog X.w) X.A (newList []) (fun acc s3=>wpAny (model X.prog X.w) X.A (newFunctionEnv scope X.env.globals (bu X.env scope.names []) [] X.env.qual none .none (some X.env)) (fun cenv s4 =>
   codeAny (model X.prog X.w) X.A (.compStart (.ListComp elt [⟨tg,iter,ifs,0⟩] scope pos) 0 (.ref it) acc { cenv with scope:=relabel scope X.env }) (RR acc cenv.locals) s4) E s3) E s2:=by
 obtain⟨W,⟨m0,w0⟩,turn⟩:=hW
 have hb2:∀b∈fp,b < s2.heap.objs.size:=fun b hb=>by
  obtain⟨o,e,_⟩:=T.obj _ _ st b hb
  exact Heap.lt_size e
 refine wpAny_newObj_type (wpAny_newFunctionEnv L.nocell (by intro y hy;simp at hy) (fun h1 hns hsb=>?_) L.kind)
 dsimp only at hns hsb ⊢
 generalize hG:s2.heap.push { cls:=.type "list",dict:=none,data:=.seq ([]:List Value).toArray }=G at hns hsb ⊢
 have hGs:G.objs.size=s2.heap.objs.size + 1:=by rw [<- hG,Heap.size_push]
 generalize hDe:s2.heap.objs.size=D at hGs hb2
 generalize hCe:G.objs.size=C at hGs hns hsb ⊢
 have hDC:D≠C:=by omega
 have nq:∀b:Nat,b < s2.heap.objs.size->b≠C/\b≠D:=fun b h=>⟨by omega,by omega⟩
 have nq2:∀b∈fp,b≠C/\b≠D:=fun b hb=>nq b (by rw [hDe];exact hb2 b hb)
 have kG:∀b o,s2.heap.get? b=some o->G.get? b=some o:=fun b o e=>by rw [<- hG];exact Heap.get?_push_of_some _ e
 have kp:∀b o,s2.heap.get? b=some o->h1.get? b=some o:=fun b o e=>hsb.extBut b o (nq b (Heap.lt_size e)).1 (Heap.get?_push_of_some _ (kG b o e))
 have oD:∃n,h1.get? D=some { cls:=.type "list",data:=.seq ([]:List Value).toArray n }:=⟨_,hsb.extBut _ _ hDC (Heap.get?_push_of_some _ (by rw [<- hG,<- hDe];exact Heap.get?_push_size _ rfl))⟩
 have I4:=mn L (tk:=s2.toks + ([]:List (Str×Value)).length) I2 (C:=C) (by omega) f2 (by rw [hDe];exact hb2) kp hns
 have st4:tn 0 h1:=T.keep _ _ _ st fun b _ o e=>kp b o e
 have hDf:D∉(aB X scope N C s2 H2 fp).fs:=fun z=>by
  have z':D∈frs X.stack:=z
  rcases List.mem_cons.mp (I2.stkSub D z') with q | q
  ·exact (nq _ I2.lt).2 q.symm
  ·exact I2.nofs (a:=D) (by omega) q
 have cellD:∀x c,(aB X scope N C s2 H2 fp).env.cells.lookup x=some c->c≠D:=fun x c e z=>by
  obtain⟨v,o,ho,_⟩:=I2.cell x c (ck e)
  exact (nq c (Heap.lt_size ho)).2 z
 have stat:∀{H':Hp}{pl:List (Addr×Obj)},(∀b∈fp,H' b=none)->(∀p∈pl,p.1=D)->∀b∈fp,bv (aB X scope N C s2 H2 fp) pl H' b:=fun {H' pl} hn hp b hb=>by
  have hlt:=hb2 b hb
  refine⟨hn b hb,(nq2 b hb).1,fun z=>?_,.inl hb,fun x c e=>(f2 b hb).2.2.2.2.1 x c (ck e),fun p hq z=>?_⟩
  ·exact (List.mem_cons.mp (I2.stkSub b z)).elim (f2 b hb).2.1 (f2 b hb).2.2.1
  ·have hq':p∈pl:=by simpa [aB] using hq
   exact (nq2 b hb).2 (z.symm.trans (hp p hq'))
 have pinD:∀{pl:List (Addr×Obj)}{σ':St}{H':Hp}{s':Shared}{o:Obj},Inv (aB X scope N C s2 H2 fp) pl σ' H' s'->s'.heap.get? D=some o->H' D=none->(∀v,o.data≠.cell v)->Inv (aB X scope N C s2 H2 fp) [(D,o)] σ' H' s' :=
  fun {pl σ' H' s' o} I' ho hn hd=>I'.pins_of fun p hp=>by
   have e:p=(D,o):=by simpa using hp
   subst e
   exact⟨ho,hn,hDC,hDf,hd⟩
 have loop:∀s4:Shared,s4={ s2 with heap:=h1,toks:=s2.toks + ([]:List (Str×Value)).length } ->
   codeAny (model X.prog X.w) X.A (.compLoop (.ListComp elt [⟨tg,iter,ifs,0⟩] scope pos) 0 (.ref it) (.ref D) (aB X scope N C s2 H2 fp).env) (RR (.ref D) C) s4:=by
  rintro s4 rfl
  refine rY (fun n s'=>∃i σ' H' ys its k,Inv (aB X scope N C s2 H2 fp) [(D,{ cls:=.type "list",data:=.seq its.toArray k })] σ' H' s'/\tn i s'.heap/\(∀b∈fp,H' b=none)/\ak ys its/\W i n ys σ' H') ?_ m0 ?_
  ·rintro n s' ⟨i,σ',H',ys,its,k,I',st',fr',rv,w'⟩
   have hD':=I'.pin _ (List.mem_append_right _ List.mem_cons_self)
   rcases turn i n ys σ' H' w' with ⟨stop,hz,qf⟩ | ⟨go,hz,Nx,hN,step⟩
   ·refine thn (T.done (aB X scope N C s2 H2 fp) rfl rfl rfl hc i _ s' σ' H' _ I' (stat fr' (by simp)) st' stop) fun r s5 ⟨hr,I5⟩=>?_
    subst hr
    have hD5:=I5.pin _ (List.mem_append_right _ List.mem_cons_self)
    obtain⟨m5,hn5,_⟩:=I5.loc
    refine hRR D C s5 m5 ys H' hn5 I5.os hDC (I2.fpOk (by omega) (by rw [aj (Ne.symm hDC)];exact I5.free)) (fun h' hs'=>?_) hD5.2.1 qf
    exact uz I2 f2 I5 (by omega) (by omega) hDC hD5.2.1 hD5.1 rv hz fun b o hb e=>hs'.extBut b o hb e
   ·refine thn (T.item (aB X scope N C s2 H2 fp) rfl rfl rfl hc i _ s' σ' H' _ I' (stat fr' (by simp)) st' go) fun r s5 ⟨u,hr,h5⟩=>?_
    subst hr
    refine thn h5 fun _ s6 ⟨x,H6,I6,r6,y6,st6,fr6⟩=>?_
    have I6':=I6.pinned (stat fr6 (by simp)) (T.obj _ _ st6)
    refine thn (hg C s2 H2 fp _ s6 σ' H6 x u _ I6' r6 (step x H6 y6)) fun _ s7 ⟨σ7,H7,I7,q7⟩=>?_
    refine thn (ht C s2 H2 fp _ s7 σ7 H7 _ I7 q7) fun ok s8 ⟨H8,I8,q8⟩=>?_
    have back:∀{H9:Hp}{s9:Shared},Inv (aB X scope N C s2 H2 fp) ([(D,{ cls:=.type "list",data:=.seq its.toArray k })]++dN fp s6.heap) σ7 H9 s9->tn (i + 1) s9.heap/\∀b∈fp,H9 b=none:=fun {H9 s9} I9=>by
     refine⟨T.keep _ _ _ st6 fun b hb o e=>(I9.pin (b,o) (List.mem_append_right _ (List.mem_append_right _ (dk hb e)))).1,fun b hb=>?_⟩
     obtain⟨o,e,d⟩:=T.obj _ _ st6 b hb
     exact (I9.pin (b,o) (List.mem_append_right _ (List.mem_append_right _ (dk hb e)))).2.1
    cases ok with
    | false =>
     rw [if_neg Bool.false_ne_true] at q8 ⊢
     obtain⟨m',hm,w8⟩:=hN _ _ _ q8
     obtain⟨st8,fr8⟩:=back I8
     exact⟨m',hm,i + 1,σ7,H8,ys,its,k,I8.unpinned,st8,fr8,rv,w8⟩
    | true =>
     rw [if_pos rfl] at q8 ⊢
     refine thn (he C s2 H2 fp _ s8 σ7 H8 _ I8 q8) fun y s9 ⟨v,H9,I9,r9,q9⟩=>?_
     have hD9:=I9.pin _ (List.mem_append_right _ (List.mem_append_left _ List.mem_cons_self))
     obtain⟨st9,fr9⟩:=back I9
     refine wpAny_list_append_plain (hsz:=by have:=rv.length;rw [List.size_toArray];omega) ⟨k,hD9.1⟩ fun h' hl' hs'=>?_
     obtain⟨m',hm,w9⟩:=hN _ _ _ q9
     obtain⟨k',ho'⟩:=hl'
     have I10:Inv (aB X scope N C s2 H2 fp) [] σ7 H9 { s9 with heap:=h' }:=(I9.pins_of (pins':=[]) fun p hp=>absurd hp (by simp)).turned (t':=s9.toks) (it:=D) (fun b o hb e=>hs'.extBut b o hb e) hD9.2.1 hDC (.inr (by show s2.heap.objs.size<=D;omega)) cellD (fun p hp=>absurd hp (by simp [aB]))
     refine⟨m',hm,i + 1,σ7,H9,ys++[v],its++[y],k',pinD I10 (by rw [ho'];simp) hD9.2.1 (fun v z=>by cases z),?_,fr9,rv.append (.cons r9 .nil),w9⟩
     exact T.keep _ _ _ st9 fun b hb o e=>hs'.extBut b o (nq2 b hb).2 e
  ·obtain⟨n,e⟩:=oD
   exact⟨0,emb ix σ,H2,[],[],n,pinD I4 e (I2.hok.fresh (by omega)) (fun v z=>by cases z),st4,fun b hb=>(f2 b hb).1,.nil,w0⟩
 have q:=loop _ rfl
 exact codeAny_compStart_list q (T.self _ 0 _ _ _ st4 q)
end
theorem gw {ss:List Str}:∀{us:List Value},ak (ss.map V.str) us->StrsAre us ss:=by
 induction ss with
 | nil=>intro us r;rw [List.map_nil] at r;cases r;exact .nil
 | cons n ns ih =>
  intro us r
  rw [List.map_cons] at r
  cases r with
  | cons r1 r2 =>
   obtain⟨t,e⟩:=r1
   subst e
   exact .cons n t (ih r2)
theorem jE:∀{vs:List Value}{ss:List Str},StrsAre vs ss->ak (ss.map V.str) vs
 | _,_,.nil=>.nil
 | _,_,.cons n t h=>.cons ⟨t,rfl⟩ (jE h)
section
variable {X:Cx}
variable {scope:Scope}{N:List Str}{ix:List (Option Nat)}{tg iter elt:Expr}{ifs:List Expr}{pos:Pos}{g:TG}{tt:TT}{te:TE}{wi:TI}
theorem bC (L:br X scope N ix) (hc:X.calm=true) (hi:PI X tg iter wi) (hg:∀C s0 H0 fp,PG (aB X scope N C s0 H0 fp) tg g) (ht:∀C s0 H0 fp,PTs (aB X scope N C s0 H0 fp) ifs tt) (he:∀C s0 H0 fp,PE (aB X scope N C s0 H0 fp) elt te)
  (hs:∀x,foldedSetIterable iter X.env x=pure x:=by intro _;rfl):PE X (.ListComp elt [⟨tg,iter,ifs,0⟩] scope pos) (tLc wi g tt te ix):=by
 intro pins s σ H Q I h
 rw [eval_ListComp]
 refine wpAny_comprehension_free (use:=none) rfl hs (L.clos I.ok) L.kind L.locals (thn (hi pins s σ H _ I h) fun v s1 h1=>thn h1 fun itv s2 h2=>?_)
 obtain⟨it,fp,tn,J,H2,rfl,I2,T,st2,f2,hW⟩:=h2
 refine lH (RR:=fun acc C=>compPost (model X.prog X.w) X.A X.xe none (EP X pins σ Q) acc C) L hc hg ht he I2 T st2 f2 hW ?_
 intro D C s' m ys H' hn ho hDC hC hI hD fin
 exact⟨m,hn,fun h' hs'=>⟨.ref D,_,hI h' hs',rfl,fin D hD⟩⟩
noncomputable def lG (i:Nat) (wi:TI) (g:TG) (tt:TT) (te:TE) (ix:List (Option Nat)):TS:=fun D σ H=>wi σ H fun J H1=>LcW J g tt te (emb ix σ) (fun ys H'=>∀p,H' p=none->D.nx (σ.set i (some (.ref p))) (upd H' p (.lst ys))) H1
theorem dq {i:Nat}{y:Str}{py spos:Pos} (hN:X.N.Nodup) (hi':X.N[i]?=some y) (hx:Loc X.env.scope y) (L:br X scope N ix) (hc:X.calm=true) (hi:PI X tg iter wi) (hg:∀C s0 H0 fp,PG (aB X scope N C s0 H0 fp) tg g)
  (ht:∀C s0 H0 fp,PTs (aB X scope N C s0 H0 fp) ifs tt) (he:∀C s0 H0 fp,PE (aB X scope N C s0 H0 fp) elt te)
  (hsw:swapsWith (.ListComp elt [⟨tg,iter,ifs,0⟩] scope pos) (some (.Name y py)) spos.line X.env=pure true:=by rfl) (hs:∀x,foldedSetIterable iter X.env x=pure x:=by intro _;rfl)
  (hf:X.fn y=true\/X.env.scope.names.lookup y=some .local:=by first | exact .inl rfl | exact .inr rfl | assumption) :
  PS X (.Assign [.Name y py] (.ListComp elt [⟨tg,iter,ifs,0⟩] scope pos) spos) (lG i wi g tt te ix):=by
 intro pins s σ H D I h
 rw [exec_Assign_Name_used _ _ _ _ hsw]
 refine wpAny_bind (wpAny_standAt (wpAny_bind ?_))
 show wpAny _ X.A (do let _ <- comprehension (.ListComp elt [⟨tg,iter,ifs,0⟩] scope pos) scope X.env _ (newList []) false (eval iter X.env) (some (assign (.Name y py) X.env))) _ _ s
 refine wpAny_bind (thn (wpAny_comprehension_free (use:=some (assign (.Name y py) X.env)) (Q:=fun _ s'=>SP X pins D .next s') rfl hs (L.clos I.ok) L.kind L.locals
  (thn (hi pins s σ H _ I h) fun v s1 h1=>thn h1 fun itv s2 h2=>?_)) fun _ s' hq=>wpAny_pure (wpAny_pure hq))
 obtain⟨it,fp,tn,J,H2,rfl,I2,T,st2,f2,hW⟩:=h2
 refine lH (RR:=fun acc C=>compPost (model X.prog X.w) X.A X.xe (some (assign (.Name y py) X.env)) (fun _ s'=>SP X pins D .next s') acc C) L hc hg ht he I2 T st2 f2 hW ?_
 intro Da C s' m ys H' hn ho hDC hC hI hD fin
 have I':=hI s'.heap (Heap.SameBut.refl _ _)
 show wpAny _ X.A (assign (.Name y py) X.env (.ref Da)) _ _ s'
 refine wpAny_assign_Name (jH (v:=.ref Da) I' hN hi' hx rfl (fun s'' I'' ch=>?_) hf)
 obtain⟨a,hsa,hwa⟩:=ch
 obtain⟨c1,c2,c3,c4,c5,c6⟩:=hC
 have hCa:C≠a:=by
  rcases hwa with z | z
  ·rw [z];exact c2
  ·exact fun w=>c5 y a z w.symm
 refine⟨m,hn.sameBut hsa hCa,fun h' hs'=>⟨_,_,I''.turned (t':=s''.toks) (it:=C) (fun b o hb e=>hs'.extBut b o hb e) c1 c2 c4 c5 c6,fin Da hD⟩⟩
end
mutual
inductive DV (H:Hp):V->PyData->Prop
 | non:DV H .non .none
 | bl (b:Bool):DV H (.bl b) (.bool b)
 | int (i:Int):DV H (.int i) (.int i)
 | str (x:Str):DV H (.str x) (.str x)
 | tup {a:Addr}{xs:List V}{ds:List PyData}:H a=some (.tup xs)->DVs H xs ds->DV H (.ref a) (.tuple ds)
 | lst {a:Addr}{xs:List V}{ds:List PyData}:H a=some (.lst xs)->DVs H xs ds->DV H (.ref a) (.list ds)
inductive DVs (H:Hp):List V->List PyData->Prop
 | nil:DVs H [] []
 | cons {x:V}{d:PyData}{xs:List V}{ds:List PyData}:DV H x d->DVs H xs ds->DVs H (x::xs) (d::ds)
end
section
variable {P:Program}{w:World}{H:Hp}{h:Heap}
mutual
theorem DV.reads (ok:HOk P w H h):∀{x:V}{d:PyData}{u:Value},DV H x d->RelV x u->∃as,Reads h u d as
 | _,_,u,.non,r=>by cases (show u=Value.none from r);exact⟨_,Reads.none⟩
 | _,_,u,.bl b,r=>by cases (show u=Value.bool b from r);exact⟨_,Reads.bool b⟩
 | _,_,u,.int i,r=>by obtain⟨t,e⟩:=(show ∃t,u=Value.int i t from r);cases e;exact⟨_,Reads.int i t⟩
 | _,_,u,.str x,r=>by obtain⟨t,e⟩:=(show ∃t,u=Value.str x t from r);cases e;exact⟨_,Reads.str x t⟩
 | _,_,u,.tup (a:=a) (xs:=xs) e q,r=>by
  cases (show u=Value.ref a from r)
  obtain⟨_,its,rv,o,ho,hc,n,hd⟩:=(show aA P w H h a (.tup xs) from ok a _ e)
  obtain⟨as,z⟩:=DVs.reads ok q rv
  exact⟨as,Reads.tuple ho hc hd (by simpa using z)⟩
 | _,_,u,.lst (a:=a) (xs:=xs) e q,r=>by
  cases (show u=Value.ref a from r)
  obtain⟨_,its,n,rv,ho⟩:=(show aA P w H h a (.lst xs) from ok a _ e)
  obtain⟨as,z⟩:=DVs.reads ok q rv
  exact⟨_,Reads.list ho rfl rfl (by simpa using z)⟩
theorem DVs.reads (ok:HOk P w H h):∀{xs:List V}{ds:List PyData}{us:List Value},DVs H xs ds->ak xs us->∃as,ReadsAll h us ds as
 | _,_,_,.nil,.nil=>⟨_,ReadsAll.nil⟩
 | _,_,_,.cons a b,.cons r rs=>by
  obtain⟨as,p⟩:=DV.reads ok a r
  obtain⟨bs,q⟩:=DVs.reads ok b rs
  exact⟨_,ReadsAll.cons p q⟩
end
end
theorem DVs.strs {H:Hp}:∀ss:List Str,DVs H (ss.map V.str) (ss.map PyData.str)
 | []=>.nil
 | x::r=>.cons (.str x) (DVs.strs r)
section
variable {X:Cx}
open SeqAt in
theorem ur {k:Nat} (hr:aL k X.A):OpR X (compareOp .Eq) (fun x y H Q=>∃d e,DV H x d/\DV H y e/\shaped d=true/\shaped e=true/\Q (.bl (PyData.eqv d e)) H):=by
 intro pins s σ H x y v u Q I rx ry h
 obtain⟨d,e,dx,dy,sd,se,q⟩:=h
 obtain⟨as,r1⟩:=dx.reads I.hok rx
 obtain⟨bs,r2⟩:=dy.reads I.hok ry
 exact eq_dataH r1 r2 sd se hr.units ⟨.bl (PyData.eqv d e),H,I,rfl,q⟩
open SeqAt in
theorem ib {k:Nat} (hr:aL k X.A):OpR X (compareOp .NotEq) (fun x y H Q=>∃d e,DV H x d/\DV H y e/\shaped d=true/\shaped e=true/\Q (.bl (!PyData.eqv d e)) H):=by
 intro pins s σ H x y v u Q I rx ry h
 obtain⟨d,e,dx,dy,sd,se,q⟩:=h
 obtain⟨as,r1⟩:=dx.reads I.hok rx
 obtain⟨bs,r2⟩:=dy.reads I.hok ry
 exact ne_dataH r1 r2 sd se hr.units ⟨.bl (!PyData.eqv d e),H,I,rfl,q⟩
theorem fb {k:Nat} (hr:aL k X.A):bo X (.builtin "repr") (fun xs H Q=>∃a d,xs=[.ref a]/\DV H (.ref a) d/\d.showable=true/\d.hasDict=false/\d.depth<=40/\d.shown.length<=sizeLine/\Q (.str d.shown) H):=by
 intro pins s σ H xs us Q I r h
 obtain⟨a,d,rfl,dx,h1,h2,h3,h4,q⟩:=h
 obtain⟨u,rfl,rx⟩:=vals1 r
 cases rx
 obtain⟨as,r1⟩:=dx.reads I.hok (show RelV (.ref a) (Value.ref a) from rfl)
 exact repr_of_reads' r1 h1 (fun z=>by rw [h2] at z;cases z) hr.gd (by have:=hr.units;omega) (fun _ _ e=>e) (fun h' t tk kp=>⟨.str d.shown,H,I.kept kp,⟨_,rfl⟩,q⟩) h4
theorem ot (bs:List Bool):((List.range bs.length).all fun i=>(bs[i]?).getD true)=bs.all id:=by
 rw [Bool.eq_iff_iff,List.all_eq_true,List.all_eq_true]
 constructor
 ·intro h b hb
  obtain⟨i,hi,e⟩:=List.mem_iff_getElem.mp hb
  have:=h i (List.mem_range.mpr hi)
  rw [List.getElem?_eq_getElem hi,e] at this
  simpa using this
 ·intro h i hi
  have hi:=List.mem_range.mp hi
  rw [List.getElem?_eq_getElem hi]
  simpa using h _ (List.getElem_mem hi)
theorem fh (hc:X.calm=true):bo X (.builtin "all") (fun xs H Q=>∃(p:Addr) (bs:List Bool),xs=[.ref p]/\SqL X.K H p (bs.map V.bl)/\Q (.bl (bs.all id)) H):=by
 intro pins s σ H xs us Q I r h
 obtain⟨p,bs,rfl,hq,q⟩:=h
 obtain⟨u,rfl,rx⟩:=vals1 r
 cases rx
 obtain⟨its,r',pl,hz⟩:=I.list hq
 have hlt:p < s.heap.objs.size:=by obtain⟨o,n,e,_⟩:=pl;exact Heap.lt_size e
 have hlen:=r'.length
 rw [List.length_map] at hlen
 refine call_all_walk (wpAny_pyIter_list pl.isList ?_)
 refine⟨s.heap.objs.size,[s.heap.objs.size,p],[s.heap.objs.size],its.toArray.size,_,_,fun i=>(bs[i]?).getD true,rfl,Walks.list (A:=X.A.in1) (I.ok.hd hc) _ p (Nat.ne_of_lt hlt) its.toArray,
  ⟨⟨_,Heap.get?_push_size _ rfl,rfl,rfl⟩,pl.isList.push _⟩,fun i v s' Q' E' hP hQ=>?_,fun h' tk hk=>?_⟩
 ·have hP':its[i]?=some v:=by simpa using hP
  have hb:∃b,bs[i]?=some b/\v=Value.bool b:=by
   have hi:i < bs.length:=by rw [hlen];exact (List.getElem?_eq_some_iff.mp hP').1
   have e1:(bs.map V.bl)[i]?=some (V.bl bs[i]):=by rw [List.getElem?_map,List.getElem?_eq_getElem hi];rfl
   obtain⟨w',e2,rw'⟩:=r'.get e1
   rw [hP'] at e2
   cases e2
   exact⟨bs[i],List.getElem?_eq_getElem hi,rw'⟩
  obtain⟨b,e,rfl⟩:=hb
  simp only [e,Option.getD_some] at hQ
  exact wpAny_truthy_bool hQ
 ·have e:((List.range its.toArray.size).all fun i=>(bs[i]?).getD true)=bs.all id:=by
   rw [List.size_toArray,<- hlen];exact ot bs
  rw [e]
  refine⟨.bl (bs.all id),H,I.kept (t':=tk) fun b x e=>hk b x (fun hm=>?_) (Heap.get?_push_of_some _ e),rfl,q⟩
  rw [List.mem_singleton.mp hm] at e
  exact Nat.lt_irrefl _ (Heap.lt_size e)
theorem cU {T:String}:bo X (.builtin "isinstance") (fun xs H Q=>∃x t b,xs=[x,.ty T]/\bS X.K H x t/\PySem.W.kitOne X.K t (.type T)=some b/\Q (.bl b) H):=by
 intro pins s σ H xs us Q I r h
 obtain⟨x,t,b,rfl,ty,e,q⟩:=h
 obtain⟨u,w',rfl,rx,ry⟩:=vals2 r
 cases (show w'=Value.type T from ry)
 exact oX I rx ty e fun tk=>⟨.bl b,H,I.tok tk,rfl,q⟩
theorem jn:OpR X (compareOp .LtE) (fun x y H Q=>∃i j,x=.str i/\y=.str j/\Q (.bl (!decide (j.cps.toList < i.cps.toList))) H):=by
 intro pins s σ H x y v u Q I rx ry h
 obtain⟨i,j,rfl,rfl,q⟩:=h
 obtain⟨t,rfl⟩:=rx
 obtain⟨t',rfl⟩:=ry
 exact PySem.P.le_str ⟨.bl (!decide (j.cps.toList < i.cps.toList)),H,I,rfl,q⟩
theorem rX:MtR X "str.join" (fun x xs H Q=>∃(z:Str) (p:Addr) (ss:List Str),x=.str z/\xs=[.ref p]/\SqL X.K H p (ss.map V.str)/\(ss.map (·.length)).sum + ss.length * z.length<=16777216/\Q (.str (Txt.join z ss)) H):=by
 intro pins s σ H x xs v us Q I rx rs h
 obtain⟨z,p,ss,rfl,rfl,hq,hz,q⟩:=h
 obtain⟨t,rfl⟩:=rx
 obtain⟨u,rfl,ru⟩:=vals1 rs
 cases ru
 obtain⟨its,r',pl,_⟩:=I.list hq
 exact join_list pl.isList (gw r') hz fun t' k=>⟨.str (Txt.join z ss),H,I.tok k,⟨_,rfl⟩,q⟩
theorem i7:bo X (.builtin "sorted") (fun xs H Q=>∃(p:Addr) (ss:List Str),xs=[.ref p]/\SqL X.K H p (ss.map V.str)/\ss.length < 64/\∀(ss':List Str) (q:Addr),ss'.Perm ss->sortedS ss'=true->H q=none->Q (.ref q) (upd H q (.lst (ss'.map V.str)))):=by
 intro pins s σ H xs us Q I r h
 obtain⟨p,ss,rfl,hq,h64,q⟩:=h
 obtain⟨u,rfl,rx⟩:=vals1 r
 cases rx
 obtain⟨its,r',pl,hz⟩:=I.list hq
 have hlen:=r'.length
 rw [List.length_map] at hlen
 refine sorted_strs pl.isList (gw r') (by omega) fun out ss' a1 a2 a3=>?_
 obtain⟨e,he⟩:=sortedAll_at s.heap its out
 have hv:ak (ss'.map V.str) out.toList:=jE a1
 have hfr:H (s.heap.objs.size + 1)=none:=I.hok.fresh (Nat.le_succ _)
 refine⟨.ref (s.heap.objs.size + 1),_,I.laid (t':=s.toks) (o:=.lst (ss'.map V.str)) (fun b o z=>sortedAll_old z) (Nat.le_succ _) ⟨?_,out.toList,e,hv,?_⟩,rfl,q ss' _ a2 a3 hfr⟩
 ·rw [List.length_map,a2.length_eq,sizeLine_eq];omega
 ·simpa [seqObj] using he
end
end L2
set_option maxHeartbeats 4000000
namespace L2
open PySem PySem.W PyProof.Rows
noncomputable abbrev gp (p:Array Nat) (i:Nat):Nat:=p.getD i 0
structure Ord (N:Nat) (lt:Nat->Nat->Bool):Prop where
 tr:∀i j k,lt i j=true->lt j k=true->lt i k=true
 irr:∀i,lt i i=false
 tot:∀i j,i < N->j < N->i≠j->lt i j=true\/lt j i=true
noncomputable def Pm (N:Nat) (p:Array Nat):Prop:=p.Perm (List.toArray (List.range N))
theorem Pm.size {N:Nat}{p:Array Nat} (h:Pm N p):p.size=N:=by
 have:=Array.Perm.size_eq h
 simpa using this
theorem de {p:Array Nat}{i:Nat} (h:i < p.size):gp p i=p[i]:=by simp [gp,Array.getD,h]
theorem fz {p q:Array Nat}{i j:Nat} (h:p[i]?=q[j]?):gp p i=gp q j:=by simp [gp,Array.getD_eq_getD_getElem?,h]
theorem Pm.lt {N:Nat}{p:Array Nat} (h:Pm N p) {i:Nat} (hi:i < N):gp p i < N:=by
 have hs:i < p.size:=by rw [h.size];exact hi
 rw [de hs]
 have hm:p[i]∈(List.toArray (List.range N)):=h.mem_iff.mp (Array.getElem_mem hs)
 simpa using hm
theorem Pm.nd {N:Nat}{p:Array Nat} (h:Pm N p):p.toList.Nodup:=by
 have hp:p.toList.Perm (List.range N):=by simpa using Array.perm_iff_toList_perm.mp h
 exact hp.nodup_iff.mpr List.nodup_range
theorem Pm.inj {N:Nat}{p:Array Nat} (h:Pm N p) {i j:Nat} (hi:i < N) (hj:j < N) (hij:i≠j):gp p i≠gp p j:=by
 have hsi:i < p.size:=by rw [h.size];exact hi
 have hsj:j < p.size:=by rw [h.size];exact hj
 rw [de hsi,de hsj]
 intro e
 have nd:=h.nd
 rcases Nat.lt_or_gt_of_ne hij with z | z
 ·exact List.pairwise_iff_getElem.mp nd i j (by simpa using hsi) (by simpa using hsj) z (by simpa using e)
 ·exact List.pairwise_iff_getElem.mp nd j i (by simpa using hsj) (by simpa using hsi) z (by simpa using e.symm)
section
variable {N:Nat}{lt:Nat->Nat->Bool}{cmp:Nat->Nat->(Bool->Shared->Prop)->Shared->Prop}{s:Shared}
noncomputable def Asc (lt:Nat->Nat->Bool) (p:Array Nat) (b:Nat):Prop:=∀i j,i < j->j < b->lt (gp p i) (gp p j)=true
noncomputable def Dsc (lt:Nat->Nat->Bool) (p:Array Nat) (b:Nat):Prop:=∀i j,i < j->j < b->lt (gp p j) (gp p i)=true
theorem Asc.more (O:Ord N lt) {p:Array Nat}{n:Nat} (h:Asc lt p n) (h1:1<=n) (e:lt (gp p (n - 1)) (gp p n)=true):Asc lt p (n + 1):=fun i j hij hj=>by
 by_cases q:j < n
 ·exact h i j hij q
 ·have:j=n:=by omega
  subst this
  by_cases z:i=j - 1
  ·rw [z];exact e
  ·exact O.tr _ _ _ (h i (j - 1) (by omega) (by omega)) e
theorem Dsc.more (O:Ord N lt) {p:Array Nat}{n:Nat} (h:Dsc lt p n) (h1:1<=n) (e:lt (gp p n) (gp p (n - 1))=true):Dsc lt p (n + 1):=fun i j hij hj=>by
 by_cases q:j < n
 ·exact h i j hij q
 ·have:j=n:=by omega
  subst this
  by_cases z:i=j - 1
  ·rw [z];exact e
  ·exact O.tr _ _ _ e (h i (j - 1) (by omega) (by omega))
theorem Ord.other (O:Ord N lt) {p:Array Nat} (hp:Pm N p) {i j:Nat} (hi:i < N) (hj:j < N) (hij:i≠j) (e:lt (gp p i) (gp p j)≠true):lt (gp p j) (gp p i)=true :=
 (O.tot _ _ (hp.lt hi) (hp.lt hj) (hp.inj hi hj hij)).resolve_left e
variable (O:Ord N lt) (hc:∀(i j:Nat) (C:Bool->Shared->Prop),i < N->j < N->i≠j->C (lt i j) s->cmp i j C s)
include O hc
theorem ij {p:Array Nat} (hp:Pm N p) {Q:Nat->Shared->Prop}:∀(f n:Nat),1<=n->n + f<=N->Asc lt p n->(∀m,n<=m->m<=n + f->Asc lt p m->(m=n + f\/lt (gp p m) (gp p (m - 1))=true)->Q m s)->(kas_asc p f n).kasWp cmp Q s
 | 0,n,h1,hn,ha,k=>k n (Nat.le_refl _) (Nat.le_refl _) ha (.inl rfl)
 | f + 1,n,h1,hn,ha,k=>by
  unfold kas_asc
  refine hc _ _ _ (hp.lt (by omega)) (hp.lt (by omega)) (hp.inj (by omega) (by omega) (by omega)) ?_
  by_cases e:lt (gp p n) (gp p (n - 1))=true
  ·show KasT.kasWp cmp (if lt (gp p n) (gp p (n - 1))=true then _ else _) Q s
   rw [if_pos e]
   exact k n (Nat.le_refl _) (by omega) ha (.inr e)
  ·show KasT.kasWp cmp (if lt (gp p n) (gp p (n - 1))=true then _ else _) Q s
   rw [if_neg e]
   exact ij hp f (n + 1) (by omega) (by omega) (ha.more O h1 (O.other hp (by omega) (by omega) (by omega) e)) fun m a b c d=>k m (by omega) (by omega) c (d.imp (fun z=>by omega) id)
theorem k9 {p:Array Nat} (hp:Pm N p) {Q:Array Nat×Nat×Nat->Shared->Prop}:∀(f n:Nat),1<=n->n + f<=N->Dsc lt p n->(∀m,n<=m->m<=n + f->Dsc lt p m->Q (p,m,0) s)->(kas_desc f p n 0).kasWp cmp Q s
 | 0,n,h1,hn,ha,k=>k n (Nat.le_refl _) (Nat.le_refl _) ha
 | f + 1,n,h1,hn,ha,k=>by
  unfold kas_desc
  refine hc _ _ _ (hp.lt (by omega)) (hp.lt (by omega)) (hp.inj (by omega) (by omega) (by omega)) ?_
  by_cases e:lt (gp p n) (gp p (n - 1))=true
  ·show KasT.kasWp cmp (if lt (gp p n) (gp p (n - 1))=true then _ else _) Q s
   rw [if_pos e,if_neg (by omega)]
   exact k9 hp f (n + 1) (by omega) (by omega) (ha.more O h1 e) fun m a b c=>k m (by omega) (by omega) c
  ·show KasT.kasWp cmp (if lt (gp p n) (gp p (n - 1))=true then _ else _) Q s
   rw [if_neg e]
   refine hc _ _ _ (hp.lt (by omega)) (hp.lt (by omega)) (hp.inj (by omega) (by omega) (by omega)) ?_
   have e2:=O.other hp (show n < N by omega) (show n - 1 < N by omega) (by omega) e
   show KasT.kasWp cmp (if lt (gp p (n - 1)) (gp p n)=true then _ else _) Q s
   rw [if_pos e2]
   exact k n (Nat.le_refl _) (by omega) ha
theorem tS {p:Array Nat} (hp:Pm N p) {m:Nat} (hm:m<=N) (h:Dsc lt p m):Pm N (kas_rev p 0 m)/\Asc lt (kas_rev p 0 m) m:=by
 have hz:m<=p.size:=by rw [hp.size];exact hm
 refine⟨(mirror_perm p 0 m _).trans hp,fun i j hij hj=>?_⟩
 have g:∀k,k < m->gp (kas_rev p 0 m) k=gp p (0 + m - 1 - k):=fun k hk=>fz (by
  unfold kas_rev
  rw [getElem?_mirror_all hz,if_pos ⟨Nat.zero_le _,hk⟩])
 rw [g i (by omega),g j hj]
 exact h _ _ (by omega) (by omega)
theorem qC {p:Array Nat} (hp:Pm N p) (h2:2<=N) {Q:Nat×Array Nat->Shared->Prop} (h0:∀m q,1<=m->m<=N->Pm N q->Asc lt q m->Q (m,q) s):(kas_count N p).kasWp cmp Q s:=by
 unfold kas_count
 rw [KasT.kasWp_bind]
 refine ij O hc hp (N - 1) 1 (Nat.le_refl _) (by omega) (fun i j a b=>by omega) fun m a b c d=>?_
 by_cases e:(m == N)=true
 ·rw [if_pos e]
  exact h0 m p a (by omega) hp c
 ·rw [if_neg e]
  have hm:m≠N:=fun z=>e (beq_iff_eq.mpr z)
  by_cases e1:m > 1
  ·rw [if_pos e1]
   refine hc _ _ _ (hp.lt (by omega)) (hp.lt (by omega)) (hp.inj (by omega) (by omega) (by omega)) ?_
   show KasT.kasWp cmp (if lt (gp p 0) (gp p (m - 1))=true then _ else _) Q s
   rw [if_pos (c 0 (m - 1) (by omega) (by omega))]
   exact h0 m p a (by omega) hp c
  ·rw [if_neg e1]
   have:m=1:=by omega
   subst this
   have e2:lt (gp p 1) (gp p (1 - 1))=true:=d.resolve_left (by omega)
   unfold kas_descPart
   rw [KasT.kasWp_bind]
   refine k9 O hc hp (N - (1 + 1)) (1 + 1) (by omega) (by omega) (fun i j x y=>by
    have:i=0:=by omega
    have:j=1:=by omega
    subst i j
    exact e2) fun m' a' b' c'=>?_
   show KasT.kasWp cmp (if (0:Nat) > 0 then _ else _) Q s
   rw [if_neg (by omega)]
   show KasT.kasWp cmp (kas_tail3 m' N p) Q s
   unfold kas_tail3
   rw [KasT.kasWp_bind]
   obtain⟨r1,r2⟩:=tS O hc hp (show m'<=N by omega) c'
   exact ij O hc r1 (N - m') m' (by omega) (by omega) r2 fun m'' x y z w=>h0 m'' _ (by omega) (by omega) r1 z
theorem gJ {p:Array Nat} (hp:Pm N p) {k:Nat} (hk:k < N) (ha:Asc lt p k) {Q:Nat->Shared->Prop}:∀(f l r:Nat),l<=r->r<=k->r - l<=f->(∀i,i < l->lt (gp p i) (gp p k)=true)->(∀i,r<=i->i < k->lt (gp p k) (gp p i)=true) ->
  (∀l,l<=k->(∀i,i < l->lt (gp p i) (gp p k)=true)->(∀i,l<=i->i < k->lt (gp p k) (gp p i)=true)->Q l s)->(kas_place p k f l r).kasWp cmp Q s
 | 0,l,r,h1,h2,h3,hl,hr,q=>by
  have:l=r:=by omega
  subst this
  exact q l h2 hl hr
 | f + 1,l,r,h1,h2,h3,hl,hr,q=>by
  unfold kas_place
  by_cases e:l ≥ r
  ·rw [if_pos e]
   have:l=r:=by omega
   subst this
   exact q l h2 hl hr
  ·rw [if_neg e]
   refine hc _ _ _ (hp.lt hk) (hp.lt (by omega)) (hp.inj hk (by omega) (by omega)) ?_
   by_cases c:lt (gp p k) (gp p ((l + r) / 2))=true
   ·show KasT.kasWp cmp (if lt (gp p k) (gp p ((l + r) / 2))=true then _ else _) Q s
    rw [if_pos c]
    refine gJ hp hk ha f l ((l + r) / 2) (by omega) (by omega) (by omega) hl (fun i a b=>?_) q
    by_cases z:i=(l + r) / 2
    ·rw [z];exact c
    ·exact O.tr _ _ _ c (ha _ _ (by omega) b)
   ·show KasT.kasWp cmp (if lt (gp p k) (gp p ((l + r) / 2))=true then _ else _) Q s
    rw [if_neg c]
    have c':=O.other hp hk (show (l + r) / 2 < N by omega) (by omega) c
    refine gJ hp hk ha f ((l + r) / 2 + 1) r (by omega) h2 (by omega) (fun i a=>?_) hr q
    by_cases z:i=(l + r) / 2
    ·rw [z];exact c'
    ·exact O.tr _ _ _ (ha i ((l + r) / 2) (by omega) (by omega)) c'
theorem l9 {Q:Array Nat->Shared->Prop} (h0:∀q,Pm N q->Asc lt q N->Q q s):∀(f:Nat) (p:Array Nat) (k:Nat),k + f=N->Pm N p->Asc lt p k->(kas_bin f p k).kasWp cmp Q s
 | 0,p,k,hk,hp,ha=>h0 p hp (by rw [<- hk];exact ha)
 | f + 1,p,k,hk,hp,ha=>by
  unfold kas_bin
  rw [KasT.kasWp_bind]
  refine gJ O hc hp (show k < N by omega) ha k 0 k (by omega) (Nat.le_refl _) (by omega) (fun i z=>by omega) (fun i a b=>by omega) fun l hl h1 h2=>?_
  refine l9 h0 f _ (k + 1) (by omega) ((bubble_perm p k _).trans hp) fun i j hij hj=>?_
  have hs:k < p.size:=by rw [hp.size];omega
  have g:∀i,gp (bubble p k (k - l)) i=if i=l then gp p k else if l < i/\i<=k then gp p (i - 1) else gp p i:=fun i=>by
   have e:=getElem?_bubble hs (k - l) (by omega) i
   have e1:k - (k - l)=l:=by omega
   rw [e1] at e
   by_cases z1:i=l
   ·rw [if_pos z1] at e ⊢;exact fz e
   ·rw [if_neg z1] at e ⊢
    by_cases z2:l < i/\i<=k
    ·rw [if_pos z2] at e ⊢;exact fz e
    ·rw [if_neg z2] at e ⊢;exact fz e
  rw [g i,g j]
  by_cases a1:i=l
  ·rw [if_pos a1,if_neg (by omega),if_pos (by omega)]
   exact h2 _ (by omega) (by omega)
  ·rw [if_neg a1]
   by_cases a2:l < i/\i<=k
   ·rw [if_pos a2,if_neg (by omega),if_pos (by omega)]
    exact ha _ _ (by omega) (by omega)
   ·rw [if_neg a2]
    by_cases b1:j=l
    ·rw [if_pos b1];exact h1 i (by omega)
    ·rw [if_neg b1]
     by_cases b2:l < j/\j<=k
     ·rw [if_pos b2]
      exact ha _ _ (by omega) (by omega)
     ·rw [if_neg b2]
      exact ha _ _ hij (by omega)
theorem qD (h2:2<=N) {Q:Array Nat->Shared->Prop} (h0:∀q,Pm N q->Asc lt q N->Q q s):(kas_sort N).kasWp cmp Q s:=by
 unfold kas_sort
 rw [KasT.kasWp_bind]
 refine qC O hc (Array.Perm.refl _) h2 fun m q a b hp ha=>?_
 show KasT.kasWp cmp (if m < N then _ else _) Q s
 by_cases e:m < N
 ·rw [if_pos e]
  have em:max m 1=m:=by omega
  show KasT.kasWp cmp (kas_bin (N - max m 1) q (max m 1)) Q s
  rw [em]
  exact l9 O hc h0 (N - m) q m (by omega) hp ha
 ·rw [if_neg e]
  have:m=N:=by omega
  subst this
  exact h0 q hp ha
end
end L2
namespace L2
open PySem PySem.Spec PyProof.Rows PySem.W PySem.Calls
section
variable {prog:Program}{w:World}{A:Around}{E:Value->Shared->Prop}{s:Shared}
noncomputable def iJ (prog:Program) (w:World) (A:Around) (vs:List Value) (lt:Nat->Nat->Bool) (s:Shared):Prop :=
 ∃κ:SortKind,(∀Q:SortKind->Shared->Prop,Q κ s->wpAny (model prog w) A (keyKind' vs.toArray) Q (fun _ _=>False) s) /\
  ∀(i j:Nat) (C:Bool->Shared->Prop),i < vs.length->j < vs.length->i≠j->C (lt i j) s->kas_ask prog w A κ vs i j C s
noncomputable def cb (vs:List Value) (p:Array Nat):List Value:=p.toList.map fun i=>vs.getD i Value.none
theorem n5 {lt:Nat->Nat->Bool}{a:Addr}{vs:List Value}{n:Nat}{P:PySem.Fin->Shared->Prop} (ho:s.heap.get? a=some (seqObj "list" vs.toArray n)) (h64:vs.length < 64) (O:Ord vs.length lt)
  (hk:2<=vs.length->∀s':Shared,(∀b o,b≠a->s.heap.get? b=some o->s'.heap.get? b=some o)->iJ prog w A vs lt s')
  (h:∀p,Pm vs.length p->Asc lt p vs.length->P (.done (.ret .none)) { s with heap:=sortedHeap s.heap a vs (cb vs p).toArray }) :
  wpAny (model prog w) A (Builtin.«list.sort» ⟨[.ref a],[]⟩) P E s:=by
 rw [list_sort_plain]
 have hlt:a < s.heap.objs.size:=Heap.lt_size ho
 have hfit:vs.length<=sizeLine:=by rw [sizeLine_eq];omega
 refine wpAny_bind (listItems_at ho rfl (wpAny_bind (listUpdate_at ho rfl ?_ (by rw [List.size_toArray];exact hfit) (Nat.zero_le _))))
 obtain⟨e1,ho1⟩:∃e1,(s.heap.update a (Obj.mapSeq fun _=>(#[]:Array Value))).get? a=some (seqObj "list" #[] e1):=⟨_,get?_update_seq ho fun _=>#[]⟩
 refine wpAny_bind (seqEpoch_at ho1 rfl (wpAny_bind (wpAny_newTuple (wpAny_bind (wpAny_newList (wpAny_holding ?_) (Nat.zero_le _))) (by show vs.length<=_;exact hfit))))
 have ho2:(((s.heap.update a (Obj.mapSeq fun _=>(#[]:Array Value))).push (seqObj "tuple" vs.toArray 0)).push (seqObj "list" #[] 0)).get? a=some (seqObj "list" #[] e1):=Heap.get?_push_of_some _ (Heap.get?_push_of_some _ ho1)
 show wpAny (model prog w) A _ P E { s with heap:=((s.heap.update a (Obj.mapSeq fun _=>(#[]:Array Value))).push (seqObj "tuple" vs.toArray 0)).push (seqObj "list" #[] 0) }
 dsimp only
 by_cases h2:vs.toArray.size < 2
 ·rw [if_pos h2,if_pos h2]
  refine wpAny_bind (wpAny_pure ?_)
  rw [StateT.run_pure]
  refine wpAny_bind (wpAny_pure ?_)
  dsimp only
  have hz:((vs.toArray.zip vs.toArray).map (·.2))=(cb vs (List.toArray (List.range vs.length))).toArray:=by
   unfold cb
   apply Array.ext
   ·simp
   ·intro i h1 h2
    simp only [Array.size_map,Array.size_zip,List.size_toArray,Nat.min_self] at h1
    simp [h1]
  have es:vs.toArray.size=vs.length:=by simp
  refine wpAny_bind (seqEpoch_at ho2 rfl (wpAny_bind (listUpdate_at ho2 rfl ?_ (Nat.zero_le _) ?_)))
  ·simp only [bne_self_eq_false,Bool.false_eq_true,if_false]
   have q:=h (List.toArray (List.range vs.length)) (Array.Perm.refl _) (fun i j hij hj=>by omega)
   unfold sortedHeap at q
   rw [<- hz] at q
   exact wpAny_pure q
  ·show ((vs.toArray.zip vs.toArray).map (·.2)).size<=sizeLine + 1
   simp only [Array.size_map,Array.size_zip,List.size_toArray,Nat.min_self]
   omega
 ·have h2':2<=vs.length:=by rw [List.size_toArray] at h2;omega
  rw [if_neg h2,if_neg h2]
  obtain⟨κ,kd,ask⟩:=hk h2' { s with heap:=((s.heap.update a (Obj.mapSeq fun _=>(#[]:Array Value))).push (seqObj "tuple" vs.toArray 0)).push (seqObj "list" #[] 0) } fun b o hb e =>
   Heap.get?_push_of_some _ (Heap.get?_push_of_some _ (by rw [Heap.get?_update_ne _ _ _ _ hb];exact e))
  refine wpAny_bind (wpAny_mono (E:=fun _ _=>False) (Q:=fun k s'=>k=κ/\s'={ s with heap:=((s.heap.update a (Obj.mapSeq fun _=>(#[]:Array Value))).push (seqObj "tuple" vs.toArray 0)).push (seqObj "list" #[] 0) }) (kd _ ⟨rfl,rfl⟩) ?_ fun _ _ f=>f.elim)
  rintro k s' ⟨rfl,rfl⟩
  refine wpAny_bind (wpAny_mono (kat_run (ks:=vs) (G:=fun p s'=>(Pm vs.length p/\Asc lt p vs.length)/\s'={ s with heap:=((s.heap.update a (Obj.mapSeq fun _=>(#[]:Array Value))).push (seqObj "tuple" vs.toArray 0)).push (seqObj "list" #[] 0) })
   (Q:=fun st' s'=>∃p:Array Nat,arrOf st'=p.map (kas_item (vs.toArray.zip vs.toArray))/\failedOf st'=none/\(Pm vs.length p/\Asc lt p vs.length)/\s'={ s with heap:=((s.heap.update a (Obj.mapSeq fun _=>(#[]:Array Value))).push (seqObj "tuple" vs.toArray 0)).push (seqObj "list" #[] 0) })
   rfl h2' h64 (fun p st' s' _ a2 a3 a4=>⟨p,a2,a3,a4⟩) (qD O ask h2' fun q hq ha=>⟨⟨hq,ha⟩,rfl⟩)) ?_ fun _ _ e=>e)
  rintro⟨⟨⟩,st'⟩ s' ⟨p,har,hf,⟨hp,ha⟩,rfl⟩
  dsimp only
  rw [kat_snds rfl har]
  have hsz:(List.toArray (p.toList.map fun i=>vs.getD i Value.none)).size<=sizeLine + 1:=by
   rw [List.size_toArray,List.length_map,Array.length_toList,hp.size];omega
  refine wpAny_bind (seqEpoch_at ho2 rfl (wpAny_bind (listUpdate_at ho2 rfl ?_ (Nat.zero_le _) hsz)))
  rw [hf]
  simp only [bne_self_eq_false,Bool.false_eq_true,if_false]
  exact wpAny_pure (h p hp ha)
theorem nS {l:Addr}{o:Obj}{vs:List Value}{n:Nat}{T:String}{Q:List Value->Shared->Prop} (hT:T="list"\/T="tuple") (ho:s.heap.get? l=some o) (hc:o.cls=.type T) (hd:o.data=.seq vs.toArray n)
  (h:Q vs { s with heap:=(s.heap.push (seqObj "list" #[] 0)).update s.heap.objs.size (Obj.mapSeq (·++vs.toArray)) }) (hsz:vs.length<=sizeLine):wpAny (model prog w) A (collect (.ref l)) Q E s:=by
 rcases hT with rfl | rfl
 ·exact collect_list ⟨o,ho,hc,n,hd⟩ h hsz
 ·unfold collect
  refine wpAny_bind (wpAny_runValue (codeAny_builtin entry_proto_collect' ?_))
  show wpAny _ _ (do again (.builtin "list.__iadd__" ⟨[<- newList [],.ref l],[]⟩)) _ _ s
  refine wpAny_bind (wpAny_newList (wpAny_pure ⟨Code.quiet_builtin _ (by decide +kernel),codeAny_builtin entry_list_iadd' ?_⟩))
  show wpAny _ _ (Builtin.List.listExtendWith (.ref s.heap.objs.size) (.ref l) (.ref s.heap.objs.size)) _ _ { s with heap:=s.heap.push (seqObj "list" #[] 0) }
  unfold Builtin.List.listExtendWith
  have ho':(s.heap.push (seqObj "list" #[] 0)).get? l=some o:=Heap.get?_push_of_some _ ho
  refine wpAny_bind (wpAny_typeOf (T:="tuple") ⟨o,ho',hc⟩ ?_)
  rw [if_pos (by rw [show (Value.type "tuple" == Value.type "tuple")=true from rfl];simp)]
  refine wpAny_bind (listItems_at ho' hd (wpAny_bind (listItems_at (xs:=#[]) (n:=0) (Heap.get?_push_size _ rfl) rfl ?_)))
  rw [if_neg (by simp)]
  refine wpAny_bind (listUpdate_at (xs:=#[]) (n:=0) (Heap.get?_push_size _ rfl) rfl (wpAny_pure ?_) (Nat.zero_le _) (by show (#[]++vs.toArray).size<=sizeLine + 1;simp only [Array.size_append,List.size_toArray,List.length_nil];omega))
  show wpAny (model prog w) A (do
    let o <- load s.heap.objs.size
    match o.data with
    | .seq xs _=>pure xs.toList
    | _=>unsupported "internal:collect") Q E { s with heap:=(s.heap.push (seqObj "list" #[] 0)).update s.heap.objs.size (Obj.mapSeq (·++vs.toArray)) }
  refine wpAny_bind (wpAny_load (get?_update_seq (Heap.get?_push_size _ rfl) _) ?_)
  show wpAny _ _ (pure ((#[]:Array Value)++vs.toArray).toList) Q E _
  rw [show ((#[]:Array Value)++vs.toArray).toList=vs by simp]
  exact wpAny_pure h
theorem kS {lt:Nat->Nat->Bool}{l:Addr}{o:Obj}{vs:List Value}{n:Nat}{T:String}{Q:Value->Shared->Prop} (hT:T="list"\/T="tuple") (ho:s.heap.get? l=some o) (hc:o.cls=.type T) (hd:o.data=.seq vs.toArray n) (h64:vs.length < 64) (O:Ord vs.length lt)
  (hk:2<=vs.length->∀s':Shared,(∀b o,s.heap.get? b=some o->s'.heap.get? b=some o)->iJ prog w A.in1.in1 vs lt s')
  (h:∀p,Pm vs.length p->Asc lt p vs.length->Q (.ref (s.heap.objs.size + 1)) { s with heap:=sortedAll s.heap vs (cb vs p).toArray }):wpAny (model prog w) A (call (.builtin "sorted") [.ref l]) Q E s:=by
 refine Calls.call_function_entry kind_sorted plain_sorted entry_sorted (args_sorted1 _) ?_
 unfold Builtin.«sorted»
 refine wpAny_bind (m:=checkCount "sorted" 1 1 _) (wpAny_pure (wpAny_bind (nS hT ho hc hd (wpAny_bind (wpAny_newList ?_ (by rw [sizeLine_eq];omega))) (by rw [sizeLine_eq];omega))))
 have hsz:((s.heap.push (seqObj "list" #[] 0)).update s.heap.objs.size (Obj.mapSeq (·++vs.toArray))).objs.size=s.heap.objs.size + 1:=by rw [Heap.size_update,size_push']
 have hoL:(((s.heap.push (seqObj "list" #[] 0)).update s.heap.objs.size (Obj.mapSeq (·++vs.toArray))).push (seqObj "list" vs.toArray 0)).get? (s.heap.objs.size + 1)=some (seqObj "list" vs.toArray 0):=by
  rw [<- hsz]
  exact Heap.get?_push_size _ rfl
 show wpAny _ _ _ _ _ { s with heap:=((s.heap.push (seqObj "list" #[] 0)).update s.heap.objs.size (Obj.mapSeq (·++vs.toArray))).push (seqObj "list" vs.toArray 0) }
 rw [hsz]
 have kp:∀b o,s.heap.get? b=some o->(((s.heap.push (seqObj "list" #[] 0)).update s.heap.objs.size (Obj.mapSeq (·++vs.toArray))).push (seqObj "list" vs.toArray 0)).get? b=some o:=fun b ob e=>by
  have hb:=Heap.lt_size e
  refine Heap.get?_push_of_some _ ?_
  rw [Heap.get?_update_ne _ _ _ _ (Nat.ne_of_lt hb)]
  exact Heap.get?_push_of_some _ e
 refine wpAny_bind (wpAny_holding (wpAny_call_entry slot_list_sort ⟨_,hoL,rfl⟩ entry_list_sort (n5 hoL h64 O (fun z s' hs'=>hk z s' fun b ob e=>hs' b ob (by have:=Heap.lt_size e;exact Nat.ne_of_lt (Nat.lt_succ_of_lt this)) (kp b ob e)) fun p hp ha=>⟨_,rfl,?_⟩) (args_list_sort _)))
 exact wpAny_pure ⟨_,rfl,h p hp ha⟩
end
theorem iq {h:Heap}:∀{vs fs:List Value},KatTups h vs fs->∀(i:Nat),i < vs.length->∃a o xs n f,vs.getD i Value.none=.ref a/\h.get? a=some o/\o.data=.seq xs n/\xs[0]?=some f/\fs[i]?=some f
 | [],[],_,i,hi=>absurd hi (Nat.not_lt_zero _)
 | [],_::_,t,_,_=>t.elim
 | _::_,[],t,_,_=>t.elim
 | v::vs,f::fs,t,0,_=>by
  obtain⟨⟨a,o,xs,n,rfl,ho,hc,hd,hf⟩,_⟩:=t
  exact⟨a,o,xs,n,f,rfl,ho,hd,hf,rfl⟩
 | v::vs,f::fs,t,i + 1,hi=>by
  obtain⟨_,t⟩:=t
  obtain⟨a,o,xs,n,g,e1,e2,e3,e4,e5⟩:=iq t i (by simpa using hi)
  exact⟨a,o,xs,n,g,by simpa using e1,e2,e3,e4,by simpa using e5⟩
theorem ic:∀{fs:List Value}{ss:List Str},StrsAre fs ss->∀(i:Nat) (f:Value),fs[i]?=some f->∃t,f=.str (ss.getD i Str.empty) t/\i < ss.length
 | _,_,.nil,i,f,h=>by simp at h
 | _,_,.cons y t r,0,f,h=>by simp at h;exact⟨t,h.symm,by simp⟩
 | _,_,.cons y t r,i + 1,f,h=>by
  obtain⟨t',e1,e2⟩:=ic r i f (by simpa using h)
  exact⟨t',by simpa using e1,by simpa using e2⟩
theorem tj {prog:Program}{w:World}{A:Around}{s:Shared}{vs fs:List Value}{ss:List Str} (t:KatTups s.heap vs fs) (hS:StrsAre fs ss) (hne:0 < fs.length) (hnd:ss.Nodup) :
  iJ prog w A vs (fun i j=>decide ((ss.getD i Str.empty).cps.toList < (ss.getD j Str.empty).cps.toList)) s:=by
 refine⟨tuples' (Value.type "str" != Value.type "tuple"),fun Q q=>kat_kind (T:=Value.type "str") t hne (fun v hv=>?_) (by decide) q,fun i j C hi hj hij q=>?_⟩
 ·obtain⟨x,u,rfl⟩:=hS.all v hv
  exact Looks.now
 ·obtain⟨a,o,xs,n,f,e1,e2,e3,e4,e5⟩:=iq t i hi
  obtain⟨b,o',ys,n',g,g1,g2,g3,g4,g5⟩:=iq t j hj
  obtain⟨tf,rfl,hil⟩:=ic hS i f e5
  obtain⟨tg,rfl,hjl⟩:=ic hS j g g5
  unfold kas_ask
  rw [e1,g1]
  refine kat_lt e2 e3 g2 g3 ?_
  obtain⟨xr,hx⟩:∃xr,xs.toList=.str (ss.getD i Str.empty) tf::xr:=by
   cases hq:xs.toList with
   | nil=>rw [<- Array.getElem?_toList,hq] at e4;simp at e4
   | cons z zr=>rw [<- Array.getElem?_toList,hq] at e4;simp at e4;rw [e4];exact⟨zr,rfl⟩
  obtain⟨yr,hy⟩:∃yr,ys.toList=.str (ss.getD j Str.empty) tg::yr:=by
   cases hq:ys.toList with
   | nil=>rw [<- Array.getElem?_toList,hq] at g4;simp at g4
   | cons z zr=>rw [<- Array.getElem?_toList,hq] at g4;simp at g4;rw [g4];exact⟨zr,rfl⟩
  rw [hx,hy]
  have hnE:ss.getD i Str.empty≠ss.getD j Str.empty:=by
   rw [List.getD_eq_getElem?_getD,List.getD_eq_getElem?_getD,List.getElem?_eq_getElem hil,List.getElem?_eq_getElem hjl]
   intro z
   have z':ss[i]=ss[j]:=z
   rcases Nat.lt_or_gt_of_ne hij with y | y
   ·exact List.pairwise_iff_getElem.mp hnd i j hil hjl y z'
   ·exact List.pairwise_iff_getElem.mp hnd j i hjl hil y z'.symm
  show KatLex prog w A _ _ C ((Value.str (ss.getD i Str.empty) tf,Value.str (ss.getD j Str.empty) tg)::xr.zip yr) 0 s
  refine kat_cons (wpAny_eqBool_str ?_)
  rw [decide_eq_false hnE]
  refine kat_no ?_
  show wpAny _ A (oneLt' true _ _) C _ s
  exact strKind_oneLt prog w A _ s _ _ _ _ rfl rfl q
theorem gO {x y:Str} (h:x≠y):x.cps.toList < y.cps.toList\/y.cps.toList < x.cps.toList:=by
 by_cases c:x.cps.toList < y.cps.toList
 ·exact .inl c
 ·rcases List.le_iff_lt_or_eq.mp (List.not_lt.mp c) with z | z
  ·exact .inr z
  ·refine absurd ?_ h
   obtain⟨a⟩:=x
   obtain⟨b⟩:=y
   have e:b=a:=Array.toList_inj.mp z
   rw [e]
noncomputable def lC (H:Hp) (rs:List (Addr×Str)):Prop:=∀r∈rs,∃rest,H r.1=some (.tup (.str r.2::rest))
noncomputable abbrev refs (rs:List (Addr×Str)):List V:=rs.map fun r=>V.ref r.1
noncomputable def nlt (x y:Str):Prop:=x.cps.toList < y.cps.toList
theorem jf {P:Program}{w:World}{H:Hp}{h:Heap} (ok:HOk P w H h):∀{rs:List (Addr×Str)}{us:List Value},lC H rs->ak (refs rs) us->∃fs,KatTups h us fs/\StrsAre fs (rs.map (·.2))
 | [],us,_,r=>by cases r;exact⟨[],trivial,.nil⟩
 | x::rs,us,hr,r=>by
  cases r with
  | @cons _ u _ us' r1 r2 =>
   obtain⟨fs,t,q⟩:=jf ok (rs:=rs) (fun y hy=>hr y (List.mem_cons_of_mem _ hy)) r2
   obtain⟨rest,e⟩:=hr x List.mem_cons_self
   cases (show u=Value.ref x.1 from r1)
   obtain⟨_,its,rv,o,ho,hc,n,hd⟩:=(show aA P w H h x.1 (.tup (.str x.2::rest)) from ok x.1 _ e)
   cases rv with
   | @cons _ f _ its' rf _ =>
    obtain⟨tk,rfl⟩:=rf
    exact⟨.str x.2 tk::fs,KatTups.cons ho hc hd (by simp) t,.cons _ _ q⟩
theorem gD {xs:List V}{us:List Value} (r:ak xs us):∀{ps:List Nat},(∀i∈ps,i < xs.length)->ak (ps.map fun i=>xs.getD i .non) (ps.map fun i=>us.getD i Value.none)
 | [],_=>.nil
 | i::ps,h=>by
  have hi:=h i List.mem_cons_self
  obtain⟨u,e,ru⟩:=r.get (List.getElem?_eq_getElem hi)
  refine .cons ?_ (gD r fun j hj=>h j (List.mem_cons_of_mem _ hj))
  show RelV (xs.getD i .non) (us.getD i Value.none)
  rw [List.getD_eq_getElem?_getD,List.getD_eq_getElem?_getD,List.getElem?_eq_getElem hi,e]
  exact ru
theorem jy {α:Type} (d:α) (xs:List α) {p:Array Nat} (h:Pm xs.length p):(p.toList.map fun i=>xs.getD i d).Perm xs:=by
 have hp:p.toList.Perm (List.range xs.length):=by simpa using Array.perm_iff_toList_perm.mp h
 have e:(List.range xs.length).map (fun i=>xs.getD i d)=xs:=by
  apply List.ext_getElem
  ·simp
  ·intro i h1 h2
   simp [h2]
 exact (hp.map _).trans (by rw [e])
section
variable {X:Cx}
theorem nN:bo X (.builtin "sorted") (fun xs H Q=>∃(p:Addr) (rs:List (Addr×Str)),xs=[.ref p]/\(SqL X.K H p (refs rs)\/SqT X.K H p (refs rs))/\lC H rs/\rs.length < 64/\(rs.map (·.2)).Nodup /\
  ∀(rs':List (Addr×Str)) (q:Addr),rs'.Perm rs->(rs'.map (·.2)).Pairwise nlt->H q=none->Q (.ref q) (upd H q (.lst (refs rs')))):=by
 intro pins s σ H xs us Q I r h
 obtain⟨p,rs,rfl,hq,hR,h64,hnd,q⟩:=h
 obtain⟨u,rfl,rx⟩:=vals1 r
 cases rx
 have core:∀(T:String) (o:Obj) (its:List Value) (n:Nat),(T="list"\/T="tuple")->s.heap.get? p=some o->o.cls=.type T->o.data=.seq its.toArray n->ak (refs rs) its ->
   wpAny (model X.prog X.w) X.A (call (.builtin "sorted") [.ref p]) (EP X pins σ Q) X.xe s:=fun T o its n hT ho hc hd r'=>by
  have hl:=r'.length
  have hl':its.length=rs.length:=by rw [<- hl];simp
  have O:Ord its.length (fun i j=>decide (((rs.map (·.2)).getD i Str.empty).cps.toList < ((rs.map (·.2)).getD j Str.empty).cps.toList)):=by
   refine⟨fun i j k h1 h2=>?_,fun i=>?_,fun i j hi hj hij=>?_⟩
   ·exact decide_eq_true (List.lt_trans (of_decide_eq_true h1) (of_decide_eq_true h2))
   ·exact decide_eq_false (List.lt_irrefl _)
   ·have hil:i < (rs.map (·.2)).length:=by simpa [<- hl'] using hi
    have hjl:j < (rs.map (·.2)).length:=by simpa [<- hl'] using hj
    rw [List.getD_eq_getElem?_getD,List.getD_eq_getElem?_getD,List.getElem?_eq_getElem hil,List.getElem?_eq_getElem hjl]
    have ne:(rs.map (·.2))[i]≠(rs.map (·.2))[j]:=by
     rcases Nat.lt_or_gt_of_ne hij with y | y
     ·exact List.pairwise_iff_getElem.mp hnd i j hil hjl y
     ·exact fun z=>List.pairwise_iff_getElem.mp hnd j i hjl hil y z.symm
    exact (gO ne).imp decide_eq_true decide_eq_true
  refine kS hT ho hc hd (by omega) O (fun h2 s' hs'=>?_) fun pm hp ha=>?_
  ·obtain⟨fs,t,hS⟩:=jf (I.hok.kept hs') hR r'
   have hfl:0 < fs.length:=by
    have:=hS.length
    simp at this
    omega
   exact tj t hS hfl hnd
  ·obtain⟨e,he⟩:=sortedAll_at s.heap its (cb its pm).toArray
   have hpm:Pm rs.length pm:=by rw [<- hl'];exact hp
   have hlt:∀i∈pm.toList,i < rs.length:=fun i hi=>by
    have:i∈(List.toArray (List.range rs.length)):=hpm.mem_iff.mp (by simpa using hi)
    simpa using this
   have hv:ak ((pm.toList.map fun i=>(refs rs).getD i .non)) (cb its pm):=gD r' fun i hi=>by simpa using hlt i hi
   have he2:(pm.toList.map fun i=>(refs rs).getD i .non)=refs (pm.toList.map fun i=>rs.getD i (0,Str.empty)):=by
    unfold refs
    rw [List.map_map]
    exact List.map_congr_left fun i hi=>by simp [hlt i hi]
   rw [he2] at hv
   have hfr:H (s.heap.objs.size + 1)=none:=I.hok.fresh (Nat.le_succ _)
   have hpe:=jy (0,Str.empty) rs hpm
   refine⟨.ref (s.heap.objs.size + 1),_,I.laid (t':=s.toks) (o:=.lst (refs (pm.toList.map fun i=>rs.getD i (0,Str.empty)))) (fun b o z=>sortedAll_old z) (Nat.le_succ _) ⟨?_,cb its pm,e,hv,?_⟩,rfl,q _ _ hpe ?_ hfr⟩
   ·unfold refs
    rw [List.length_map,hpe.length_eq,sizeLine_eq];omega
   ·simpa [seqObj] using he
   ·rw [List.map_map,List.pairwise_map]
    refine List.pairwise_iff_getElem.mpr fun i j hi hj hij=>?_
    have hps:=hp.size
    have hi':i < pm.size:=by simpa using hi
    have hj':j < pm.size:=by simpa using hj
    have z:=of_decide_eq_true (ha i j hij (by omega))
    rw [de hi',de hj'] at z
    show ((rs.getD pm.toList[i] (0,Str.empty)).2).cps.toList < ((rs.getD pm.toList[j] (0,Str.empty)).2).cps.toList
    have b1:=hlt pm.toList[i] (List.getElem_mem _)
    have b2:=hlt pm.toList[j] (List.getElem_mem _)
    simp only [Array.getElem_toList] at b1 b2 ⊢
    simpa [b1,b2] using z
 rcases hq with hq | hq
 ·obtain⟨its,r',pl,hz⟩:=I.list hq
  obtain⟨o,ho,hc,n,hd⟩:=pl.isList
  exact core "list" o its n (.inl rfl) ho hc hd r'
 ·obtain⟨its,r',pl,hz⟩:=I.tuple hq
  obtain⟨o,ho,hc,n,hd⟩:=pl
  exact core "tuple" o its n (.inr rfl) ho hc hd r'
end
end L2
namespace L2
open PySem PySem.Spec PyProof.Rows
noncomputable def Its (x:Str):It:=⟨fun i _=>i < x.length,fun i H v H'=>H'=H/\∃c,x.cps[i]?=some c/\v=.str ⟨#[c]⟩,fun i _=>x.length<=i⟩
theorem qc {P:Program}{w:World}{K:PySem.W.Frag}{tg:Expr} (x:Str) (t:Tok) (it:Addr):Turn P w K tg (Its x) [it] it (fun i h=>h.IsStrIter it "str_ascii_iterator" x t i) where
 mem:=by simp
 obj:=fun i h st b hb=>by
  have e:b=it:=by simpa using hb
  subst e
  obtain⟨o,e,c,d⟩:=st
  exact⟨o,e,fun v z=>by rw [d] at z;cases z⟩
 keep:=fun i h h' st k=>by
  obtain⟨o,e,r⟩:=st
  exact⟨o,k it (by simp) o e,r⟩
 item:=by
  intro X hP hw hK hc i pins s σ H E I hf st hg
  subst hP hw hK
  have hg':i < x.cps.size:=hg
  obtain⟨f0,f1,f2,f3,f4,f5⟩:=hf it (by simp)
  refine wpAny_pyNext_ascii_item st (Array.getElem?_eq_getElem hg') fun h' st' sb=>?_
  have I1:Inv X pins σ H { s with heap:=h',toks:=s.toks + 1 }:=I.turned (fun b o hb e=>(sb.2 b hb).trans e) f0 f1 f3 f4 f5
  obtain⟨o,e,c,d⟩:=id st'
  exact⟨_,rfl,eU (s:={ s with heap:=h',toks:=s.toks + 1 }) e c d (by decide) ⟨.str ⟨#[x.cps[i]]⟩,H,I1,⟨_,rfl⟩,⟨rfl,_,Array.getElem?_eq_getElem hg',rfl⟩,st',fun b hb=>(hf b hb).1⟩⟩
 done:=by
  intro X hP hw hK hc i pins s σ H E I hf st hg
  subst hP hw hK
  have hg':x.cps.size<=i:=hg
  obtain⟨f0,f1,f2,f3,f4,f5⟩:=hf it (by simp)
  exact wpAny_pyNext_ascii_end (I.ok.hd hc) st (Array.getElem?_eq_none hg') fun h' eb=>⟨rfl,I.turned (t':=s.toks) (fun b o hb e=>eb b o hb e) f0 f1 f3 f4 f5⟩
 self:=fun A i s Q E st h=>wpAny_pyIter_striter_ascii st h
section
variable {X:Cx}{tg:Expr}
noncomputable def vJ (tl:TE):TI:=fun σ H R=>tl σ H fun v H1=>∃x:Str,v=.str x/\x.cps.all (· < 128)=true/\R (Its x) H1
theorem uA {l:Expr}{tl:TE} (hl:PE X l tl):PI X tg l (vJ tl):=by
 intro pins s σ H R I h
 refine thn (hl pins s σ H _ I h) fun v s1 ⟨x,H1,I1,r1,q1⟩=>?_
 obtain⟨y,rfl,ha,q⟩:=q1
 obtain⟨t,rfl⟩:=r1
 refine wpAny_pyIter_ascii ha ?_
 refine⟨s1.heap.objs.size,[s1.heap.objs.size],_,_,H1,rfl,I1.kept (t':=s1.toks) fun b o e=>Heap.get?_push_of_some _ e,qc y t _,⟨_,Heap.get?_push_size _ rfl,rfl,rfl⟩,fun b hb=>?_,q⟩
 have e:b=s1.heap.objs.size:=by simpa using hb
 subst e
 exact I1.fpOk (Nat.le_refl _) (I1.hok.fresh (Nat.le_refl _))
theorem oH {prog:Program}{w:World}{A:Around}{E:Value->Shared->Prop}{s:Shared}{t sl:Addr}{items:Array Value}{vl vu:Value}{lo hi:Option Int}{Q:Value->Shared->Prop} (ht:IsTup s.heap t items) (hs:s.heap.IsSliceOf sl vl vu .none) (pl:IsPart vl lo) (pu:IsPart vu hi)
  (h0:HT.sIx items.size 0 lo=0) (h1:HT.sIx items.size items.size hi=items.size) (h:Q (.ref t) s):wpAny (model prog w) A (getItem (.ref t) (.ref sl)) Q E s:=by
 obtain⟨os,hos,hcs,hds⟩:=id hs
 have hTs:s.TypeIs (.ref sl) "slice":=⟨os,hos,hcs⟩
 unfold getItem
 try with_reducible refine wpAny_holding ?_
 first | refine wpAny_bind (wpAny_pure ?_) | skip
 refine wpAny_bind (wpAny_sequenceKey ht.typeIs (by decide) (wpAny_bind (wpAny_callSpecial?_slot (name:=Str.ofString "__getitem__") ht.typeIs PyProof.Rows.slot_tuple_getitem
  (wpAny_call_entry PyProof.Rows.slot_tuple_getitem ht.typeIs entry_tuple_getitem ?_ (args_tuple_getitem _ _)))))
 show wpAny _ _ (Builtin.Tuple.tupleItemsOf (.ref t) >>= _) _ _ s
 refine wpAny_bind (tupleItemsOf_ ht (wpAny_bind (wpAny_typeOf hTs ?_)))
 rw [if_pos (by decide)]
 refine wpAny_bind (HT.nt hs pl pu ?_)
 show wpAny _ _ (if (((HT.sIx items.size 0 lo:Nat):Int) == 0 && (1:Int) == 1 && (HT.sIx items.size items.size hi - HT.sIx items.size 0 lo) == items.size)=true then _ else _) _ _ s
 rw [h0,h1,if_pos (by simp)]
 refine wpAny_bind (wpAny_bind (wpAny_typeOf ht.typeIs (wpAny_pure ?_)))
 rw [if_pos (by rfl)]
 exact wpAny_bind (wpAny_rule (wpAny_pure ⟨_,rfl,wpAny_pure h⟩))
noncomputable def vO (K:PySem.W.Frag):V->Option Int->Option Int->Hp->VK->Prop:=fun x lo hi H Q=>∃a xs,x=.ref a/\SqT K H a xs /\
 (bD xs lo hi=xs->Q (.ref a) H)/\∀p,H p=none->Q (.ref p) (upd H p (.tup (bD xs lo hi)))
theorem hV:SlR X (vO X.K):=by
 intro pins s σ H x v vl vu lo hi sl Q I rx hs pl pu h
 obtain⟨a,xs,rfl,hx,q1,q2⟩:=h
 by_cases hw:HT.sIx xs.length 0 lo=0/\HT.sIx xs.length xs.length hi=xs.length
 ·cases rx
  obtain⟨its,r,ht,hz⟩:=I.tuple hx
  have hlen:its.toArray.size=xs.length:=by rw [List.size_toArray];exact r.length.symm
  refine⟨"tuple",_,PyProof.Rows.slot_tuple_getitem.lookup,ht.typeIs,oH ht hs pl pu (by rw [hlen];exact hw.1) (by rw [hlen];exact hw.2) ⟨.ref a,H,I,rfl,q1 ?_⟩⟩
  unfold bD
  rw [hw.1,hw.2]
  simp
 ·exact tL pins s σ H (.ref a) v vl vu lo hi sl Q I rx hs pl pu ⟨a,xs,rfl,hx,hw,q2⟩
noncomputable def my (K:PySem.W.Frag):R2:=fun x y H Q=>∃a b xs ys,x=.ref a/\y=.ref b/\SqT K H a xs/\SqT K H b ys/\xs.length + ys.length<=sizeLine /\
 (xs=[]->Q (.ref b) H)/\(ys=[]->Q (.ref a) H)/\∀p,H p=none->Q (.ref p) (upd H p (.tup (xs++ys)))
theorem sG:OpR X (binaryOp .Add) (my X.K):=by
 intro pins s σ H x y v u Q I rx ry h
 obtain⟨a,b,xs,ys,rfl,rfl,ha,hb,hz,q0,q1,q2⟩:=h
 by_cases hx:xs=[]
 ·subst hx
  cases rx
  cases ry
  obtain⟨its,r1,p1,_⟩:=I.tuple ha
  obtain⟨its2,r2,p2,_⟩:=I.tuple hb
  cases r1
  obtain⟨⟨cls,dd,data,sl⟩,ho,hc,n,hd⟩:=id p1
  obtain⟨⟨cls2,dd2,data2,sl2⟩,ho2,hc2,n2,hd2⟩:=id p2
  simp only at hc hd hc2 hd2
  subst hc hd hc2 hd2
  exact concat_meets ⟨_,ho,rfl⟩ ⟨_,ho2,rfl⟩ noFill_tuple_add seq_tuple_add PySem.F.slot_tuple_add PySem.F.entry_tuple_add (PySem.F.args_tuple_add_2 _ _)
   (tuple_addW0 a b _ its2.toArray n n2 dd dd2 sl sl2 (by simp)) ⟨ho,ho2,⟨.ref b,H,I,rfl,q0 rfl⟩⟩
 ·exact rG pins s σ H (.ref a) (.ref b) v u Q I rx ry ⟨a,b,xs,ys,rfl,rfl,ha,hb,hx,hz,q1,fun _=>q2⟩
end
section
variable {K:PySem.W.Frag}{g:TG}{tt:TT}{te:TE}{σ':St}{fin:List V->Hp->Prop}{H1:Hp}
theorem fP {J:It}{n:Nat} (hn:n < sizeLine) (Pv:Nat->List V->St->Hp->Prop) (Yd:Nat->V->Prop) (h0:Pv 0 [] σ' H1) (hl:∀i ys σ H,i<=n->Pv i ys σ H->ys.length<=i)
  (hgo:∀i ys σ H,i < n->Pv i ys σ H->J.go i H) (hst:∀ys σ H,Pv n ys σ H->J.stop n H) (hy:∀i ys σ H x H',i < n->Pv i ys σ H->J.yld i H x H'->H'=H/\Yd i x)
  (hs:∀i x ys σ H,i < n->Yd i x->Pv i ys σ H->g x σ H fun σ2 H2=>tt σ2 H2 fun b H3=>if b=true then te σ2 H3 (fun v H4=>Pv (i + 1) (ys++[v]) σ2 H4) else Pv (i + 1) ys σ2 H3) (hd:∀ys σ H,Pv n ys σ H->fin ys H) :
  LcW J g tt te σ' fin H1:=by
 refine⟨fun i m ys σ H=>m=n - i/\i<=n/\Pv i ys σ H,⟨n,by simp,Nat.zero_le _,h0⟩,?_⟩
 rintro i m ys σ H ⟨rfl,hi,p⟩
 have hly:=hl i ys σ H hi p
 by_cases hlt:i < n
 ·refine .inr ⟨hgo i ys σ H hlt p,by omega,fun ys' σ2 H2=>Pv (i + 1) ys' σ2 H2,fun ys' σ2 H2 q=>⟨n - (i + 1),by omega,rfl,hlt,q⟩,fun x H' y=>?_⟩
  obtain⟨e,yd⟩:=hy i ys σ H x H' hlt p y
  subst e
  exact hs i x ys σ H' hlt yd p
 ·have e:i=n:=by omega
  subst e
  exact .inl ⟨hst ys σ H p,by omega,hd ys σ H p⟩
theorem eK {a:Addr}{xs:List V} (hn:xs.length < sizeLine) (Pv:Nat->List V->St->Hp->Prop) (h0:Pv 0 [] σ' H1) (hl:∀i ys σ H,i<=xs.length->Pv i ys σ H->ys.length<=i/\SqT K H a xs)
  (hs:∀i x ys σ H,xs[i]?=some x->Pv i ys σ H->g x σ H fun σ2 H2=>tt σ2 H2 fun b H3=>if b=true then te σ2 H3 (fun v H4=>Pv (i + 1) (ys++[v]) σ2 H4) else Pv (i + 1) ys σ2 H3) (hd:∀ys σ H,Pv xs.length ys σ H->fin ys H) :
  LcW (Itt K a) g tt te σ' fin H1 :=
 fP hn Pv (fun i x=>xs[i]?=some x) h0 (fun i ys σ H hi p=>(hl i ys σ H hi p).1) (fun i ys σ H hi p=>⟨xs,xs[i],(hl i ys σ H (Nat.le_of_lt hi) p).2,by simp [hi]⟩) (fun ys σ H p=>⟨xs,(hl _ ys σ H (Nat.le_refl _) p).2,Nat.le_refl _⟩)
  (fun i ys σ H x H' hi p y=>⟨y.1,y.2 xs (hl i ys σ H (Nat.le_of_lt hi) p).2⟩) (fun i x ys σ H _ yd p=>hs i x ys σ H yd p) hd
theorem eA {a:Addr}{xs:List V} (hn:xs.length < sizeLine) (Pv:Nat->List V->St->Hp->Prop) (h0:Pv 0 [] σ' H1) (hl:∀i ys σ H,i<=xs.length->Pv i ys σ H->ys.length<=i/\SqL K H a xs)
  (hs:∀i x ys σ H,xs[i]?=some x->Pv i ys σ H->g x σ H fun σ2 H2=>tt σ2 H2 fun b H3=>if b=true then te σ2 H3 (fun v H4=>Pv (i + 1) (ys++[v]) σ2 H4) else Pv (i + 1) ys σ2 H3) (hd:∀ys σ H,Pv xs.length ys σ H->fin ys H) :
  LcW (Itl K a) g tt te σ' fin H1 :=
 fP hn Pv (fun i x=>xs[i]?=some x) h0 (fun i ys σ H hi p=>(hl i ys σ H hi p).1) (fun i ys σ H hi p=>⟨xs,xs[i],(hl i ys σ H (Nat.le_of_lt hi) p).2,by simp [hi]⟩) (fun ys σ H p=>⟨xs,(hl _ ys σ H (Nat.le_refl _) p).2,Nat.le_refl _⟩)
  (fun i ys σ H x H' hi p y=>⟨y.1,y.2 xs (hl i ys σ H (Nat.le_of_lt hi) p).2⟩) (fun i x ys σ H _ yd p=>hs i x ys σ H yd p) hd
theorem oJ {lo:Int}{n:Nat} (hn:n < sizeLine) (Pv:Nat->List V->St->Hp->Prop) (h0:Pv 0 [] σ' H1) (hl:∀i ys σ H,i<=n->Pv i ys σ H->ys.length<=i)
  (hs:∀i ys σ H,i < n->Pv i ys σ H->g (.int (lo + i)) σ H fun σ2 H2=>tt σ2 H2 fun b H3=>if b=true then te σ2 H3 (fun v H4=>Pv (i + 1) (ys++[v]) σ2 H4) else Pv (i + 1) ys σ2 H3) (hd:∀ys σ H,Pv n ys σ H->fin ys H) :
  LcW (Itr lo n) g tt te σ' fin H1 :=
 fP hn Pv (fun i x=>x=.int (lo + i)) h0 hl (fun i ys σ H hi p=>hi) (fun ys σ H p=>Nat.le_refl _) (fun i ys σ H x H' hi p y=>y) (fun i x ys σ H hi yd p=>by subst yd;exact hs i ys σ H hi p) hd
theorem qI {x:Str} (hn:x.length < sizeLine) (Pv:Nat->List V->St->Hp->Prop) (h0:Pv 0 [] σ' H1) (hl:∀i ys σ H,i<=x.length->Pv i ys σ H->ys.length<=i)
  (hs:∀i c ys σ H,x.cps[i]?=some c->Pv i ys σ H->g (.str ⟨#[c]⟩) σ H fun σ2 H2=>tt σ2 H2 fun b H3=>if b=true then te σ2 H3 (fun v H4=>Pv (i + 1) (ys++[v]) σ2 H4) else Pv (i + 1) ys σ2 H3) (hd:∀ys σ H,Pv x.length ys σ H->fin ys H) :
  LcW (Its x) g tt te σ' fin H1 :=
 fP hn Pv (fun i v=>∃c,x.cps[i]?=some c/\v=.str ⟨#[c]⟩) h0 hl (fun i ys σ H hi p=>hi) (fun ys σ H p=>Nat.le_refl _) (fun i ys σ H v H' hi p y=>y) (fun i v ys σ H hi yd p=>by obtain⟨c,e,rfl⟩:=yd;exact hs i c ys σ H e p) hd
end
section
variable {K:PySem.W.Frag}{tt:TT}{te:TE}{σ':St}{fin:List V->Hp->Prop}{H1:Hp}{j:Nat}
theorem gI {a:Addr}{xs:List V} (hn:xs.length < sizeLine) (Pv:Nat->List V->St->Hp->Prop) (h0:Pv 0 [] σ' H1) (hl:∀i ys σ H,i<=xs.length->Pv i ys σ H->ys.length<=i/\SqT K H a xs)
  (hs:∀i x ys σ H,xs[i]?=some x->Pv i ys σ H->te (σ.set j (some x)) H fun v H4=>Pv (i + 1) (ys++[v]) (σ.set j (some x)) H4) (hd:∀ys σ H,Pv xs.length ys σ H->fin ys H):LcW (Itt K a) (bM j) bq te σ' fin H1 :=
 eK hn Pv h0 hl (fun i x ys σ H hx p=>by unfold bM bq;exact bJ (hs i x ys σ H hx p)) hd
theorem gz {a:Addr}{xs:List V} (hn:xs.length < sizeLine) (Pv:Nat->List V->St->Hp->Prop) (h0:Pv 0 [] σ' H1) (hl:∀i ys σ H,i<=xs.length->Pv i ys σ H->ys.length<=i/\SqL K H a xs)
  (hs:∀i x ys σ H,xs[i]?=some x->Pv i ys σ H->te (σ.set j (some x)) H fun v H4=>Pv (i + 1) (ys++[v]) (σ.set j (some x)) H4) (hd:∀ys σ H,Pv xs.length ys σ H->fin ys H):LcW (Itl K a) (bM j) bq te σ' fin H1 :=
 eA hn Pv h0 hl (fun i x ys σ H hx p=>by unfold bM bq;exact bJ (hs i x ys σ H hx p)) hd
theorem fc {lo:Int}{n:Nat} (hn:n < sizeLine) (Pv:Nat->List V->St->Hp->Prop) (h0:Pv 0 [] σ' H1) (hl:∀i ys σ H,i<=n->Pv i ys σ H->ys.length<=i)
  (hs:∀i ys σ H,i < n->Pv i ys σ H->te (σ.set j (some (.int (lo + i)))) H fun v H4=>Pv (i + 1) (ys++[v]) (σ.set j (some (.int (lo + i)))) H4) (hd:∀ys σ H,Pv n ys σ H->fin ys H):LcW (Itr lo n) (bM j) bq te σ' fin H1 :=
 oJ hn Pv h0 hl (fun i ys σ H hx p=>by unfold bM bq;exact bJ (hs i ys σ H hx p)) hd
theorem qu {x:Str} (hn:x.length < sizeLine) (Pv:Nat->List V->St->Hp->Prop) (h0:Pv 0 [] σ' H1) (hl:∀i ys σ H,i<=x.length->Pv i ys σ H->ys.length<=i)
  (hs:∀i c ys σ H,x.cps[i]?=some c->Pv i ys σ H->te (σ.set j (some (.str ⟨#[c]⟩))) H fun v H4=>Pv (i + 1) (ys++[v]) (σ.set j (some (.str ⟨#[c]⟩))) H4) (hd:∀ys σ H,Pv x.length ys σ H->fin ys H):LcW (Its x) (bM j) bq te σ' fin H1 :=
 qI hn Pv h0 hl (fun i c ys σ H hx p=>by unfold bM bq;exact bJ (hs i c ys σ H hx p)) hd
theorem oK {a:Addr}{xs:List V} (hn:xs.length < sizeLine) (Pv:Nat->List V->St->Hp->Prop) (h0:Pv 0 [] σ' H1) (hl:∀i ys σ H,i<=xs.length->Pv i ys σ H->ys.length<=i/\SqL K H a xs)
  (hs:∀i x ys σ H,xs[i]?=some x->Pv i ys σ H->tt (σ.set j (some x)) H fun b H3=>if b=true then te (σ.set j (some x)) H3 (fun v H4=>Pv (i + 1) (ys++[v]) (σ.set j (some x)) H4) else Pv (i + 1) ys (σ.set j (some x)) H3)
  (hd:∀ys σ H,Pv xs.length ys σ H->fin ys H):LcW (Itl K a) (bM j) tt te σ' fin H1:=eA hn Pv h0 hl hs hd
end
section
variable {X:Cx}{pins:List (Addr×Obj)}{σ:St}{H:Hp}{s:Shared}{h':Heap}
theorem Inv.turnedS {t':Nat}{ch:List Addr} (I:Inv X pins σ H s) (k:∀b o,b∉ch->s.heap.get? b=some o->h'.get? b=some o) (hf:∀b∈ch,bv X pins H b):Inv X pins σ H { s with heap:=h',toks:=t' }:=by
 have nit:∀b u,H b=some u->b∉ch:=fun b u e z=>by rw [(hf b z).1] at e;cases e
 have hL:X.env.locals∉ch:=fun z=>(hf _ z).2.1 rfl
 refine I.step (g':=s.gens) (d':=s.drawn) (ch:=ch) (fun b hb=>⟨(hf b hb).2.2.2.1,(hf b hb).2.1,(hf b hb).2.2.2.2.1,(hf b hb).2.2.2.2.2⟩) (fun b o _ _ hc e _=>k b o hc e) (fun b o _ _ hc e _=>⟨o.slots,k b o hc e⟩) (fun _ _ _ _ n=>n)
  (fun b o hc e=>⟨o,k b o hc e⟩) (fun _ _ e=>e) (fun _ _ _ e=>e) (fun b ps e=>⟨#[],by rw [e];simp⟩) (fun m hm=>?_) (fun b u e=>?_) I.bare
 ·obtain⟨o,es,ep,ho,r⟩:=hm
  exact⟨o,es,ep,k _ o hL ho,r⟩
 ·refine (I.hok b u e).stay (fun c v hc q=>k c v ?_ q) (fun _ q=>q) fun _ _ q=>q
  rcases hc with z | z
  ·rw [z];exact nit b u e
  ·exact nit c _ z
end
noncomputable def Itz (K:PySem.W.Frag) (a b:Addr):It :=
 ⟨fun i H=>∃xs ys x y,SqL K H a xs/\SqL K H b ys/\xs[i]?=some x/\ys[i]?=some y,
  fun i H v H'=>∃T x y,v=.ref T/\H T=none/\H'=upd H T (.tup [x,y])/\(∀xs,SqL K H a xs->xs[i]?=some x)/\∀ys,SqL K H b ys->ys[i]?=some y,
  fun i H=>∃xs ys,SqL K H a xs/\SqL K H b ys/\(xs.length<=i\/ys.length<=i)⟩
noncomputable def vj (z TI TO i1 i2 l1 l2:Addr) (i:Nat) (h:Heap):Prop:=IsZip h z TI TO .none/\IsPair h TI (.ref i1) (.ref i2)/\(∃a b,IsPair h TO a b)/\h.IsListIter i1 l1 i/\h.IsListIter i2 l2 i
theorem pT {P:Program}{w:World}{K:PySem.W.Frag}{elts:List Expr}{x1}{pos:Pos} (z TI TO i1 i2 l1 l2:Addr) (D:ZipApart z TI TO i1 i2 l1 l2) :
  Turn P w K (.Tuple elts x1 pos) (Itz K l1 l2) [z,TI,TO,i1,i2] z (vj z TI TO i1 i2 l1 l2) where
 mem:=by simp
 obj:=fun i h st b hb=>by
  obtain⟨hz,hTI,⟨a,c,hTO⟩,⟨o1,e1,c1,d1⟩,⟨o2,e2,c2,d2⟩⟩:=st
  simp only [List.mem_cons,List.not_mem_nil,or_false] at hb
  rcases hb with rfl | rfl | rfl | rfl | rfl
  ·exact⟨_,hz,fun v q=>by cases q⟩
  ·exact⟨_,hTI,fun v q=>by cases q⟩
  ·exact⟨_,hTO,fun v q=>by cases q⟩
  ·exact⟨_,e1,fun v q=>by rw [d1] at q;cases q⟩
  ·exact⟨_,e2,fun v q=>by rw [d2] at q;cases q⟩
 keep:=fun i h h' st k=>by
  obtain⟨hz,hTI,⟨a,c,hTO⟩,h1,h2⟩:=st
  exact⟨k z (by simp) _ hz,k TI (by simp) _ hTI,⟨a,c,k TO (by simp) _ hTO⟩,h1.at fun o e=>k i1 (by simp) o e,h2.at fun o e=>k i2 (by simp) o e⟩
 item:=by
  intro X hP hw hK hc i pins s σ H E I hf st hg
  subst hP hw hK
  obtain⟨xs,ys,x,y,hq1,hq2,hx,hy⟩:=hg
  obtain⟨hz,hTI,⟨a,c,hTO⟩,h1,h2⟩:=id st
  obtain⟨its1,rv1,p1,hz1⟩:=I.list hq1
  obtain⟨its2,rv2,p2,hz2⟩:=I.list hq2
  obtain⟨u1,hu1,ru1⟩:=rv1.get hx
  obtain⟨u2,hu2,ru2⟩:=rv2.get hy
  refine wpAny_pyNext_zip_item D hz hTI hTO h1 h2 p1.isList p2.isList (x:=u1) (y:=u2) (by simpa using hu1) (by simpa using hu2) fun h' a1 a2 a3 a4 a5 a6 a7=>?_
  refine⟨_,rfl,wpAny_letOwnedTupleGo_zip (s:={ s with heap:=h' }) a1 fun h'' z2 sb=>?_⟩
  have sb':=sb.extBut
  generalize hT:s.heap.objs.size=T at *
  have lt:∀{b:Addr}{o:Obj},s.heap.get? b=some o->b≠T:=fun {b o} e=>by rw [<- hT];exact Nat.ne_of_lt (Heap.lt_size e)
  have fresh:H T=none:=by rw [<- hT];exact I.hok.fresh (Nat.le_refl _)
  have hne:∀b∈[z,TI,TO,i1,i2],b≠T:=fun b hb=>by
   obtain⟨o1,e1,_⟩:=h1
   obtain⟨o2,e2,_⟩:=h2
   simp only [List.mem_cons,List.not_mem_nil,or_false] at hb
   rcases hb with rfl | rfl | rfl | rfl | rfl
   ·exact lt hz
   ·exact lt hTI
   ·exact lt hTO
   ·exact lt e1
   ·exact lt e2
  have I0:Inv X pins σ (upd H T (.tup [x,y])) { s with heap:=s.heap.push { cls:=.type "tuple",data:=.seq #[u1,u2] },toks:=s.toks }:=by
   subst hT
   exact I.laid (t':=s.toks) (fun b o q=>Heap.get?_push_of_some _ q) (Nat.le_refl _) ⟨by show 2<=sizeLine;decide,[u1,u2],.cons ru1 (.cons ru2 .nil),_,Heap.get?_push_size _ rfl,rfl,0,rfl⟩
  have up:∀b o,b∉[z,TI,TO,i1,i2]->(s.heap.push { cls:=.type "tuple",data:=.seq #[u1,u2] }).get? b=some o->h''.get? b=some o:=fun b o hb e=>by
   simp only [List.mem_cons,List.not_mem_nil,or_false,not_or] at hb
   rcases Heap.get?_push_cases e with ⟨e1,e2⟩ | e1
   ·subst e2
    rw [e1,hT]
    exact sb' _ _ (hne z (by simp)).symm a5
   ·exact sb' _ _ hb.1 (a7 b o hb.1 hb.2.2.1 hb.2.2.2.1 hb.2.2.2.2 e1)
  have I2:Inv X pins σ (upd H T (.tup [x,y])) { s with heap:=h'',toks:=s.toks }:=Inv.turnedS (s:={ s with heap:=s.heap.push { cls:=.type "tuple",data:=.seq #[u1,u2] },toks:=s.toks }) (t':=s.toks) (ch:=[z,TI,TO,i1,i2]) I0 up fun b hb=>by
   obtain⟨f0,f1⟩:=hf b hb
   exact⟨by rw [aj (hne b hb)];exact f0,f1⟩
  exact⟨.ref T,upd H T (.tup [x,y]),I2,rfl,⟨T,x,y,rfl,fresh,rfl,fun ws hw=>by rw [I.list_inj hw hq1];exact hx,fun ws hw=>by rw [I.list_inj hw hq2];exact hy⟩,
   ⟨z2,sb' _ _ D.TIz (a7 _ _ D.TIz D.TITO D.TIi1 D.TIi2 hTI),⟨_,_,sb' _ _ D.TOz a2⟩,a3.at fun o e=>sb' _ _ D.i1z e,a4.at fun o e=>sb' _ _ D.i2z e⟩,fun b hb=>by rw [aj (hne b hb)];exact (hf b hb).1⟩
 done:=by
  intro X hP hw hK hc i pins s σ H E I hf st hg
  subst hP hw hK
  obtain⟨xs,ys,hq1,hq2,hx⟩:=hg
  obtain⟨hz,hTI,⟨a,c,hTO⟩,h1,h2⟩:=id st
  obtain⟨its1,rv1,p1,hz1⟩:=I.list hq1
  obtain⟨its2,rv2,p2,hz2⟩:=I.list hq2
  have hl1:=rv1.length
  have hl2:=rv2.length
  refine wpAny_pyNext_zip_end (I.ok.hd hc) D hz hTI hTO h1 h2 p1.isList p2.isList ?_ fun h' hk=>⟨rfl,I.turnedS (t':=s.toks) (ch:=[z,TI,TO,i1,i2]) (fun b o hb e=>?_) hf⟩
  ·rcases hx with q | q
   ·exact .inl (by simp;omega)
   ·exact .inr (by simp;omega)
  ·simp only [List.mem_cons,List.not_mem_nil,or_false,not_or] at hb
   exact hk b o hb.1 hb.2.2.1 hb.2.2.2.1 hb.2.2.2.2 e
 self:=fun _ _ _ _ _ st h=>wpAny_pyIter_zip st.1 h
theorem boot_zip:bootBuiltins "zip"=some (.type "zip"):=by decide +kernel
section
variable {X:Cx}
noncomputable def vM (K:PySem.W.Frag) (ta:TA):TI:=fun σ H R=>ta σ H fun vs H1=>∃a b xs ys,vs=[.ref a,.ref b]/\SqL K H1 a xs/\SqL K H1 b ys/\R (Itz K a b) H1
theorem uk {a b:Expr}{elts:List Expr}{x1}{tpos:Pos}{ta:TA}{p pos:Pos} (hg:Gl X "zip") (hm:X.mg "zip"=none) (ha:PA X [a,b] ta) (hs:starEach [a,b] X.env=[(false,eval a X.env),(false,eval b X.env)]:=by rfl) (hs2:starEach [b] X.env=[(false,eval b X.env)]:=by rfl) :
  PI X (.Tuple elts x1 tpos) (.Call (.Name "zip" p) [a,b] [] pos) (vM X.K ta):=by
 intro pins s σ H R I h
 refine Call_ (cI I hg hm boot_zip (PyProof.Rows.callWith_type1 (thn (ha pos pins s σ H _ I h) fun us s1 ⟨vs,H1,I1,r1,q1⟩=>?_) (by rw [hs,hs2]) (by rw [hs2];rfl)))
 obtain⟨a',b',xs,ys,rfl,hq1,hq2,q⟩:=q1
 obtain⟨u1,u2,rfl,ra,rb⟩:=vals2 r1
 cases ra
 cases rb
 obtain⟨its1,rv1,p1,hz1⟩:=I1.list hq1
 obtain⟨its2,rv2,p2,hz2⟩:=I1.list hq2
 have l1:a' < s1.heap.objs.size:=by obtain⟨o,n,e,_⟩:=p1;exact Heap.lt_size e
 have l2:b' < s1.heap.objs.size:=by obtain⟨o,n,e,_⟩:=p2;exact Heap.lt_size e
 refine call_zip_2 p1.isList p2.isList fun h' hz hTI hTO hi1 hi2 hsz hk=>?_
 refine wpAny_pyIter_zip hz ?_
 refine⟨_,[s1.heap.objs.size + 4,s1.heap.objs.size + 2,s1.heap.objs.size + 3,s1.heap.objs.size,s1.heap.objs.size + 1],_,_,H1,rfl,I1.kept (t':=s1.toks) hk,pT _ _ _ _ _ _ _ (zipApart_new l1 l2),⟨hz,hTI,⟨_,_,hTO⟩,hi1,hi2⟩,fun b hb=>?_,q⟩
 have hle:s1.heap.objs.size<=b:=by
  simp only [List.mem_cons,List.not_mem_nil,or_false] at hb
  rcases hb with rfl | rfl | rfl | rfl | rfl
  ·exact Nat.le_add_right _ _
  ·exact Nat.le_add_right _ _
  ·exact Nat.le_add_right _ _
  ·exact Nat.le_refl _
  ·exact Nat.le_add_right _ _
 exact I1.fpOk hle (I1.hok.fresh hle)
end
section
variable {prog:Program}{w:World}{A:Around}{E:Value->Shared->Prop}{s:Shared}
end
section
variable {X:Cx}
theorem qQ {K:PySem.W.Frag}{g:TG}{tt:TT}{te:TE}{σ':St}{fin:List V->Hp->Prop}{H1:Hp}{a b:Addr}{xs ys:List V} (hn:min xs.length ys.length < sizeLine) (Pv:Nat->List V->St->Hp->Prop) (h0:Pv 0 [] σ' H1)
  (hl:∀i zs σ H,i<=min xs.length ys.length->Pv i zs σ H->zs.length<=i/\SqL K H a xs/\SqL K H b ys)
  (hs:∀i x y zs σ H T,xs[i]?=some x->ys[i]?=some y->Pv i zs σ H->H T=none->g (.ref T) σ (upd H T (.tup [x,y])) fun σ2 H2=>tt σ2 H2 fun b H3=>if b=true then te σ2 H3 (fun v H4=>Pv (i + 1) (zs++[v]) σ2 H4) else Pv (i + 1) zs σ2 H3)
  (hd:∀zs σ H,Pv (min xs.length ys.length) zs σ H->fin zs H):LcW (Itz K a b) g tt te σ' fin H1:=by
 refine⟨fun i m zs σ H=>m=min xs.length ys.length - i/\i<=min xs.length ys.length/\Pv i zs σ H,⟨min xs.length ys.length,by simp,Nat.zero_le _,h0⟩,?_⟩
 rintro i m zs σ H ⟨rfl,hi,p⟩
 obtain⟨q0,q1,q2⟩:=hl i zs σ H hi p
 by_cases hlt:i < min xs.length ys.length
 ·have h1:i < xs.length:=by omega
  have h2:i < ys.length:=by omega
  refine .inr ⟨⟨xs,ys,xs[i],ys[i],q1,q2,by simp [h1],by simp [h2]⟩,by omega,fun zs' σ2 H2=>Pv (i + 1) zs' σ2 H2,fun zs' σ2 H2 q=>⟨min xs.length ys.length - (i + 1),by omega,rfl,hlt,q⟩,fun v H' y=>?_⟩
  obtain⟨T,x,y,rfl,hT,rfl,e1,e2⟩:=y
  exact hs i x y zs σ H T (e1 xs q1) (e2 ys q2) p hT
 ·have e:i=min xs.length ys.length:=by omega
  subst e
  refine .inl ⟨⟨xs,ys,q1,q2,?_⟩,by omega,hd zs σ H p⟩
  rcases Nat.le_total xs.length ys.length with z | z
  ·exact .inl (by omega)
  ·exact .inr (by omega)
end
section
variable {κ:Type} [DecidableEq κ]
noncomputable def bc (kvs:List (κ×V)) (k:κ):Option V:=(kvs.find? fun kv=>decide (kv.1=k)).map (·.2)
noncomputable def putK (kvs:List (κ×V)) (k:κ) (v:V):List (κ×V) :=
 if (kvs.any fun kv=>decide (kv.1=k))=true then kvs.map (fun kv=>if kv.1=k then (kv.1,v) else kv) else kvs++[(k,v)]
noncomputable def wA (kvs:List (κ×V)) (k:κ):List (κ×V):=kvs.filter fun kv=>decide (kv.1≠k)
theorem bU {p:κ×V}{r:List (κ×V)}{k:κ} (e:p.1=k):bc (p::r) k=some p.2:=by simp [bc,List.find?_cons,e]
theorem bT {p:κ×V}{r:List (κ×V)}{k:κ} (e:¬ p.1=k):bc (p::r) k=bc r k:=by simp [bc,List.find?_cons,e]
theorem dr (k:κ):∀kvs:List (κ×V),(kvs.any fun kv=>decide (kv.1=k))=(bc kvs k).isSome
 | []=>rfl
 | p::r=>by
  rw [List.any_cons]
  by_cases e:p.1=k
  ·simp only [bU e,decide_eq_true e,Bool.true_or,Option.isSome_some]
  ·rw [bT e,decide_eq_false e,Bool.false_or];exact dr k r
theorem j7 (k j:κ) (y:V):∀kvs:List (κ×V),bc (kvs.map fun kv=>if kv.1=k then (kv.1,y) else kv) j=(bc kvs j).map fun x=>if j=k then y else x
 | []=>rfl
 | p::r=>by
  have ih:=j7 k j y r
  rw [List.map_cons]
  by_cases h:p.1=k
  ·rw [if_pos h]
   by_cases e:p.1=j
   ·rw [bU (p:=(p.1,y)) e,bU e,Option.map_some,if_pos (e.symm.trans h)]
   ·rw [bT (p:=(p.1,y)) e,bT e,ih]
  ·rw [if_neg h]
   by_cases e:p.1=j
   ·rw [bU (p:=p) e,bU e,Option.map_some,if_neg (fun z=>h (e.trans z))]
   ·rw [bT (p:=p) e,bT e,ih]
theorem jC (k j:κ) (y:V):∀kvs:List (κ×V),bc kvs k=none->bc (kvs++[(k,y)]) j=if j=k then some y else bc kvs j
 | [],_=>by
  by_cases e:k=j
  ·rw [if_pos e.symm];exact bU (p:=(k,y)) e
  ·rw [if_neg (fun z=>e z.symm)];exact bT (p:=(k,y)) e
 | p::r,hn=>by
  rw [List.cons_append]
  have hk:¬ p.1=k:=fun z=>by rw [bU z] at hn;cases hn
  rw [bT hk] at hn
  have ih:=jC k j y r hn
  by_cases e:p.1=j
  ·rw [bU e,bU e,if_neg (fun z=>hk (e.trans z))]
  ·rw [bT e,bT e,ih]
theorem ka (kvs:List (κ×V)) (k j:κ) (y:V):bc (putK kvs k y) j=if j=k then some y else bc kvs j:=by
 unfold putK
 by_cases a:(kvs.any fun kv=>decide (kv.1=k))=true
 ·rw [if_pos a,j7]
  rw [dr] at a
  by_cases e:j=k
  ·obtain⟨x,hx⟩:=Option.isSome_iff_exists.mp a
   rw [if_pos e,e,hx,Option.map_some,if_pos rfl]
  ·rw [if_neg e]
   cases bc kvs j with
   | none=>rfl
   | some x=>rw [Option.map_some,if_neg e]
 ·rw [if_neg a]
  refine jC k j y kvs ?_
  rw [dr] at a
  cases q:bc kvs k with
  | none=>rfl
  | some x=>rw [q] at a;exact (a rfl).elim
theorem e9 (kvs:List (κ×V)) (k:κ) (v:V):(putK kvs k v).length<=kvs.length + 1:=by
 unfold putK
 split
 ·rw [List.length_map];omega
 ·rw [List.length_append,List.length_cons,List.length_nil];omega
theorem b6.isSome_eq {o:Option V}{u:Option Value} (r:b6 o u):o.isSome=u.isSome:=by
 cases o with
 | none=>cases u with
  | none=>rfl
  | some _=>exact (show False from r).elim
 | some _=>cases u with
  | none=>exact (show False from r).elim
  | some _=>rfl
theorem KV.val {kvs:List (κ×V)}{vs:List (κ×Value)} (r:KV kvs vs) (k:κ):b6 (bc kvs k) (valueAt vs k):=by
 unfold KV at r
 induction r with
 | nil=>exact True.intro
 | @cons p q ps qs h t ih =>
  obtain⟨h1,h2⟩:=h
  by_cases e:p.1=k
  ·have e':q.1=k:=h1.symm.trans e
   have b:valueAt (q::qs) k=some q.2:=by simp [valueAt,List.find?_cons,e']
   rw [bU e,b];exact h2
  ·have e':¬ q.1=k:=fun z=>e (h1.trans z)
   have b:valueAt (q::qs) k=valueAt qs k:=by simp [valueAt,List.find?_cons,e']
   rw [bT e,b];exact ih
theorem KV.any {kvs:List (κ×V)}{vs:List (κ×Value)} (r:KV kvs vs) (k:κ):(kvs.any fun kv=>decide (kv.1=k))=vs.any fun kv=>decide (kv.1=k):=by
 unfold KV at r
 induction r with
 | nil=>rfl
 | cons h t ih=>rw [List.any_cons,List.any_cons,ih,h.1]
theorem KV.repl {kvs:List (κ×V)}{vs:List (κ×Value)} (r:KV kvs vs) (k:κ) {y:V}{u:Value} (ry:RelV y u) :
  KV (kvs.map fun kv=>if kv.1=k then (kv.1,y) else kv) (vs.map fun kv=>if kv.1=k then (kv.1,u) else kv):=by
 unfold KV at r ⊢
 induction r with
 | nil=>exact .nil
 | @cons p q ps qs h t ih =>
  rw [List.map_cons,List.map_cons]
  refine .cons ?_ ih
  obtain⟨h1,h2⟩:=h
  by_cases e:p.1=k
  ·rw [if_pos e,if_pos (h1.symm.trans e)];exact⟨h1,ry⟩
  ·rw [if_neg e,if_neg (fun z=>e (h1.trans z))];exact⟨h1,h2⟩
theorem KV.put {kvs:List (κ×V)}{vs:List (κ×Value)} (r:KV kvs vs) (k:κ) {y:V}{u:Value} (ry:RelV y u):KV (putK kvs k y) (stored vs k u):=by
 unfold putK stored
 rw [r.any k]
 by_cases e:(vs.any fun kv=>decide (kv.1=k))=true
 ·rw [if_pos e,if_pos e];exact r.repl k ry
 ·rw [if_neg e,if_neg e];exact Paired.snoc r ⟨rfl,ry⟩
theorem KV.length {kvs:List (κ×V)}{vs:List (κ×Value)} (r:KV kvs vs):kvs.length=vs.length:=Paired.length r
end
theorem dQ {P:Program}{w:World}{k:Key}{u:Value} (r:RelV (kV k) u):(bB P w).is k u=true:=by
 cases k with
 | inl i=>obtain⟨t,e⟩:=(show ∃t,u=Value.int i t from r);subst e;exact nP P w i t
 | inr x=>obtain⟨t,e⟩:=(show ∃t,u=Value.str x t from r);subst e;exact nZ P w x t
theorem jk {P:Program}{w:World}:∀{ks:List Key}{us:List Value},ak (ks.map kV) us->ItemsAre (bB P w) ks us
 | [],_,r=>by rw [List.map_nil] at r;cases r;exact .nil
 | k::ks,_,r=>by
  rw [List.map_cons] at r
  cases r with
  | cons h t=>exact .cons (dQ h) (jk t)
noncomputable abbrev KT (H:Hp):List (List Key×V)->List (List Key×Addr×Value)->Prop:=Paired fun p q=>p.1=q.1/\H q.2.1=some (.tup (p.1.map kV))/\RelV p.2 q.2.2
theorem KT.val {H:Hp}{kvs:List (List Key×V)}{xs:List (List Key×Addr×Value)} (r:KT H kvs xs) (k:List Key):b6 (bc kvs k) ((atKey xs k).map (·.2)):=by
 induction r with
 | nil=>exact True.intro
 | @cons p q ps qs h t ih =>
  obtain⟨h1,_,h2⟩:=h
  by_cases e:p.1=k
  ·have e':q.1=k:=h1.symm.trans e
   have b:atKey (q::qs) k=some q.2:=by simp [atKey,List.find?_cons,e']
   rw [bU e,b];exact h2
  ·have e':¬ q.1=k:=fun z=>e (h1.trans z)
   have b:atKey (q::qs) k=atKey qs k:=by simp [atKey,List.find?_cons,e']
   rw [bT e,b];exact ih
theorem KT.repl {H:Hp}{kvs:List (List Key×V)}{xs:List (List Key×Addr×Value)} (r:KT H kvs xs) (k:List Key) {y:V}{u:Value} (ry:RelV y u) :
  KT H (kvs.map fun kv=>if kv.1=k then (kv.1,y) else kv) (xs.map (putAt k u)):=by
 induction r with
 | nil=>exact .nil
 | @cons p q ps qs h t ih =>
  rw [List.map_cons,List.map_cons]
  refine .cons ?_ ih
  obtain⟨h1,h2,h3⟩:=h
  unfold putAt
  by_cases e:p.1=k
  ·rw [if_pos e,if_pos (h1.symm.trans e)];exact⟨h1,h2,ry⟩
  ·rw [if_neg e,if_neg (fun z=>e (h1.trans z))];exact⟨h1,h2,h3⟩
theorem KT.put {H:Hp}{kvs:List (List Key×V)}{xs:List (List Key×Addr×Value)} (r:KT H kvs xs) (k:List Key) {b:Addr}{y:V}{u:Value} (hb:H b=some (.tup (k.map kV))) (ry:RelV y u) :
  KT H (putK kvs k y) (storedH xs k b u):=by
 have e:(kvs.any fun kv=>decide (kv.1=k))=(atKey xs k).isSome:=by
  rw [dr,(r.val k).isSome_eq,Option.isSome_map]
 unfold putK storedH
 rw [e]
 by_cases q:(atKey xs k).isSome=true
 ·rw [if_pos q,if_pos q];exact r.repl k ry
 ·rw [if_neg q,if_neg q];exact Paired.snoc r ⟨rfl,hb,ry⟩
theorem KT.keeps {H H':Hp}{kvs:List (List Key×V)}{xs:List (List Key×Addr×Value)} (r:KT H kvs xs) (ht:∀b ys,H b=some (.tup ys)->H' b=some (.tup ys)):KT H' kvs xs :=
 Paired.mapP r fun _ _ z=>⟨z.1,ht _ _ z.2.1,z.2.2⟩
section
variable {P:Program}{w:World}{H:Hp}{h:Heap}{a:Addr}
theorem mB {u:HO} (ok:HOk P w H h) (e:Rd H a u):aA P w H h a u:=e.ok ok
theorem eS {kvs:List (Key×V)} (ok:HOk P w H h) (e:Rd H a (.dK kvs)):kvs.length<=sizeLine/\(a == sysModules)=false/\∃vs,KV kvs vs/\h.DictOf (bB P w) a vs :=
 show aA P w H h a (.dK kvs) from mB ok e
theorem iK {kvs:List (Key×V)} (ok:HOk P w H h) (e:H a=some (.dK kvs)):kvs.length<=sizeLine/\(a == sysModules)=false/\∃vs,KV kvs vs/\h.DictOf (bB P w) a vs:=eS ok (.inl e)
theorem fS {ks:List Key} (ok:HOk P w H h) (e:H a=some (.tup (ks.map kV))):(tupleKind (bB P w)).is h ks a:=by
 obtain⟨_,its,r,o,h1,h2,n,h3⟩:=(show aA P w H h a (.tup (ks.map kV)) from ok a _ e)
 exact⟨o,its.toArray,n,h1,h2,h3,by simpa using jk r⟩
theorem gk {kvs:List (List Key×V)} (ok:HOk P w H h) (e:Rd H a (.dT kvs)):kvs.length<=sizeLine/\(a == sysModules)=false /\
  ∃xs,KT H kvs xs/\h.DictOfH (tupleKind (bB P w)) a xs:=by
 obtain⟨z,y,xs,r,o,es,ep,h1,h2,h3,h4,h5⟩:=(show aA P w H h a (.dT kvs) from mB ok e)
 refine⟨z,y,xs,r,o,es,ep,h1,h2,h3,h4,fun x hx=>?_,h5⟩
 have all:∀{l:List (List Key×V)}{m:List (List Key×Addr×Value)},KT H l m->∀x∈m,(tupleKind (bB P w)).is h x.1 x.2.1:=by
  intro l m q
  induction q with
  | nil=>intro x hx;exact nomatch hx
  | @cons p q ps qs hq t ih =>
   intro x hx
   rcases List.mem_cons.mp hx with e | hx
   ·subst e
    exact fS ok (by rw [<- hq.1];exact hq.2.1)
   ·exact ih x hx
 exact all r x hx
theorem uN {kvs:List (List Key×V)} (ok:HOk P w H h) (e:H a=some (.dT kvs)):kvs.length<=sizeLine/\(a == sysModules)=false /\
  ∃xs,KT H kvs xs/\h.DictOfH (tupleKind (bB P w)) a xs:=gk ok (.inl e)
end
noncomputable def ed (H:Hp) (a:Addr) (y:V) (r:Option V):Prop :=
 (∃kvs k,Rd H a (.dK kvs)/\y=kV k/\r=bc kvs k)\/∃kvs k b,Rd H a (.dT kvs)/\y=.ref b/\H b=some (.tup (k.map kV))/\r=bc kvs k
noncomputable def m6 (H:Hp) (a:Addr) (y v:V) (H':Hp):Prop :=
 (∃kvs k,H a=some (.dK kvs)/\y=kV k/\kvs.length < sizeLine/\H'=upd H a (.dK (putK kvs k v))) \/
 ∃kvs k b,H a=some (.dT kvs)/\y=.ref b/\H b=some (.tup (k.map kV))/\kvs.length < sizeLine/\H'=upd H a (.dT (putK kvs k v))
section
variable {X:Cx}{pins:List (Addr×Obj)}{σ:St}{H:Hp}{s:Shared}{a:Addr}{y v:V}{u r:Value}{o:Option V}{A:Around}{E:Value->Shared->Prop}
theorem Inv.big (I:Inv X pins σ H s):sysModules < s.heap.objs.size:=by
 have h:mainGlobals < s.heap.objs.size:=(I.mod.glob.keeps I.bk).lt
 exact Nat.lt_trans (by decide) h
theorem oM {Q:Value->Shared->Prop} (hu:A.units + 1 < cLine) (I:Inv X pins σ H s) (g:ed H a y (some v)) (ry:RelV y u) (h:∀w' s',Inv X pins σ H s'->RelV v w'->Q w' s') :
  wpAny (model X.prog X.w) A (getItem (.ref a) u) Q E s:=by
 rcases g with ⟨kvs,k,e,ey,l⟩ | ⟨kvs,k,b,e,ey,eb,l⟩
 ·subst ey
  obtain⟨z,hd,vs,rel,dd⟩:=eS I.hok e
  obtain⟨w',hw,rw'⟩:=b6.some_of (v:=v) (o:=valueAt vs k) (by rw [l];exact rel.val k)
  exact wpAny_getItem_of (dQ ry) dd.mapOf hw (h w' _ (I.tok _) rw')
 ·subst ey
  cases (show u=Value.ref b from ry)
  obtain⟨z,hd,xs,rel,dd⟩:=gk I.hok e
  obtain⟨w',hw,rw'⟩:=b6.some_of (v:=v) (o:=(atKey xs k).map (·.2)) (by rw [l];exact rel.val k)
  obtain⟨p,hp,hp2⟩:=Option.map_eq_some_iff.mp hw
  refine wpAny_getItem_heap (tupleKind_room_in1 hu) (fS I.hok eb) dd hp ?_
  rw [hp2]
  exact h w' _ (I.tok _) rw'
theorem vQ {Q:Value->Shared->Prop} (hu:A.units + 1 < cLine) (I:Inv X pins σ H s) (g:ed H a y o) (ry:RelV y u) (h:∀s',Inv X pins σ H s'->Q (.bool o.isSome) s') :
  wpAny (model X.prog X.w) A (compareOp .In u (.ref a)) Q E s:=by
 rcases g with ⟨kvs,k,e,ey,l⟩ | ⟨kvs,k,b,e,ey,eb,l⟩
 ·subst ey
  obtain⟨z,hd,vs,rel,dd⟩:=eS I.hok e
  refine wpAny_in_of (dQ ry) hd dd.mapOf ?_
  rw [<- (rel.val k).isSome_eq,<- l]
  exact h _ (I.tok _)
 ·subst ey
  cases (show u=Value.ref b from ry)
  obtain⟨z,hd,xs,rel,dd⟩:=gk I.hok e
  refine wpAny_in_heap (tupleKind_room_in1 hu) (fS I.hok eb) hd dd ?_
  have q:=(rel.val k).isSome_eq
  rw [Option.isSome_map] at q
  rw [<- q,<- l]
  exact h _ (I.tok _)
theorem fG {h':Heap}{t':Nat}{ob:HO} (I:Inv X pins σ H s) (mu:Mut (H a)) (hs:Heap.SameBut a s.heap h') (he:∃q,h'.get? a=some q) (new:aA X.prog X.w (upd H a ob) h' a ob) :
  Inv X pins σ (upd H a ob) { s with heap:=h',toks:=t' } :=
 I.write (x:=a) (e:=a) mu (.inl rfl) (fun b q hb z=>(hs.2 b hb).trans z) he new
theorem il {P:Program}{w:World}{H':Hp}{h':Heap}{kvs:List (Key×V)}{vs:List (Key×Value)} (z:kvs.length<=sizeLine) (hd:(a == sysModules)=false) (rel:KV kvs vs) (dd:h'.DictOf (bB P w) a vs) :
  aA P w H' h' a (.dK kvs):=⟨z,hd,vs,rel,dd⟩
theorem pD {H':Hp}{Q:Unit->Shared->Prop} (hu:A.units + 1 < cLine) (I:Inv X pins σ H s) (g:m6 H a y v H') (ry:RelV y u) (rv:RelV v r) (h:∀s',Inv X pins σ H' s'->Q () s') :
  wpAny (model X.prog X.w) A (setItem (.ref a) u r) Q E s:=by
 rcases g with ⟨kvs,k,e,ey,l,eH⟩ | ⟨kvs,k,b,e,ey,eb,l,eH⟩
 ·subst ey eH
  obtain⟨z,hd,vs,rel,dd⟩:=iK I.hok e
  have hz:vs.length<=sizeLine:=by rw [<- rel.length];exact z
  have hl:(putK kvs k v).length<=sizeLine:=by have:=e9 kvs k v;omega
  refine wpAny_setItem_pairs (hsz:=hz) (dQ ry) dd fun h' dd' hs=>h _ ?_
  have he:∃q,h'.get? a=some q:=let ⟨q,_,_,hq,_⟩:=dd';⟨q,hq⟩
  exact fG I (by rw [e];exact True.intro) hs he (il hl hd (rel.put k rv) dd')
 ·subst ey eH
  cases (show u=Value.ref b from ry)
  obtain⟨z,hd,xs,rel,dd⟩:=uN I.hok e
  have hz:xs.length<=sizeLine:=by rw [<- Paired.length rel];exact z
  have hl:(putK kvs k v).length<=sizeLine:=by have:=e9 kvs k v;omega
  refine wpAny_setItem_heap (hsz:=hz) (tupleKind_room_in1 hu) (fS I.hok eb) dd fun h' dd' hs=>h _ ?_
  obtain⟨q,es,ep,hq,h2,h3,h4,_,h5⟩:=dd'
  refine fG I (by rw [e];exact True.intro) hs ⟨q,hq⟩ ⟨hl,hd,_,(rel.put k eb rv).keeps fun c ys ec=>?_,q,es,ep,hq,h2,h3,h4,h5⟩
  rw [aj (ml ec e (fun z=>nomatch z))]
  exact ec
end
section
variable {X:Cx}{pins:List (Addr×Obj)}{σ:St}{H:Hp}{s:Shared}{a:Addr}{kvs:List (Key×V)}{k:Key}{u:Value}{A:Around}{E:Value->Shared->Prop}
theorem mE {Q:Value->Shared->Prop} (I:Inv X pins σ H s) (e:Rd H a (.dK kvs)) (h:∀t s',Inv X pins σ H s'->Q (.int kvs.length t) s'):wpAny (model X.prog X.w) A (call (.builtin "len") [.ref a]) Q E s:=by
 obtain⟨z,hd,vs,rel,dd⟩:=eS I.hok e
 refine call_len_dict hd dd (by rw [<- rel.length];rw [sizeLine_eq] at z;omega) ?_
 rw [<- rel.length]
 exact h _ _ (I.tok _)
end
noncomputable def mY (i:Expr):Prop:=∀ov iv,subscripted i false ov iv=operate [ov,iv] (getItem ov iv)
theorem rD {prog:Program}{w:World}{A:Around}{E:Value->Shared->Prop}{s:Shared}{env:Env}{value slice:Expr}{pos:Pos}{T id:String}{Q:Value->Shared->Prop}
  (hl:typeLookup (.type T) "__getitem__"=pure (some (.builtin id))) (hs:mY slice)
  (h:wpAny (model prog w) A (eval value env) (fun o s₁=>wpAny (model prog w) A (eval slice env) (fun i s₂=>s₂.TypeIs o T/\wpAny (model prog w) A (getItem o i) Q E s₂) E s₁) E s) :
  wpAny (model prog w) A (eval (.Subscript value slice pos) env) Q E s:=by
 refine Subscript_ (wpAny_mono h (fun o s₁ h₁=>wpAny_mono h₁ (fun i s₂ h₂=>?_) fun _ _ x=>x) fun _ _ x=>x)
 obtain⟨hT,h₂⟩:=h₂
 unfold subscriptTail
 refine wpAny_bind ?_
 rw [getitemInPython_of_ne hT.not_modules]
 refine wpAny_bind (wpAny_specialOf hT hl ?_)
 have fin:wpAny (model prog w) A (subscripted slice false o i) (fun r s₃=>wpAny (model prog w) A (letTemporaryGo value o r >>= fun _=>pure r) Q E s₃) E s₂:=by
  rw [hs o i]
  exact wpAny_operating (wpAny_mono h₂ (fun r s₃ h₃=>wpAny_bind (wpAny_letTemporaryGo (wpAny_pure h₃))) fun _ _ x=>x)
 first
  | exact wpAny_pure (wpAny_bind fin)
  | exact wpAny_bind (wpAny_pure (wpAny_bind fin))
  | exact wpAny_bind fin
theorem nY {X:Cx}{pins:List (Addr×Obj)}{σ:St}{H:Hp}{s:Shared}{a:Addr}{y:V}{o:Option V} (I:Inv X pins σ H s) (g:ed H a y o):s.TypeIs (.ref a) "dict":=by
 rcases g with ⟨kvs,k,e,_,_⟩ | ⟨kvs,k,b,e,_,_,_⟩
 ·obtain⟨_,_,vs,_,dd⟩:=eS I.hok e
  exact dd.typeIs
 ·obtain⟨_,_,xs,_,dd⟩:=gk I.hok e
  exact dd.typeIs
noncomputable def vo (td ty:TE):TE:=fun σ H Q=>td σ H fun x H1=>ty σ H1 fun y H2=>∃a v,x=.ref a/\ed H2 a y (some v)/\Q v H2
noncomputable def vC (ty td:TE):TE:=fun σ H Q=>ty σ H fun y H1=>td σ H1 fun x H2=>∃a o,x=.ref a/\ed H2 a y o/\Q (.bl o.isSome) H2
noncomputable def uM (td ty tv:TE):TS:=fun D σ H=>tv σ H fun v H1=>td σ H1 fun x H2=>ty σ H2 fun y H3=>∃a H4,x=.ref a/\m6 H3 a y v H4/\D.nx σ H4
section
variable {X:Cx}{o i e value:Expr}{pos pos' tpos:Pos}{td ty tv:TE}
theorem fK (hu:X.A.units + 1 < cLine) (ho:PE X o td) (hi:PE X i ty) (hs:mY i):PE X (.Subscript o i pos) (vo td ty):=by
 intro pins s σ H Q I h
 refine rD PySem.F.slot_dict_getitem.lookup hs (thn (ho pins s σ H _ I h) fun u s1 ⟨x,H1,I1,rx,q1⟩=>thn (hi pins s1 σ H1 _ I1 q1) fun iv s2 ⟨y,H2,I2,ry,a,v,ex,g,q2⟩=>?_)
 subst ex
 obtain rfl:u=Value.ref a:=rx
 exact⟨nY I2 g,oM hu I2 g ry fun w' s3 I3 rw'=>⟨v,H2,I3,rw',q2⟩⟩
theorem ue (hu:X.A.units + 1 < cLine) (hi:PE X i ty) (ho:PE X o td):PC X .In i o (vC ty td):=by
 intro pins s σ H Q I h
 refine thn (hi pins s σ H _ I h) fun iv s1 ⟨y,H1,I1,ry,q1⟩=>thn (ho pins s1 σ H1 _ I1 q1) fun u s2 ⟨x,H2,I2,rx,a,ov,ex,g,q2⟩=>?_
 subst ex
 obtain rfl:u=Value.ref a:=rx
 exact vQ hu I2 g ry fun s3 I3=>⟨.bl ov.isSome,H2,I3,rfl,q2⟩
theorem rH (hu:X.A.units + 1 < cLine) (ho:PE X o td) (hi:PE X i ty) (hv:PE X value tv) (hs:swapsWith value (some (.Subscript o i pos')) pos.line X.env=pure false) :
  PS X (.Assign [.Subscript o i pos'] value pos) (uM td ty tv):=by
 intro pins s σ H D I h
 refine wpAny_Assign_Subscript (thn (hv pins s σ H _ I h) fun r s1 ⟨v,H1,I1,rv,q1⟩=>thn (ho pins s1 σ H1 _ I1 q1) fun u s2 ⟨x,H2,I2,rx,q2⟩=>thn (hi pins s2 σ H2 _ I2 q2) fun iv s3 ⟨y,H3,I3,ry,a,H4,ex,g,q3⟩=>?_) hs
 subst ex
 obtain rfl:u=Value.ref a:=rx
 exact pD hu I3 g ry rv fun s4 I4=>⟨σ,H4,I4,q3⟩
end
theorem ki {P:Program}{w:World}{H:Hp} (h:Heap) (hb:sysModules < h.objs.size):aA P w H (h.push { cls:=.type "dict",data:=.dict #[] }) h.objs.size (.dK []) :=
 ⟨Nat.zero_le _,beq_eq_false_iff_ne.mpr (Ne.symm (Nat.ne_of_lt hb)),[],.nil,Heap.DictOf.new h⟩
section
variable {X:Cx}{pos:Pos}
end
section
variable {prog:Program}{w:World}{A:Around}{R:Result->Shared->Prop}{s:Shared}
theorem sD {kx vx tg iter:Expr}{ifs:List Expr}{scope:Scope}{pos:Pos}{it:Value}{D:Addr}{env:Env} (J:Nat->Shared->Prop)
  (turn:∀n s,J n s->wpAny (model prog w) A (pyNext it) (fun r s1=>match r with
   | none=>R (.ok .next) s1
   | some v=>wpAny (model prog w) A (letOwnedTupleGo tg it v) (fun _ s2=>wpAny (model prog w) A (assign tg env v) (fun _ s3 =>
     wpAny (model prog w) A (forIn ifs true fun c r=>if r=true then do let ok <- isTrue c env (eval c env);pure (ForInStep.yield ok) else pure (ForInStep.yield r)) (fun ok s4 =>
      if ok=true then wpAny (model prog w) A (eval kx env) (fun y s5=>wpAny (model prog w) A (eval vx env) (fun x s6=>wpAny (model prog w) A (dictSet D y x) (fun _ s7=>∃m,m < n/\J m s7) (fun _ _=>False) s6) (fun _ _=>False) s5) (fun _ _=>False) s4
      else ∃m,m < n/\J m s4) (fun _ _=>False) s3) (fun _ _=>False) s2) (fun _ _=>False) s1) (fun _ _=>False) s)
  (n:Nat) (h:J n s):codeAny (model prog w) A (.compLoop (.DictComp kx vx [⟨tg,iter,ifs,0⟩] scope pos) 0 it (.ref D) env) R s:=by
 refine codeAny_loop rfl J (fun k t hJ=>?_) n h
 show wpAny _ A ((compTurn (.DictComp kx vx [⟨tg,iter,ifs,0⟩] scope pos) 0 it (.ref D) env).onRaise (fun x=>do noteFrame x env;theTreesLotGoes x)) _ _ t
 refine wpAny_noted (wpAny_mono (E:=fun _ _=>False) ?_ (fun _ _ q=>q) fun _ _ f=>f.elim)
 rw [compTurn_dict]
 refine wpAny_bind (wpAny_standAt (wpAny_bind (thn (turn k t hJ) fun r s1 h1=>?_)))
 cases r with
 | none=>exact wpAny_pure h1
 | some v =>
  refine wpAny_bind (thn h1 fun _ s2 h2=>wpAny_bind (thn h2 fun _ s3 h3=>wpAny_bind (thn h3 fun ok s4 h4=>?_)))
  cases ok with
  | false=>exact wpAny_pure ⟨rfl,h4⟩
  | true=>exact wpAny_bind (wpAny_bind (thn h4 fun y s5 h5=>wpAny_bind (wpAny_holding (thn h5 fun x s6 h6=>wpAny_bind (wpAny_standAt (wpAny_holding (thn h6 fun _ s7 h7=>wpAny_pure ⟨rfl,h7⟩)))))))
end
theorem qS {b D C:Nat} (h:b < D) (e:C=D + 1) (z:b=C):False:=by omega
section
variable {X:Cx}{scope:Scope}{N:List Str}{ix:List (Option Nat)}
theorem tU {pins pins':List (Addr×Obj)}{σ σ':St}{H2 H':Hp}{s2 s':Shared}{C:Addr}{fp:List Addr}{h':Heap} (I2:Inv X pins σ H2 s2) (hf:∀b∈fp,bv X pins H2 b)
  (I':Inv (aB X scope N C s2 H2 fp) pins' σ' H' s') (hC:s2.heap.objs.size<=C) (hs:∀b o,b≠C->s'.heap.get? b=some o->h'.get? b=some o):Inv X pins σ H' { s' with heap:=h' }:=by
 have B:Un (frs X.stack) fp H2 H' s2.heap s'.heap:=I'.base
 have neC:∀b o,s2.heap.get? b=some o->b≠C:=fun b o e=>Nat.ne_of_lt (Nat.lt_of_lt_of_le (Heap.lt_size e) hC)
 have hCn:H' C=none:=I'.free
 have tC:∀b u,H' b=some u->b≠C:=fun b u e=>aI e hCn
 refine I2.call' (s':={ s' with heap:=h' }) (ch:=fp) I'.os ⟨fun b o e n hb hx=>?_,fun b o e n hb hx=>?_,fun b o e n hx=>?_,fun b o e hx=>?_,fun b xs e=>?_,fun b o u e=>?_,fun b ps e=>?_⟩ (fun b u e=>?_) I'.bare fun b hb=>⟨(hf b hb).2.2.2.1,(hf b hb).2.1,(hf b hb).2.2.2.2.1,(hf b hb).2.2.2.2.2⟩
 ·exact hs b o (neC b o e) (B.keep b o e n hb hx)
 ·obtain⟨sl,q⟩:=B.slot b o e n hb hx
  exact⟨sl,hs b _ (neC b o e) q⟩
 ·exact B.free b o e n hx
 ·obtain⟨o',q⟩:=B.there b o e hx
  exact⟨o',hs b o' (neC b o e) q⟩
 ·exact B.tups b xs e
 ·exact B.frzs b o u e
 ·exact B.tbls b ps e
 ·refine (I'.hok b u e).stay (fun c v hc q=>hs c v ?_ q) (fun c q=>q) fun c xs q=>q
  rcases hc with z | z
  ·rw [z];exact tC b u e
  ·exact tC c _ z
variable {tg iter kx vx:Expr}{ifs:List Expr}{pos:Pos}{g:TG}{tt:TT}{tk tv:TE}
end
inductive iB (A:Around) (s:Shared):List (Value×Value)->List (Bool×Bool)->Prop
 | nil:iB A s [] []
 | cons {v u:Value}{e b:Bool}{r:List (Value×Value)}{cs:List (Bool×Bool)}:SeqAt.EqAt A s v u e ->
   (e=false->∀(prog:Program) (w:World) (E:Value->Shared->Prop) (Q:Value->Shared->Prop),Q (.bool b) s->wpAny (model prog w) A (richCompare .Lt v u) Q E s)->iB A s r cs->iB A s ((v,u)::r) ((e,b)::cs)
section
open PySem.SeqAt
open PySem.AutoSeq1 (wpAny_loadPart')
open PySem.MeetsSeq PySem.MeetsSeq2 PySem.MeetsSeq3
end
section
variable {prog:Program}{w:World}{A:Around}{E:Value->Shared->Prop}{s:Shared}
end
section
variable {prog:Program}{w:World}{A:Around}{R:Result->Shared->Prop}{I:Addr}{fp wr:List Addr}{n:Nat}{P:Nat->Value->Prop}{St:Nat->Heap->Prop}
end
section
variable {prog:Program}{w:World}{A:Around}{E:Value->Shared->Prop}{s:Shared}
end
end L2
namespace L2
open PySem PySem.Spec PyProof.Rows PySem.W PySem.Calls
noncomputable def Hd0 (vs:Array Value) (a0:Value):Prop:=vs[0]?=some a0/\vs[2]?=some Value.none
noncomputable def eX (fl:Value) (h:Heap) (e T:Addr) (cls a0:Value) (dx:Option Addr):Prop:=∃oe vs oT ts,h.get? e=some oe/\oe.cls=cls/\Hd0 vs a0/\oe.data=Data.fields vs/\vs[1]?=some (Value.ref T)/\T≠e/\h.get? T=some oT/\oT.data=Data.fields ts/\ts[3]?=some fl/\oe.dict=dx
noncomputable abbrev Trc:Heap->Addr->Addr->Value->Value->Option Addr->Prop:=eX .none
noncomputable def CXE (P:Program) (w:World):CXT:=fun outer H s E e s'=>∃(ea T:Addr) (cls a0:Value) (dx:Option Addr) (H':Hp),e=.ref ea/\s'.os=s.os/\AllBare s'.gens/\Un (frs outer) [] H H' s.heap s'.heap/\HOk P w H' s'.heap/\s.heap.get? ea=none/\s.heap.get? T=none/\H' ea=none/\H' T=none/\Trc s'.heap ea T cls a0 dx/\E cls dx H'
theorem dP {h base:Heap}:∀{l:List Env},h.FunFrames base l->∀b∈frs l,∃o,h.get? b=some o/\∀vs:Array Value,o.data≠Data.fields vs
 | [],_,b,hb=>by simp [frs] at hb
 | e::l,k,b,hb=>by
  simp only [Heap.FunFrames] at k
  obtain⟨k1,⟨L,o,k2,k3,k4,k5⟩,k6⟩:=k
  unfold frs at hb
  rw [List.filterMap_cons,k2] at hb
  rcases List.mem_cons.mp hb with z | z
  ·rw [z];exact⟨o,k4,k5⟩
  ·exact dP k6 b z
theorem oU (o:Obj) (f:Array Value->Array Value):(o.mapFields f).dict=o.dict:=by
 obtain⟨c,d,dt,sl⟩:=o
 cases dt <;> rfl
structure Moved (fr:List Addr) (g:List Addr) (h h':Heap):Prop where
 keep:∀b o,h.get? b=some o->b∉fr->b∉g->h'.get? b=some o
 slot:∀b o,h.get? b=some o->b∈fr->∃sl,h'.get? b=some { o with slots:=sl }
section
variable {M:Model}{A:Around}{E:Value->Shared->Prop}{s:Shared}{env:Env}{outer:List Env}{L e T:Addr}{base:Heap}{cls a0:Value}{dx:Option Addr}{Q:Unit->Shared->Prop}
theorem kC {oe:Obj}{vs:Array Value}{head:Value}{had:Bool}
  (hf:A.frames=some (env::outer)) (ff:s.heap.FunFrames base (env::outer)) (hL:env.frame=some L) (he:s.heap.get? e=some oe) (hd:oe.data=Data.fields vs) (hz:1 < vs.size) (h0:Hd0 vs a0)
  (k:∀(h':Heap) (T':Addr),Moved (frs (env::outer)) [e] s.heap h'->s.heap.get? T'=none->eX (rawInt L) h' e T' oe.cls a0 oe.dict->Q () { s with heap:=h' }) :
  wpAny M A (do let a <- frameOf env;let pl <- entryPlaceOf L had;let b <- EntryCells.newEntry head a .none (rawInt L) .none pl;setField (.ref e) 1 b) Q E s:=by
 have efr:e∉frs (env::outer):=fun hm=>by
  obtain⟨o,q,nf⟩:=dP ff e hm
  rw [he] at q;cases q
  exact nf _ hd
 refine wpAny_bind (wpAny_frameOf_fun hf ff hL fun g1 so=>wpAny_bind (wpAny_entryPlaceOf fun pl hpl=>?_))
 unfold EntryCells.newEntry newFields
 refine wpAny_bind (wpAny_newObj_type ?_ (hpl.sizeOk5 _ _ _ _ _))
 generalize hob:({ cls:=.type "traceback",dict:=none,data:=.fields ([head,.ref L,.none,rawInt L,.none]++(if pl.isEmpty then List.replicate 6 Value.none else pl)).toArray }:Obj)=ob
 have obf:ob.isFreed=false:=by rw [<- hob];rfl
 have e1:g1.get? e=some oe:=(so.2.1 e efr).trans he
 have nz:g1.objs.size≠e:=Nat.ne_of_gt (Heap.lt_size e1)
 have e2:=Heap.get?_push_of_some (h:=g1) ob e1
 refine wpAny_setField e2 hd hz ?_
 have hd3:=Obj.data_mapFields hd (fun z=>z.setIfInBounds 1 (Value.ref g1.objs.size))
 have e3:=Heap.get?_update_self (Obj.mapFields fun z=>z.setIfInBounds 1 (Value.ref g1.objs.size)) e2 (Obj.isFreed_of_fields hd3)
 have fresh:s.heap.get? g1.objs.size=none:=by
  cases hc:s.heap.get? g1.objs.size with
  | none=>rfl
  | some o =>
   obtain⟨sl,q⟩:=so.2.2 _ o hc
   exact absurd (Heap.lt_size q) (Nat.lt_irrefl _)
 have up:∀b o,b≠e->g1.get? b=some o->((g1.push ob).update e (Obj.mapFields fun z=>z.setIfInBounds 1 (Value.ref g1.objs.size))).get? b=some o:=fun b o n q=>by
  rw [Heap.get?_update_other _ _ (Ne.symm n)]
  exact Heap.get?_push_of_some _ q
 refine k _ g1.objs.size ⟨fun b o q hb hg=>up b o (fun z=>hg (by simp [z])) ((so.2.1 b hb).trans q),fun b o q hb=>?_⟩ fresh ⟨_,_,ob,_,e3,Obj.cls_mapFields _ _,?_,hd3,?_,nz,?_,by rw [<- hob],?_,oU _ _⟩
 ·obtain⟨sl,q1⟩:=so.2.2 b o q
  exact⟨sl,up b _ (fun z=>efr (z ▸ hb)) q1⟩
 ·exact⟨by rw [Array.getElem?_setIfInBounds_ne (by decide)];exact h0.1,by rw [Array.getElem?_setIfInBounds_ne (by decide)];exact h0.2⟩
 ·simp [hz]
 ·rw [Heap.get?_update_other _ _ (Ne.symm nz)]
  exact Heap.get?_push_size g1 obf
 ·first | (simp;done) | (rcases hpl with rfl | ⟨_,_,_,_,_,_,_,rfl⟩ <;> simp)
theorem ground {fl:Value} (ht:eX fl s.heap e T cls a0 dx)
  (k:∀h':Heap,(∀b,b≠T->h'.get? b=s.heap.get? b)->Trc h' e T cls a0 dx->Q () { s with heap:=h' }) :
  wpAny M A (setFlight (.ref e) none) Q E s:=by
 obtain⟨oe,vs,oT,ts,h1,h2,h3,h4,h5,h6,h7,h8,h9,h10⟩:=ht
 have z3:3 < ts.size:=(Array.getElem?_eq_some_iff.mp h9).1
 unfold setFlight
 refine wpAny_bind (wpAny_field h1 h4 h5 ?_)
 rw [if_pos (show (Value.ref T != Value.none)=true from by simp)]
 refine wpAny_setField h7 h8 z3 (k _ (fun b n=>Heap.get?_update_other _ _ (Ne.symm n)) ?_)
 have d8:=Obj.data_mapFields h8 (fun z=>z.setIfInBounds 3 ((none:Option Addr).elim Value.none fun f=>rawInt f))
 exact⟨oe,vs,_,_,(Heap.get?_update_other _ _ h6).trans h1,h2,h3,h4,h5,h6,Heap.get?_update_self _ h7 (Obj.isFreed_of_fields d8),d8,by simp [z3],h10⟩
theorem p6 {oe:Obj}{vs:Array Value} (hf:A.frames=some (env::outer)) (hL:env.frame=some L) (ff:s.heap.FunFrames base (env::outer)) (h1:s.heap.get? e=some oe) (h2:oe.data=Data.fields vs) (h3:vs[1]?=some Value.none) (h4:Hd0 vs a0)
  (k:∀(h':Heap) (T':Addr),Moved (frs (env::outer)) [e] s.heap h'->s.heap.get? T'=none->eX (rawInt L) h' e T' oe.cls a0 oe.dict->Q () { s with heap:=h' }) :
  wpAny M A (noteFrame (.ref e) env) Q E s:=by
 unfold noteFrame
 simp only [hL]
 refine wpAny_bind (wpAny_field h1 h2 h3 ?_)
 rw [if_neg (by decide)]
 exact kC hf ff hL h1 h2 (Array.getElem?_eq_some_iff.mp h3).1 h4 k
theorem pq (hf:A.frames=some (env::outer)) (hL:env.frame=some L) (ff:s.heap.FunFrames base (env::outer)) (ht:Trc s.heap e T cls a0 dx)
  (k:∀(h':Heap) (T':Addr),Moved (frs (env::outer)) [e,T] s.heap h'->s.heap.get? T'=none->eX (rawInt L) h' e T' cls a0 dx->Q () { s with heap:=h' }) :
  wpAny M A (noteFrame (.ref e) env) Q E s:=by
 obtain⟨oe,vs,oT,ts,h1,rfl,h3,h4,h5,h6,h7,h8,h9,rfl⟩:=ht
 unfold noteFrame
 simp only [hL]
 refine wpAny_bind (wpAny_field h1 h4 h5 ?_)
 rw [if_pos (show (Value.ref T != Value.none)=true from by simp)]
 refine wpAny_bind (wpAny_field h7 h8 h9 ?_)
 rw [if_neg (show ¬ ((Value.none == rawInt L)=true) from by simp [rawInt])]
 refine wpAny_bind (wpAny_setField h7 h8 (Array.getElem?_eq_some_iff.mp h9).1 ?_)
 have oth:∀b,b≠T->(s.heap.update T (Obj.mapFields fun z=>z.setIfInBounds 3 Value.none)).get? b=s.heap.get? b:=fun b n=>Heap.get?_update_other _ _ (Ne.symm n)
 have nT:∀b,b∈frs (env::outer)->b≠T:=fun b hb z=>by
  obtain⟨o,q,nf⟩:=dP ff b hb
  rw [z,h7] at q;cases q
  exact nf _ h8
 refine kC (s:={ s with heap:=s.heap.update T (Obj.mapFields fun z=>z.setIfInBounds 3 Value.none) }) hf (ff.of_keeps fun b o q nf=>⟨o,(oth b fun z=>?_).trans q,rfl⟩) hL ((oth e (Ne.symm h6)).trans h1) h4 (Array.getElem?_eq_some_iff.mp h5).1 h3 fun h' T' mv nw tr=>k h' T' ⟨fun b o q hb hg=>?_,fun b o q hb=>?_⟩ ?_ tr
 ·rw [z,h7] at q;cases q
  exact nf _ h8
 ·exact mv.keep b o ((oth b fun z=>hg (by simp [z])).trans q) hb fun z=>hg (by simp at z;simp [z])
 ·exact mv.slot b o ((oth b (nT b hb)).trans q) hb
 ·have z:T'≠T:=fun z=>by
   have d8:=Obj.data_mapFields h8 (fun z=>z.setIfInBounds 3 Value.none)
   have g7:=Heap.get?_update_self (Obj.mapFields fun z=>z.setIfInBounds 3 Value.none) h7 (Obj.isFreed_of_fields d8)
   have nw':(s.heap.update T (Obj.mapFields fun z=>z.setIfInBounds 3 Value.none)).get? T'=none:=nw
   rw [z,g7] at nw'
   cases nw'
  exact (oth T' z).symm.trans nw
theorem Moved.ground {fr g:List Addr}{h h' h'':Heap} (m:Moved fr g h h') (nT:h.get? T=none) (nf:∀b∈fr,∃o,h.get? b=some o) (k:∀b,b≠T->h''.get? b=h'.get? b):Moved fr g h h'' :=
 ⟨fun b o q hb hg=>(k b fun z=>by rw [z,nT] at q;cases q).trans (m.keep b o q hb hg),fun b o q hb=>by
  obtain⟨sl,e⟩:=m.slot b o q hb
  exact⟨sl,(k b fun z=>by rw [z,nT] at q;cases q).trans e⟩⟩
theorem leave_new {oe:Obj}{vs:Array Value} (hf:A.frames=some (env::outer)) (hL:env.frame=some L) (ff:s.heap.FunFrames base (env::outer)) (h1:s.heap.get? e=some oe) (h2:oe.data=Data.fields vs) (h3:vs[1]?=some Value.none) (h4:Hd0 vs a0)
  (k:∀(h':Heap) (T':Addr),Moved (frs (env::outer)) [e] s.heap h'->s.heap.get? T'=none->Trc h' e T' oe.cls a0 oe.dict->Q () { s with heap:=h' }) :
  wpAny M A (leaving env (.ref e)) Q E s:=by
 unfold leaving
 refine wpAny_bind (p6 hf hL ff h1 h2 h3 h4 fun g1 T1 mv nw tr=>ground tr fun g2 same tr2=>k g2 T1 (mv.ground nw (fun b hb=>let ⟨o,q,_⟩:=dP ff b hb;⟨o,q⟩) same) nw tr2)
theorem nQ (hf:A.frames=some (env::outer)) (hL:env.frame=some L) (ff:s.heap.FunFrames base (env::outer)) (ht:Trc s.heap e T cls a0 dx)
  (k:∀(h':Heap) (T':Addr),Moved (frs (env::outer)) [e,T] s.heap h'->s.heap.get? T'=none->Trc h' e T' cls a0 dx->Q () { s with heap:=h' }) :
  wpAny M A (noteFrame (.ref e) env) (fun _ s2=>wpAny M A (setFlight (.ref e) none) (fun _ s3=>Q () s3) E s2) E s :=
 pq hf hL ff ht fun h1 T1 mv nw tr=>ground tr fun h2 same tr2=>k h2 T1 (mv.ground nw (fun b hb=>let ⟨o,q,_⟩:=dP ff b hb;⟨o,q⟩) same) nw tr2
end
theorem aA.got {P:Program}{w:World}{H:Hp}{h:Heap}{a:Addr}{o:HO} (x:aA P w H h a o):∃ob,h.get? a=some ob:=by
 cases o with
 | lst xs=>obtain⟨_,_,_,_,e⟩:=x;exact⟨_,e⟩
 | tup xs=>obtain⟨_,_,_,o,e,_⟩:=x;exact⟨_,e⟩
 | dK kvs=>obtain⟨_,_,_,_,o,_,_,e,_⟩:=x;exact⟨_,e⟩
 | dT kvs=>obtain⟨_,_,_,_,o,_,_,e,_⟩:=x;exact⟨_,e⟩
 | set S n=>obtain⟨o,_,_,_,e,_⟩:=x;exact⟨_,e⟩
 | ins C dx fs=>obtain⟨_,_,_,e,_⟩:=x;exact⟨_,e⟩
 | own y=>exact x
 | xd fs=>obtain⟨_,⟨_,_,_,e,_⟩,_⟩:=x;exact⟨_,e⟩
 | rng lo hi=>obtain⟨_,_,_,e⟩:=x;exact⟨_,e⟩
 | frz ob u=>obtain⟨e,_⟩:=x;exact⟨_,e⟩
 | tbl ps=>exact⟨_,(show h.get? a=some _ from x)⟩
 | met f y=>exact⟨_,(show h.get? a=some _ from x)⟩
 | ext φ=>obtain⟨_,e,_⟩:=x;exact e
theorem sO {CX:CXT}{P:Program}{w:World}{K:PySem.W.Frag}{mg:Str->Option Value}{base:Heap}{N:List Str}{qual:Str}{scope:Scope}{f:Addr}{cd:Value}{A:Around}{outer:List Env}{s0:Shared}{H0:Hp}{E0':XK}
  {pins:List (Addr×Obj)}{σ:St}{H':Hp}{s':Shared}{E:XK}{ea T':Addr}{cls a0:Value}{dx:Option Addr}{h':Heap}{G:List Addr}
  (I:Inv (bR CX P w K mg base N qual scope f cd A outer s0 H0 E0') pins σ H' s')
  (mv:Moved (frs (envOfC qual scope s0.heap.objs.size f cd::outer)) G s'.heap h')
  (hG:∀b∈G,s0.heap.get? b=none/\H' b=none) (tr:Trc h' ea T' cls a0 dx) (e1:s0.heap.get? ea=none) (e2:H' ea=none) (e3:T'∈G\/s'.heap.get? T'=none) (hE:E cls dx H') :
  CXE P w outer H0 s0 E (.ref ea) { s' with heap:=h' }:=by
 have kp:=mv.keep
 have sl:=mv.slot
 have base':=I.base
 have hok:=I.hok
 have nL:∀b o,s0.heap.get? b=some o->b∉frs outer->b∉frs (envOfC qual scope s0.heap.objs.size f cd::outer):=fun b o q hb hm=>by
  have hm':b∈s0.heap.objs.size::frs outer:=hm
  rcases List.mem_cons.mp hm' with z | z
  ·exact absurd (Heap.lt_size q) (by rw [z];exact Nat.lt_irrefl _)
  ·exact hb z
 have nG:∀b o,s0.heap.get? b=some o->b∉G:=fun b o q hb=>by rw [(hG b hb).1] at q;cases q
 have mO:∀b,b∈frs outer->b∈frs (envOfC qual scope s0.heap.objs.size f cd::outer):=fun b hb=>List.mem_cons_of_mem _ hb
 have T0:s0.heap.get? T'=none:=by
  rcases e3 with z | z
  ·exact (hG _ z).1
  ·cases hc:s0.heap.get? T' with
   | none=>rfl
   | some o =>
    obtain⟨o',q⟩:=base'.there T' o hc (by show T'∉[];simp)
    rw [z] at q;cases q
 have TH:H' T'=none:=by
  rcases e3 with z | z
  ·exact (hG _ z).2
  ·cases hc:H' T' with
   | none=>rfl
   | some o =>
    obtain⟨ob,q⟩:=aA.got (hok T' o hc)
    rw [z] at q;cases q
 refine⟨ea,T',cls,a0,dx,H',rfl,I.os,I.bare,?_,?_,e1,T0,e2,TH,tr,hE⟩
 ·refine⟨fun b o q n hb hx=>?_,fun b o q n hb hx=>?_,fun b o q n hx=>base'.free b o q n hx,fun b o q hx=>?_,base'.tups,base'.frzs,base'.tbls⟩
  ·exact kp b o (base'.keep b o q n hb hx) (nL b o q hb) (nG b o q)
  ·obtain⟨s1,q1⟩:=base'.slot b o q n hb hx
   obtain⟨s2,q2⟩:=sl b _ q1 (mO b hb)
   exact⟨s2,q2⟩
  ·obtain⟨o',q'⟩:=base'.there b o q hx
   by_cases hb:b∈frs (envOfC qual scope s0.heap.objs.size f cd::outer)
   ·obtain⟨s2,q2⟩:=sl b _ q' hb
    exact⟨_,q2⟩
   ·exact⟨o',kp b o' q' hb (nG b o q)⟩
 ·intro a o hH
  have nf:∀b u,H' b=some u->b∉frs (envOfC qual scope s0.heap.objs.size f cd::outer)/\b∉G:=fun b u q=>⟨fun hm=>(by
   have:=I.stkFree b hm
   rw [q] at this;cases this),fun hm=>(by rw [(hG b hm).2] at q;cases q)⟩
  refine (hok a o hH).stay (fun b u hb q=>?_) (fun _ q=>q) fun _ _ q=>q
  rcases hb with z | z
  ·rw [z] at q ⊢;exact kp a u q (nf a o hH).1 (nf a o hH).2
  ·exact kp b u q (nf b _ z).1 (nf b _ z).2
theorem uC {P:Program}{w:World}{K:PySem.W.Frag}{mg:Str->Option Value}{base:Heap}{N:List Str}{qual:Str}{scope:Scope}{f:Addr}{cd:Value}{A:Around}{outer:List Env}{s0:Shared}{H0:Hp}{E:XK}
  {pins:List (Addr×Obj)}{σ:St}{H:Hp}{s:Shared}{ea:Addr}{oe:Obj}{vs:Array Value}{a0:Value}
  (I:Inv (bR (CXE P w) P w K mg base N qual scope f cd A outer s0 H0 E) pins σ H s) (h1:s.heap.get? ea=some oe) (h2:oe.data=Data.fields vs) (h3:vs[1]?=some Value.none) (h4:Hd0 vs a0) (back:s0.heap.get? ea=none) (he:H ea=none) (hE:E oe.cls oe.dict H) :
  (bR (CXE P w) P w K mg base N qual scope f cd A outer s0 H0 E).xe (.ref ea) s:=by
 show wpAny (model P w) (A.deeper (envOfC qual scope s0.heap.objs.size f cd)) (leaving (envOfC qual scope s0.heap.objs.size f cd) (.ref ea)) _ _ s
 refine leave_new (outer:=outer) (L:=s0.heap.objs.size) I.ok.frames rfl I.stack h1 h2 h3 h4 fun h'' T' mv nT tr=>?_
 exact sO (G:=[ea]) I mv (fun b hb=>by
  have z:b=ea:=by simpa using hb
  rw [z];exact⟨back,he⟩) tr back he (.inr nT) hE
theorem tG {P:Program}{w:World}{K:PySem.W.Frag}{mg:Str->Option Value}{base:Heap}{N:List Str}{qual:Str}{scope:Scope}{f:Addr}{cd:Value}{A:Around}{outer:List Env}{s0:Shared}{H0:Hp}{E:XK}
  {pins:List (Addr×Obj)}{σ:St}{H:Hp}{s:Shared}{h':Heap}{ea:Addr}{cls:Value}{args:List Value}
  (I:Inv (bR (CXE P w) P w K mg base N qual scope f cd A outer s0 H0 E) pins σ H s) (m:s.heap.MadeExcOf h' ea cls args) (hE:E cls none H) :
  (bR (CXE P w) P w K mg base N qual scope f cd A outer s0 H0 E).xe (.ref ea) { s with heap:=h' }:=by
 obtain⟨keeps,new,t,there,tn,tt⟩:=m
 have I':Inv (bR (CXE P w) P w K mg base N qual scope f cd A outer s0 H0 E) pins σ H { s with heap:=h' }:=I.kept (t':=s.toks) keeps
 have back:s0.heap.get? ea=none:=by
  cases hc:s0.heap.get? ea with
  | none=>rfl
  | some o =>
   obtain⟨o',q'⟩:=I.base.there ea o hc (by show ea∉[];simp)
   rw [new] at q';cases q'
 have he:H ea=none:=by
  cases hc:H ea with
  | none=>rfl
  | some o =>
   obtain⟨ob,q⟩:=aA.got (I.hok ea o hc)
   rw [new] at q;cases q
 exact uC I' there rfl rfl ⟨rfl,rfl⟩ back he hE
noncomputable def eu (h:Heap) (C:Addr):Prop:=∃(nm q:Str) (N:Addr) (bs bm bmB:List Value) (hdct:Bool) (sn:List Str) (sub:List Value) (ab:Bool) (col:Option Bool) (dd:Option Addr) (k0 k1 k2 k3 k5:Option Value) (mN:Str->Option Value) (B Bn newId nid initId inN:String) (bmN:List Value),
 h.get? C=some (excClassObj nm q C N bs bm hdct sn sub ab col dd k0 k1 k2 k3 k5 newId)/\h.Ns N mN/\mN (Str.ofString "__init__")=none/\OwnTail h bmB bm/\bm.contains (Value.type "BaseException")=true/\ExcBaseFacts Bn newId inN bmN/\bmB.contains (Value.type Bn)=true/\ExcBaseFacts B nid initId bmB
theorem OwnTail.stays {h h':Heap} (k:∀b o,h.get? b=some o->h'.get? b=some o) {a b:List Value} (x:OwnTail h a b):OwnTail h' a b:=by
 induction x with
 | base=>exact .base
 | own e n i _ ih=>exact .own (k _ _ e) (n.keeps k) i ih
section
variable {X:Cx}{x:Str}{C:Addr}{e:Expr}{es:List Expr}{t:TA}{np cpos pos:Pos}{W:Hp->Prop}
noncomputable def uc (t:TA) (W:Hp->Prop):TS:=fun _ σ H=>t σ H fun vs H1=>vs.length<=sizeLine/\W H1
theorem qx (hx:X.mg x=some (.ref C)) (hC:eu X.base C) (hd:X.A.handled=none) (ha:PA X (e::es) t) (xe:∀(pins:List (Addr×Obj)) (σ:St) (H:Hp) (s:Shared) (h':Heap) (ea:Addr) (args:List Value),Inv X pins σ H s->s.heap.MadeExcOf h' ea (.ref C) args->W H->X.xe (.ref ea) { s with heap:=h' })
  (hg:Gl X x:=by rfl) (hdb:(x == ("__debug__":Str))=false:=by decide) (he:starEach (e::es) X.env=(false,eval e X.env)::starEach es X.env:=by rfl) (hpl:(backTo cpos (starEach (e::es) X.env)).any (·.1)=false:=by rfl) :
  PS X (.Raise (some (.Call (.Name x np) (e::es) [] cpos)) none pos) (uc t W):=by
 intro pins s σ H D I h
 obtain⟨nm,q,N,bs,bm,bmB,hdct,sn,sub,ab,col,dd,k0,k1,k2,k3,k5,mN,B,Bn,newId,nid,initId,inN,bmN,a1,a2,a3,a4,a5,a6,a7,a8⟩:=hC
 refine wpAny_Raise_call_subU (nm:=nm) (q:=q) (N:=N) (bs:=bs) (hdct:=hdct) (sn:=sn) (sub:=sub) (ab:=ab) (col:=col) (dd:=dd) (k0:=k0) (k1:=k1) (k2:=k2) (k3:=k3) (k5:=k5) a6 a7 a8 a5 hd hpl a3 (eJ I hg hx ⟨rfl,?_⟩ hdb)
 have hpa:=ha cpos pins s σ H _ I h
 have eb:backTo cpos (starEach (e::es) X.env)=(false,eval e X.env)::backTo cpos (starEach es X.env):=by rw [he];rfl
 rw [eb] at hpa ⊢
 refine Calls.evalArgs_plain (thn hpa fun us s2 hq=>?_)
 obtain⟨vs,H1,I1,r1,hl,hw⟩:=hq
 have k:=I1.bk
 exact⟨rfl,by rw [<- r1.length];exact hl,k _ _ a1,a2.keeps k,OwnTail.stays k a4,fun h' ea m=>xe pins σ H1 s2 h' ea _ I1 m hw⟩
end
section
variable {P:Program}{w:World}{K:PySem.W.Frag}{mg:Str->Option Value}{base:Heap}
theorem Fun.okX {x qual:Str}{st:Stmt}{f:Addr}{fd:FuncData}{N ps:List Str}{k:Nat}{sp:Sp} (F:Fun K x qual st f fd) (S:aQ N ps (aC st)) (len:∀vs H Q E,sp vs H Q E->vs.length=ps.length)
  (hbody:∀(cdv:Value) (A:Around) (outer:List Env) (s:Shared) (H:Hp) (vs:List V) (Q:VK) (E:XK),aL k (A.deeper (envOfC qual (aC st) s.heap.objs.size f cdv))->sp vs H Q E ->
   ∃t,PSs (bR (CXE P w) P w K mg base N qual (aC st) f cdv A outer s H E) (bX st) t/\t { nx:=fun _ H'=>Q .non H',rt:=Q } (start N vs) H):aG P w K mg base (CXE P w) (k + 1) f fd ps sp:=by
 obtain⟨oc,od,kV,doc,pm,an,cdv,ct,osl,rfl,lk,hcd⟩:=F.ex
 exact mh lk hcd S len fun A outer s H vs Q E hr hsp=>hbody cdv A outer s H vs Q E hr hsp
noncomputable def FnX (P:Program) (w:World) (K:PySem.W.Frag) (mg:Str->Option Value) (base:Heap) (k:Nat) (x:Str) (ps:List Str) (sp:Sp):Prop :=
 ∃f fd,mg x=some (.ref f)/\PySem.W.keepIn K (.ref f)=true/\Binds K fd ps []/\aG P w K mg base (CXE P w) k f fd ps sp
end
noncomputable def XP (X:Cx) (pins:List (Addr×Obj)) (Ex:St->Value->Option Addr->Hp->Prop) (e:Value) (s1:Shared):Prop :=
 ∃(σ:St) (H:Hp) (s:Shared),Inv X pins σ H s/\CXE X.prog X.w X.stack H s (fun cls dx H'=>Ex σ cls dx H') e s1
noncomputable abbrev TEX:=(St->Value->Option Addr->Hp->Prop)->St->Hp->VK->Prop
noncomputable abbrev TSX:=(St->Value->Option Addr->Hp->Prop)->Ends->St->Hp->Prop
noncomputable def PEX (X:Cx) (e:Expr) (t:TEX):Prop:=∀(pins:List (Addr×Obj)) (s:Shared) (σ:St) (H:Hp) (Q:VK) (Ex:St->Value->Option Addr->Hp->Prop),Inv X pins σ H s->t Ex σ H Q->wpAny (model X.prog X.w) X.A (eval e X.env) (EP X pins σ Q) (XP X pins Ex) s
noncomputable def PSX (X:Cx) (st:Stmt) (t:TSX):Prop:=∀(pins:List (Addr×Obj)) (s:Shared) (σ:St) (H:Hp) (D:Ends) (Ex:St->Value->Option Addr->Hp->Prop),Inv X pins σ H s->t Ex D σ H->wpAny (model X.prog X.w) X.A (exec st X.env) (SP X pins D) (XP X pins Ex) s
section
variable {X:Cx}{k:Nat}{x:Str}{ps:List Str}{sp:Sp}{e:Expr}{es:List Expr}{t:TA}{p pos:Pos}
noncomputable def uv (sp:Sp) (t:TA):TEX:=fun Ex σ H Q=>t σ H fun vs H1=>sp vs H1 Q (fun cls dx H'=>Ex σ cls dx H')
theorem rN (F:FnX X.prog X.w X.K X.mg X.base k x ps sp) (hr:aL k X.A) (ha:PA X.nox (e::es) t) (hg:Gl X x:=by rfl)
  (hdb:(x == ("__debug__":Str))=false:=by decide) (he:starEach (e::es) X.env=(false,eval e X.env)::starEach es X.env:=by rfl) (hpl:(backTo pos (starEach es X.env)).any (·.1)=false:=by rfl) :
  PEX X (.Call (.Name x p) (e::es) [] pos) (uv sp t):=by
 obtain⟨f,fd,hm,hk,hb,F⟩:=F
 intro pins s σ H Q Ex I h
 refine wpAny_Call_Name_kw (eJ I hg hm ?_ hdb)
 have I0:Inv X.nox pins σ H s:=⟨⟨I.ok.mod,I.ok.kind,I.ok.glob,I.ok.blt,I.ok.above,I.ok.inj,I.ok.has,I.ok.cab,I.ok.hd,I.ok.frames,I.ok.stk,I.ok.exf,I.ok.bs,I.ok.bsz,I.ok.noex,I.ok.exfs,I.ok.funs,I.ok.frf⟩,I.os,I.bare,I.base,I.loc,I.cell,I.free,I.freeC,I.pin,I.hok,I.len⟩
 refine PySem.W.callWith_K (h₀:=X.base) I.ok.mod.kin hk (wpAny_mono (ha pos pins s σ H _ I0 h) (fun us s1 hq=>?_) fun _ _ z=>False.elim z) he hpl
 obtain⟨vs,H1,I1,r,q⟩:=hq
 have I2:Inv X pins σ H1 s1:=⟨⟨I1.ok.mod,I1.ok.kind,I1.ok.glob,I1.ok.blt,I1.ok.above,I1.ok.inj,I1.ok.has,I1.ok.cab,I1.ok.hd,I1.ok.frames,I1.ok.stk,I1.ok.exf,I1.ok.bs,I1.ok.bsz,I1.ok.noex,I1.ok.exfs,I1.ok.funs,I1.ok.frf⟩,I1.os,I1.bare,I1.base,I1.loc,I1.cell,I1.free,I1.freeC,I1.pin,I1.hok,I1.len⟩
 refine⟨I2.kIn,?_⟩
 have hl:us.length=ps.length:=by rw [<- r.length];exact F.len _ _ _ _ q
 have hbb:=hb s1 us I2.kIn (by simpa using hl)
 simp only [List.append_nil] at hbb
 refine wpAny_call (codeAny_mono (F.run X.A X.stack s1 H1 ⟨us,[]⟩ us vs Q (fun cls dx H'=>Ex σ cls dx H') hr I2.env0 hbb r q) fun r s' hq=>?_)
 cases r with
 | error e=>exact⟨σ,H1,s1,I2,hq⟩
 | ok fl =>
  cases fl with
  | ret u=>exact I2.after hq
  | next=>exact False.elim hq
  | brk=>exact False.elim hq
  | cont=>exact False.elim hq
noncomputable def vk (i:Nat) (te:TEX):TSX:=fun Ex D σ H=>te Ex σ H fun y H1=>D.nx (σ.set i (some y)) H1
theorem sN {te:TEX}{i:Nat}{y:Str}{pos':Pos} (hN:X.N.Nodup) (hi:X.N[i]?=some y) (hx:Loc X.env.scope y) (he:PEX X e te) (hs:swapsWith e (some (.Name y pos')) pos.line X.env=pure false:=by rfl) (hf:X.fn y=true\/X.env.scope.names.lookup y=some .local:=by first | exact .inl rfl | exact .inr rfl | assumption) :
  PSX X (.Assign [.Name y pos'] e pos) (vk i te):=by
 intro pins s σ H D Ex I h
 refine wpAny_Assign_Name (thn (he pins s σ H _ Ex I h) fun v s1 ⟨z,H1,I1,r1,q1⟩=>?_) hs
 exact du I1 hN hi hx r1 (fun s2 I2=>⟨_,H1,I2,q1⟩) hf
end
theorem OwnTail.has {h:Heap}{a b:List Value}{v:Value} (x:OwnTail h a b) (hv:a.contains v=true):b.contains v=true:=by
 induction x with
 | base=>exact hv
 | own _ _ _ _ ih=>rw [List.contains_cons,ih,Bool.or_true]
theorem rQ {K:Frag}{h:Heap}{C:Addr}{bmB:List Value}{newId initId B:String} (X:K.In h) (hx:excIn K C bmB newId=true) (f:ExcBaseFacts B newId initId bmB):eu h C:=by
 unfold excIn at hx
 split at hx
 ·rename_i dct cd sl heq
  split at hx
  ·rename_i C' bm k0 k1 k2 k3 n k5 hm hs
   simp only [Bool.and_eq_true,Bool.not_eq_true',beq_iff_eq] at hx
   obtain⟨⟨⟨⟨⟨h1,h2⟩,h3⟩,h4⟩,h5⟩,h6⟩:=hx
   subst h1
   subst h2
   have ho:=X _ _ heq
   have hsl:sl=#[k0,k1,k2,k3,some (.builtin n),k5]:=by
    rw [<- Array.toList_inj];exact hs
   obtain⟨nm,bs,mro,ns,qn,hdct,sn,sub,ab,col,hdel⟩:=cd
   simp only at hm h3 h4 h5 h6
   subst hm
   subst h3
   subst hsl
   refine⟨nm,qn,ns,bs,bm,bmB,hdct,sn,sub,ab,col,dct,k0,k1,k2,k3,k5,h.nsMap ns,B,B,n,n,initId,initId,bmB,ho,?_,nsMap_none_of_in X h5 h6,tail_of_in X h4,OwnTail.has (tail_of_in X h4) f.hasBase,f,f.hasB,f⟩
   exact Heap.Ns.of_isNs (isNs_of_in X h5)
  ·cases hx
 ·cases hx
theorem nv:isSubtype (.type "type") (.type "tuple")=pure false:=by rw [isSubtype_type];kernel_rfl
theorem oq {M:Model}{A:Around}{E:Value->Shared->Prop}{nm q nm' q':Str}{C N R N':Addr}{bs bm bs' bm':List Value}{hdct hdct':Bool}{sn sn':List Str}{sub sub':List Value}{ab ab':Bool}{col col':Option Bool}{dd dd':Option Addr}{k0 k1 k2 k3 k5 l0 l1 l2 l3 l5:Option Value}{newId newId':String}
  {s:Shared}{e:Addr}{oe:Obj}{Q:Bool->Shared->Prop} (hC:s.heap.get? C=some (excClassObj nm q C N bs bm hdct sn sub ab col dd k0 k1 k2 k3 k5 newId)) (hR:s.heap.get? R=some (excClassObj nm' q' R N' bs' bm' hdct' sn' sub' ab' col' dd' l0 l1 l2 l3 l5 newId'))
  (he:s.heap.get? e=some oe) (hc:oe.cls=.ref C) (hb:bm'.contains (.type "BaseException")=true) (k:Q ((Value.ref C::bm).contains (.ref R)) s):wpAny M A (excMatches (.ref e) (.ref R)) Q E s:=by
 unfold excMatches
 refine wpAny_bind (wpAny_isInstance (T:="type") ⟨_,hR,rfl⟩ nv ?_)
 simp only [Bool.false_eq_true,if_false,pure_bind,List.forIn_cons,List.forIn_nil]
 obtain⟨h,g,d,tk,os⟩:=s
 have hex:∀{Q':Bool->Shared->Prop},Q' true ⟨h,g,d,tk,os⟩->wpAny M A (isExcClass (.ref R)) Q' E ⟨h,g,d,tk,os⟩:=fun {Q'} qq=>by
  unfold isExcClass isType
  simp only [bind_assoc,pure_bind]
  refine wpAny_bind (wpAny_loadPart hR ?_)
  simp only [if_true]
  refine wpAny_isSubtype_exc hR ?_
  rw [List.contains_cons,hb,Bool.or_true]
  exact qq
 refine wpAny_bind (wpAny_bind (wpAny_bind (hex ?_)))
 simp only [Bool.not_true,Bool.false_eq_true,if_false]
 refine wpAny_pure (wpAny_pure (wpAny_bind (wpAny_typeOf_ref he ?_)))
 rw [hc]
 refine wpAny_bind (wpAny_bind (wpAny_bind (wpAny_isSubtype_exc hC ?_)))
 cases c:(Value.ref C::bm).contains (Value.ref R) with
 | true =>
  rw [c] at k
  exact wpAny_pure (wpAny_pure (wpAny_pure k))
 | false =>
  rw [c] at k
  exact wpAny_pure (wpAny_pure (wpAny_pure k))
section
variable {X:Cx}{pins:List (Addr×Obj)}{σ:List (Option V)}{H H':Hp}{s:Shared}{h':Heap}
theorem Inv.stepN {g':Array GenState}{t':Nat}{d':Drawn}{ch:List Addr} (I:Inv X pins σ H s)
  (hch:∀b∈ch,X.s₀.heap.get? b=none/\b≠X.env.locals/\(∀x c,X.env.cells.lookup x=some c->c≠b)/\∀p∈X.pn++pins,p.1≠b)
  (keep:∀b o,b≠X.env.locals->b∉X.fs->b∉ch->s.heap.get? b=some o->H b=none->h'.get? b=some o)
  (slot:∀b o,b≠X.env.locals->b∈X.fs->b∉ch->s.heap.get? b=some o->H b=none->∃sl,h'.get? b=some { o with slots:=sl }) (free:∀b o,b∉ch->s.heap.get? b=some o->H b=none->H' b=none)
  (there:∀b o,b∉ch->s.heap.get? b=some o->∃o',h'.get? b=some o')
  (tups:∀b xs,H b=some (.tup xs)->H' b=some (.tup xs)) (frzs:∀b o u,H b=some (.frz o u)->H' b=some (.frz o u)) (tbls:∀b ps,H b=some (.tbl ps)->∃more,H' b=some (.tbl (ps++more)))
  (ns:∀m,s.heap.Ns X.env.locals m->h'.Ns X.env.locals m) (hok:HOk X.prog X.w H' h') (hg:AllBare g') :
  Inv X pins σ H' { s with heap:=h',gens:=g',drawn:=d',toks:=t' }:=by
 have neL:∀b o,X.s₀.heap.get? b=some o->b≠X.env.locals:=fun b o e=>Nat.ne_of_lt (Nat.lt_of_lt_of_le (Heap.lt_size e) I.ok.above)
 have neC:∀b o,X.s₀.heap.get? b=some o->b∉X.ex->b∉ch:=fun b o e hx hb=>by
  rw [(hch b hb).1] at e;cases e
 have cellK:∀x c,X.env.cells.lookup x=some c->∀v,s.heap.IsCell c v->h'.IsCell c v:=fun x c e v ⟨o,ho,hd⟩=>by
  have nch:c∉ch:=fun z=>(hch c z).2.2.1 x c e rfl
  by_cases hc:c∈X.fs
  ·obtain⟨sl,q⟩:=slot c o (I.cne x c e) hc nch ho (I.freeC x c e)
   exact⟨_,q,hd⟩
  ·exact⟨o,keep c o (I.cne x c e) hc nch ho (I.freeC x c e),hd⟩
 refine⟨I.ok,I.os,hg,⟨fun b o e n hb hx=>?_,fun b o e n hb hx=>?_,fun b o e n hx=>?_,fun b o e hx=>?_,fun b xs e=>tups b xs (I.base.tups b xs e),fun b o xs e=>frzs b o xs (I.base.frzs b o xs e),fun b ps e=>?_⟩,?_,fun x c e=>?_,?_,fun x c e=>?_,fun p hp=>?_,hok,I.len⟩
 ·exact keep b o (neL b o e) hb (neC b o e hx) (I.base.keep b o e n hb hx) (I.base.free b o e n hx)
 ·obtain⟨sl,e1⟩:=I.base.slot b o e n hb hx
  obtain⟨sl',e2⟩:=slot b _ (neL b o e) hb (neC b o e hx) e1 (I.base.free b o e n hx)
  exact⟨sl',e2⟩
 ·obtain⟨o',e1⟩:=I.base.there b o e hx
  exact free b o' (neC b o e hx) e1 (I.base.free b o e n hx)
 ·obtain⟨o',e1⟩:=I.base.there b o e hx
  exact there b o' (neC b o e hx) e1
 ·obtain⟨m1,e1⟩:=I.base.tbls b ps e
  obtain⟨m2,e2⟩:=tbls b _ e1
  exact⟨m1++m2,by rw [e2,Array.append_assoc]⟩
 ·obtain⟨m,hn,hl⟩:=I.loc
  refine⟨m,ns m hn,fun i x v e1 e2 e3=>?_⟩
  obtain⟨u,r,l⟩:=hl i x v e1 e2 e3
  refine⟨u,r,?_⟩
  rcases l with l | ⟨k,c,e,z⟩
  ·exact .inl l
  ·exact .inr ⟨k,c,e,cellK x c e _ z⟩
 ·obtain⟨v,z⟩:=I.cell x c e
  exact⟨v,cellK x c e v z⟩
 ·obtain⟨m,⟨o,_,_,ho,_⟩,_⟩:=I.loc
  exact free _ o (fun z=>(hch _ z).2.1 rfl) ho I.free
 ·obtain⟨v,o,ho,hd⟩:=I.cell x c e
  exact free c o (fun z=>(hch c z).2.2.1 x c e rfl) ho (I.freeC x c e)
 ·obtain⟨e,n,ne,nf,d⟩:=I.pin p hp
  have nch:p.1∉ch:=fun z=>(hch p.1 z).2.2.2 p hp rfl
  exact⟨keep p.1 p.2 ne nf nch e n,free p.1 p.2 nch e n,ne,nf,d⟩
theorem Inv.moved {G:List Addr} (I:Inv X pins σ H s) (hG:∀b∈G,X.s₀.heap.get? b=none/\H b=none/\b≠X.env.locals/\(∀x c,X.env.cells.lookup x=some c->c≠b)/\∀p∈X.pn++pins,p.1≠b)
  (kp:∀b o,s.heap.get? b=some o->b∉frs X.stack->b∉G->h'.get? b=some o) (sl:∀b o,s.heap.get? b=some o->b∈frs X.stack->∃sl,h'.get? b=some { o with slots:=sl }) :
  Inv X pins σ H { s with heap:=h' }:=by
 refine I.stepN (g':=s.gens) (d':=s.drawn) (t':=s.toks) (ch:=G) (fun b hb=>⟨(hG b hb).1,(hG b hb).2.2⟩) (fun b o hL hb hc e _=>kp b o e (fun z=>(List.mem_cons.mp (I.stkSub b z)).elim hL hb) hc) (fun b o hL hb hc e _=>?_) (fun _ _ _ _ n=>n) (fun b o hc e=>?_) (fun _ _ e=>e) (fun _ _ _ e=>e) (fun b ps e=>⟨#[],by rw [e];simp⟩) (fun m hm=>?_) (fun b u e=>?_) I.bare
 ·by_cases z:b∈frs X.stack
  ·exact sl b o e z
  ·exact⟨o.slots,kp b o e z hc⟩
 ·by_cases z:b∈frs X.stack
  ·obtain⟨q,q'⟩:=sl b o e z
   exact⟨_,q'⟩
  ·exact⟨o,kp b o e z hc⟩
 ·obtain⟨o,es,ep,ho,r⟩:=hm
  by_cases z:X.env.locals∈frs X.stack
  ·obtain⟨q,q'⟩:=sl _ o ho z
   exact⟨_,es,ep,q',r⟩
  ·exact⟨o,es,ep,kp _ o ho z (fun y=>(hG _ y).2.2.1 rfl),r⟩
 ·have nf:∀c v,H c=some v->c∉frs X.stack/\c∉G:=fun c v q=>⟨fun hm=>(by
   have:=I.stkFree c hm
   rw [q] at this;cases this),fun hm=>(by rw [(hG c hm).2.1] at q;cases q)⟩
  refine (I.hok b u e).stay (fun c v hc q=>?_) (fun _ q=>q) fun _ _ q=>q
  rcases hc with z | z
  ·rw [z] at q ⊢;exact kp b v q (nf b u e).1 (nf b u e).2
  ·exact kp c v q (nf c _ z).1 (nf c _ z).2
end
section
variable {X:Cx}{pins:List (Addr×Obj)}{σ:List (Option V)}{H:Hp}{s:Shared}
theorem oS {M:Model}{A:Around}{E:Value->Shared->Prop}{i:Nat}{x:Str}{v:V}{Q:Unit->Shared->Prop} (I:Inv X pins σ H s) (hN:X.N.Nodup) (hi:X.N[i]?=some x) (hk:X.env.scope.names.lookup x=some .local) (hv:σ[i]?=some (some v))
  (h:∀s',Inv X pins (σ.set i none) H s'->Q () s'):wpAny M A (unbindName X.env x) Q E s:=by
 obtain⟨m,hn,hl⟩:=id I.loc
 have hcls:(X.env.scope.kind == .class || (X.env.scope.kind == .module && X.env.locals != X.env.globals))=false:=by rw [I.ok.kind];rfl
 have hlen:i < σ.length:=by rw [I.len];exact (List.getElem?_eq_some_iff.mp hi).1
 obtain⟨u,r,lk⟩:=hl i x v hi hv (.inl hk)
 have hm:m x=some u:=by
  rcases lk with ⟨_,e⟩ | ⟨z,_⟩
  ·exact e
  ·have hk':X.env.kindOf x=some .local:=hk
   rcases z with z | z <;> (rw [hk'] at z;cases z)
 refine wpAny_unbindName_local hk hn hm hcls fun h' u' hn' hs=>?_
 have nb:∀b o,X.s₀.heap.get? b=some o->b≠X.env.locals:=fun b o e=>Nat.ne_of_lt (Nat.lt_of_lt_of_le (Heap.lt_size e) I.ok.above)
 have cne:=I.cne
 refine h _ ⟨I.ok,I.os,I.bare,⟨fun b o e n hb hx=>(hs.2 b (nb b o e)).trans (I.base.keep b o e n hb hx),fun b o e n hb hx=>?_,I.base.free,fun b o e hx=>?_,I.base.tups,I.base.frzs,I.base.tbls⟩,⟨_,hn',fun j y w e1 e2 e3=>?_⟩,fun y c e=>?_,I.free,I.freeC,fun p hp=>?_,fun b ob e=>?_,?_⟩
 ·obtain⟨sl,e1⟩:=I.base.slot b o e n hb hx
  exact⟨sl,(hs.2 b (nb b o e)).trans e1⟩
 ·obtain⟨o',e1⟩:=I.base.there b o e hx
  exact⟨o',(hs.2 b (nb b o e)).trans e1⟩
 ·by_cases hj:j=i
  ·subst hj
   rw [List.getElem?_set_self hlen] at e2
   cases e2
  ·rw [List.getElem?_set_ne (Ne.symm hj)] at e2
   obtain⟨u2,r2,q⟩:=hl j y w e1 e2 e3
   refine⟨u2,r2,?_⟩
   rcases q with ⟨k,e⟩ | ⟨k,c,e,z⟩
   ·refine .inl ⟨k,?_⟩
    have:y≠x:=fun e=>hj (gF hN e1 (e ▸ hi))
    simp [this,e]
   ·exact .inr ⟨k,c,e,z.sameBut hs (cne y c e)⟩
 ·obtain⟨w',z⟩:=I.cell y c e
  exact⟨w',z.sameBut hs (cne y c e)⟩
 ·obtain⟨e,n,ne,nf,d⟩:=I.pin p hp
  exact⟨(hs.2 p.1 ne).trans e,n,ne,nf,d⟩
 ·refine (I.hok b ob e).stay (fun c w' hc q=>(hs.2 c ?_).trans q) (fun _ q=>q) fun _ _ q=>q
  rintro rfl
  rcases hc with z | z
  ·have:=I.free
   rw [z] at this;rw [this] at e;cases e
  ·rw [I.free] at z;cases z
 ·rw [List.length_set];exact I.len
end
section
variable {X:Cx}{pins:List (Addr×Obj)}{σ:St}{H:Hp}{s:Shared}{ea C:Addr}{o:HO}
theorem Inv.track (I:Inv X pins σ H s) (hn:H ea=none) (h0:X.s₀.heap.get? ea=none) (hl:ea≠X.env.locals) (hc:∀x c,X.env.cells.lookup x=some c->c≠ea) (hp:∀p∈X.pn++pins,p.1≠ea)
  (new:aA X.prog X.w (upd H ea o) s.heap ea o):Inv X pins σ (upd H ea o) s:=by
 have J:=I.stepN (h':=s.heap) (H':=upd H ea o) (g':=s.gens) (d':=s.drawn) (t':=s.toks) (ch:=[ea]) (fun b hb=>by
   have z:b=ea:=by simpa using hb
   rw [z];exact⟨h0,hl,hc,hp⟩) (fun b o _ _ _ e _=>e) (fun b o _ _ _ e _=>⟨o.slots,e⟩) (fun b o hb e n=>by rw [aj (fun z=>hb (by simp [z]))];exact n) (fun b o _ e=>⟨o,e⟩)
  (fun b xs e=>by rw [aj (aI e hn)];exact e) (fun b o u e=>by rw [aj (aI e hn)];exact e) (fun b ps e=>⟨#[],by rw [aj (aI e hn),e];simp⟩) (fun m hm=>hm) (fun b u e=>?_) I.bare
 ·exact J
 ·by_cases z:b=ea
  ·rw [z,ah] at e
   cases e
   rw [z];exact new
  ·rw [aj z] at e
   exact (I.hok b u e).stay (fun _ _ _ q=>q) (fun b q=>by rw [aj (aI q hn)];exact q) (fun b xs q=>by rw [aj (aI q hn)];exact q)
noncomputable def dY (ea C:Addr) (dx:Option Addr):HO:=.ext fun h=>∃oe vs,h.get? ea=some oe/\oe.cls=.ref C/\oe.dict=dx/\oe.data=Data.fields vs/\vs[2]?=some Value.none
theorem rV {P:Program}{w:World}{H:Hp}{h:Heap}{oe:Obj}{dx:Option Addr}{vs:Array Value} (h1:h.get? ea=some oe) (h2:oe.cls=.ref C) (h3:oe.dict=dx) (h4:oe.data=Data.fields vs) (h5:vs[2]?=some Value.none):aA P w H h ea (dY ea C dx) :=
 ⟨⟨oe,vs,h1,h2,h3,h4,h5⟩,⟨oe,h1⟩,fun h1' h2' ⟨o,vs',q1,q2⟩ k=>⟨o,vs',k o q1,q2⟩⟩
end
noncomputable def Cx.held (X:Cx) (ea:Addr):Cx:={ X with A:=X.A.mark (some (.ref ea)),calm:=false,xe:=fun _ _=>False }
section
variable {X:Cx}{pins:List (Addr×Obj)}{σ:St}{H:Hp}{s:Shared}{ea:Addr}
theorem Inv.held (I:Inv X pins σ H s) (ea:Addr):Inv (X.held ea) pins σ H s :=
 ⟨⟨I.ok.mod,I.ok.kind,I.ok.glob,I.ok.blt,I.ok.above,I.ok.inj,I.ok.has,I.ok.cab,(fun z=>by cases z),I.ok.frames,I.ok.stk,I.ok.exf,I.ok.bs,I.ok.bsz,I.ok.noex,I.ok.exfs,I.ok.funs,I.ok.frf⟩,I.os,I.bare,I.base,I.loc,I.cell,I.free,I.freeC,I.pin,I.hok,I.len⟩
theorem Inv.unheld (ok:X.Ok) (I:Inv (X.held ea) pins σ H s):Inv X pins σ H s :=
 ⟨ok,I.os,I.bare,I.base,I.loc,I.cell,I.free,I.freeC,I.pin,I.hok,I.len⟩
theorem fM {M:Model}{A:Around}{E:Value->Shared->Prop}{i:Nat}{n:Str}{pos:Pos}{Q:Unit->Shared->Prop} (I:Inv X pins σ H s) (hN:X.N.Nodup) (hi:X.N[i]?=some n) (hk:X.env.scope.names.lookup n=some .local)
  (h:∀s',Inv X pins (σ.set i none) H s'->Q () s'):wpAny M A (do bindName X.env n Value.none;unbindBehindTheSuite X.env n pos) Q E s:=by
 refine wpAny_bind (wpAny_bindName (du I hN hi (.inl hk) (v:=.non) rfl (fun s' I'=>?_) (.inr hk)))
 have hl:i < σ.length:=by rw [I.len];exact (List.getElem?_eq_some_iff.mp hi).1
 unfold unbindBehindTheSuite
 refine wpAny_onRaise (oS I' hN hi hk (v:=.non) (List.getElem?_set_self hl) fun s2 I2=>h s2 ?_)
 rw [List.set_set] at I2
 exact I2
noncomputable def Under (h:Heap) (C R:Addr):Prop:=∃(nm q:Str) (N:Addr) (bs bm:List Value) (hdct:Bool) (sn:List Str) (sub:List Value) (ab:Bool) (col:Option Bool) (dd:Option Addr) (k0 k1 k2 k3 k5:Option Value) (newId:String),
 h.get? C=some (excClassObj nm q C N bs bm hdct sn sub ab col dd k0 k1 k2 k3 k5 newId)/\(Value.ref C::bm).contains (.ref R)=true
noncomputable def mx (D:Ends) (j:Nat):Ends:={ nx:=fun σ H=>D.nx (σ.set j none) H,rt:=D.rt,bk:=fun σ H=>D.bk (σ.set j none) H,ct:=fun σ H=>D.ct (σ.set j none) H }
end
section
variable {X:Cx}{st b0:Stmt}{suite:List Stmt}{tx:TSX}{th:TS}{x n:Str}{R:Addr}{j:Nat}{np hpos pos:Pos}
end
section
variable {X:Cx}{pins:List (Addr×Obj)}{σ:St}{H:Hp}{s:Shared}
end
section
variable {X:Cx}{st:Stmt}{rest:List Stmt}{t u:TSX}{pos:Pos}
end
open Builtin Builtin.ObjectAttr
inductive f9 (h:Heap) (S:List Str) (bmB:List Value):List Value->Prop
 | base:f9 h S bmB bmB
 | own {B:Addr}{c0:Value}{dd:Option Addr}{cd:ClassData}{sl:Array (Option Value)}{m:Str->Option Value}{tl:List Value} (e:h.get? B=some ⟨c0,dd,.cls cd,sl⟩) (n:h.Ns cd.ns m) (i:∀x∈S,m x=none) (r:f9 h S bmB tl):f9 h S bmB (.ref B::tl)
section
variable {h h':Heap}{S:List Str}{bmB tl:List Value}
end
section
variable {M:Model}{A:Around}{E:Value->Shared->Prop}{h:Heap}{g:Array GenState}{d:Drawn}{t:Nat}{os:OsState}{S:List Str}{bmB tl:List Value}{x:Str}{y:Option Value}{Q:Option Value->Shared->Prop}
variable {nm q:Str}{C N:Addr}{bs bm:List Value}{hdct:Bool}{sn:List Str}{sub:List Value}{ab:Bool}{col:Option Bool}{dd:Option Addr}{k0 k1 k2 k3 k5:Option Value}{B newId:String}{mN:Str->Option Value}
end
structure wG (S:List Str) (h:Heap) (C f:Addr) (nm q:Str) (N:Addr) (bs bm bmB:List Value) (sn:List Str) (sub:List Value) (ab:Bool) (col:Option Bool) (dd:Option Addr) (k0 k1 k2 k3 k5:Option Value) (mN:Str->Option Value) (B newId initId sa ow:String):Prop where
 at_:h.get? C=some (excClassObj nm q C N bs bm true sn sub ab col dd k0 k1 k2 k3 k5 newId)
 ns:h.Ns N mN
 init:mN (Str.ofString "__init__")=some (.ref f)
 no:∀x∈S,mN x=none
 tail:f9 h (Str.ofString "__init__"::S) bmB bm
 bf:ExcBaseFacts B newId initId bmB
 sf:StoreFacts B bmB sa ow
 af:ExcAttrBase B bmB
section
variable {prog:Program}{w:World}{A:Around}{E:Value->Shared->Prop}{h:Heap}{g:Array GenState}{d:Drawn}{t:Nat}{os:OsState}
 {S:List Str}{C f:Addr}{nm q:Str}{N:Addr}{bs bm bmB:List Value}{sn:List Str}{sub:List Value}{ab:Bool}{col:Option Bool}{dd:Option Addr}{k0 k1 k2 k3 k5:Option Value}{mN:Str->Option Value}{B newId initId sa ow:String}
end
section
variable {X:Cx}{pins:List (Addr×Obj)}{σ:St}{H:Hp}{s:Shared}{ea:Addr}{φ:Heap->Prop}
end
section
variable {M:Model}{A:Around}{E:Value->Shared->Prop}{s:Shared}{env:Env}{x:Sem Value}{Q:Flow->Shared->Prop}
 {nm q:Str}{C N:Addr}{bs bm:List Value}{hdct:Bool}{sn:List Str}{sub:List Value}{ab:Bool}{col:Option Bool}{dd:Option Addr}{k0 k1 k2 k3 k5:Option Value}{newId:String}
end
section
variable {X:Cx}{x:Str}{C f:Addr}{fd:FuncData}{ps:List Str}{sp:Sp}{k:Nat}{e:Expr}{es:List Expr}{t:TA}{np cpos pos:Pos}{W:Value->Option Addr->Hp->Prop}{S:List Str}
end
open Builtin Builtin.ObjectAttr
section
variable {prog:Program}{w:World}{A:Around}{E:Value->Shared->Prop}{h:Heap}{g:Array GenState}{d:Drawn}{t:Nat}{os:OsState}
 {S:List Str}{C f x:Addr}{nm q:Str}{N:Addr}{bs bm bmB:List Value}{sn:List Str}{sub:List Value}{ab:Bool}{col:Option Bool}{dd:Option Addr}{k0 k1 k2 k3 k5:Option Value}{mN:Str->Option Value}{B newId initId sa ow:String}
 {o:Obj}{vs:Array Value}{name:Str}{v:Value}
end
open Builtin Builtin.ObjectAttr
section
variable {prog:Program}{w:World}{A:Around}{E:Value->Shared->Prop}{h:Heap}{g:Array GenState}{d:Drawn}{t:Nat}{os:OsState}
 {S:List Str}{C f x dx:Addr}{nm q:Str}{N:Addr}{bs bm bmB:List Value}{sn:List Str}{sub:List Value}{ab:Bool}{col:Option Bool}{dd:Option Addr}{k0 k1 k2 k3 k5:Option Value}{mN mA:Str->Option Value}{B newId initId sa ow:String}
 {o:Obj}{vs:Array Value}{name:Str}{v:Value}
end
section
variable {X:Cx}{S:List Str}{o e value:Expr}{n:Str}{pos pos':Pos}{ta tv:TE}{C f:Addr}
theorem nJ {C D:Addr} (hi:PySem.W.isIn X.K (.ref C) D=true):bo X (.builtin "isinstance") (fun xs H Q=>∃a dx,xs=[.ref a,.ref D]/\H a=some (dY a C dx)/\Q (.bl true) H):=by
 intro pins s σ H xs us Q I r h
 obtain⟨a,dx,rfl,ea,q⟩:=h
 obtain⟨u,w',rfl,rx,ry⟩:=vals2 r
 cases (show u=Value.ref a from rx)
 cases (show w'=Value.ref D from ry)
 obtain⟨⟨oe,vs,o1,o2,o3,o4,_⟩,_⟩:=(show aA X.prog X.w H s.heap a (dY a C dx) from I.hok a _ ea)
 refine PySem.W.isi_call I.kIn (t:=.ref C) (fun M A Q E s' k hq=>?_) hi (fun z=>nomatch z) ⟨.bl true,H,I,rfl,q⟩
 refine wpAny_typeOf_ref (k _ _ o1) ?_
 rw [o2];exact hq
end
noncomputable abbrev veM:List Value:=[.type "ValueError",.type "Exception",.type "BaseException",.type "object"]
theorem kT {K:Frag}{h:Heap}{C:Addr} (X:K.In h) (hx:excIn K C veM "ValueError.__new__"=true):eu h C:=rQ X hx F.excBase_ValueError
noncomputable def gX (K:Frag) (C R:Addr):Bool:=match K.lookup C with
 | some ⟨.type "type",_,.cls cd,sl⟩=>(match cd.mro,sl.toList with
  | .ref C'::bm,[_,_,_,_,some (.builtin _),_]=>C' == C && !cd.hasDel && (Value.ref C::bm).contains (.ref R)
  | _,_=>false)
 | _=>false
theorem pJ {K:Frag}{h:Heap}{C R:Addr} (X:K.In h) (hx:gX K C R=true):Under h C R:=by
 unfold gX at hx
 split at hx
 ·rename_i dct cd sl heq
  split at hx
  ·rename_i C' bm k0 k1 k2 k3 n k5 hm hs
   simp only [Bool.and_eq_true,Bool.not_eq_true',beq_iff_eq] at hx
   obtain⟨⟨h1,h2⟩,h3⟩:=hx
   subst h1
   have ho:=X _ _ heq
   have hsl:sl=#[k0,k1,k2,k3,some (.builtin n),k5]:=by
    rw [<- Array.toList_inj];exact hs
   obtain⟨nm,bs,mro,ns,qn,hdct,sn,sub,ab,col,hdel⟩:=cd
   simp only at hm h2 h3
   subst hm
   subst h2
   subst hsl
   exact⟨nm,qn,ns,bs,bm,hdct,sn,sub,ab,col,dct,k0,k1,k2,k3,k5,n,ho,h3⟩
  ·cases hx
 ·cases hx
section
variable {X:Cx}{st b0:Stmt}{suite:List Stmt}{tx:TSX}{th:TS}{x n:Str}{R:Addr}{j:Nat}{np hpos pos:Pos}
end
section
variable {X:Cx}{e:Expr}{es:List Expr}{pos:Pos}
end
section
variable {X:Cx}{st b0:Stmt}{suite:List Stmt}{tx:TSX}{th:TS}{x:Str}{R:Addr}{np hpos pos:Pos}
end
open Builtin Builtin.ObjectAttr
section
variable {prog:Program}{w:World}{A:Around}{E:Value->Shared->Prop}{K:Frag}{x D:Addr}{ox:Obj}{odo:Option Obj}{hh:Heap}{g:Array GenState}{d:Drawn}{t:Nat}{os:OsState}
structure wH (K:Frag) (D:Addr):Prop where
 cls:(clsIn K D).isSome=true
 ga:findIn K (.ref D) "__getattribute__"=some (some (.builtin "BaseException.__getattribute__"))
 gb:findIn K (.ref D) "__getattr__"=some none
 kl:findIn K (.ref D) "__class__"=some (some (.builtin "object.__class__"))
 gt:specialIn K (.builtin "object.__class__") "__get__"=some (some (.builtin "getset_descriptor.__get__"))
 tk:takesIn K (.builtin "object.__class__")=some true
 sb:subIn K (.ref D) (.type "BaseException")=some true
 mr:mroIn K D (.type "object")=some true
end
section
variable {X:Cx}
end
end L2
namespace L2
open PySem PySem.Spec PyProof.Rows
structure mM (k:Nat) (A:Around):Prop where
 dp:A.depth + 3 * k + 5 < recursionLimit
 un:A.units + 16 * k + 200 < cLine
 gd:A.guards=some []
structure wC (P:Program) (w:World) (K:PySem.W.Frag) (mg:Str->Option Value) (base:Heap) (CX:CXT) (k:Nat) (f:Addr) (fd:FuncData) (ps:List Str) (sp:Sp):Prop where
 len:∀vs H Q E,sp vs H Q E->vs.length=ps.length
 run:∀(A:Around) (outer:List Env) (s:Shared) (H:Hp) (args:Args) (us:List Value) (vs:List V) (Q:VK) (E:XK),mM k A->dU P w K mg base A outer s H->BindsTo s fd args (ps.zip us)->ak vs us->sp vs H Q E ->
  codeAny (model P w) A (.call (.ref f) args) (CR CX outer P w H s Q E) s
section
variable {X:Cx}{CX:CXT}{k:Nat}{f C:Addr}{fd:FuncData}{ps:List Str}{sp:Sp}{dvs:List V}{ds:List Value}{E:XK}{x m:Str}{p pos apos:Pos}{e o:Expr}{es:List Expr}{ta:TE}{t:TA}
end
section
variable {P:Program}{w:World}{K:PySem.W.Frag}{mg:Str->Option Value}{base:Heap}
end
structure wy (P:Program) (w:World) (K:PySem.W.Frag) (mg:Str->Option Value) (base:Heap) (CX:CXT) (k:Nat) (f:Addr) (fd:FuncData) (ps:List Str) (sp:Option Value->Sp):Prop where
 len:∀hv vs H Q E,sp hv vs H Q E->vs.length=ps.length
 run:∀(A:Around) (outer:List Env) (s:Shared) (H:Hp) (args:Args) (us:List Value) (vs:List V) (Q:VK) (E:XK),mM k A->dU P w K mg base A outer s H->BindsTo s fd args (ps.zip us)->ak vs us->sp A.handled vs H Q E ->
  codeAny (model P w) A (.call (.ref f) args) (CR CX outer P w H s Q E) s
section
variable {X:Cx}{CX:CXT}{k:Nat}{f C:Addr}{fd:FuncData}{ps:List Str}{sp:Option Value->Sp}{dvs:List V}{ds:List Value}{E:XK}{x m:Str}{p pos apos:Pos}{e o:Expr}{es:List Expr}{ta:TE}{t:TA}
end
section
variable {P:Program}{w:World}{K:PySem.W.Frag}{mg:Str->Option Value}{base:Heap}
end
end L2
namespace L2
open PySem PySem.Spec PyProof.Rows PySem.W PySem.Calls
noncomputable def wz (h:Heap) (ea:Addr):Prop:=∃oe vs,h.get? ea=some oe/\oe.data=Data.fields vs/\vs[2]?=some Value.none
section
variable {prog:Program}{w:World}{A:Around}{E:Value->Shared->Prop}{s:Shared}
end
end L2
namespace L2
open PySem PySem.Spec PyProof.Rows
section
variable {X:Cx}
theorem jB:bo X (.builtin "abs") (fun xs H Q=>∃i,xs=[.int i]/\Q (.int (if i < 0 then -i else i)) H):=by
 intro pins s σ H xs us Q I r h
 obtain⟨i,rfl,q⟩:=h
 obtain⟨u,rfl,⟨t,rfl⟩⟩:=vals1 r
 exact call_abs_int fun u tk=>⟨.int (if i < 0 then -i else i),H,I.tok tk,⟨_,rfl⟩,q⟩
end
end L2
namespace L2
open PySem PySem.Spec PyProof.Rows PySem.W PySem.Calls
section
variable {prog:Program}{w:World}{A:Around}{E:Value->Shared->Prop}{s:Shared}{R:Result->Shared->Prop}{I:Addr}{fp wr:List Addr}{n:Nat}{P:Nat->Value->Prop}{St:Nat->Heap->Prop}
end
section
variable {X:Cx}
end
noncomputable def uT (tx:TSX) (th:Addr->TS) (j:Nat) (U:Addr->Prop):TS:=fun D σ H=>tx (fun σ1 cls dx H'=>∃C,cls=.ref C/\U C/\∀ea,H' ea=none->th ea (mx D j) (σ1.set j (some (.ref ea))) (upd H' ea (dY ea C dx))) D σ H
section
variable {X:Cx}{st b0:Stmt}{suite:List Stmt}{tx:TSX}{th:Addr->TS}{x n:Str}{R:Addr}{j:Nat}{np hpos pos:Pos}
theorem qM (hst:PSX X st tx) (hx:X.mg x=some (.ref R)) (hR:eu X.base R) (hth:∀ea,PSs (X.held ea) (b0::suite) (th ea)) (hN:X.N.Nodup) (hj:X.N[j]?=some n) (hn:X.env.scope.names.lookup n=some .local) (hstk:X.stack=X.env::X.outer) (hfr:X.env.frame=some X.env.locals) (hex:X.ex=[])
  (hg:Gl X x:=by rfl) (hdb:(x == ("__debug__":Str))=false:=by decide) :
  PS X (.Try [st] [.ExceptHandler (some (.Name x np)) (some n) (b0::suite) hpos] [] [] pos) (uT tx th j fun C=>Under X.base C R):=by
 intro pins s σ H D I h
 refine wpAny_Try_except (wpAny_execs_cons (wpAny_mono (hst pins s σ H D _ I h) (fun f s1 q=>?_) (fun e s1 q=>?_)))
 ·cases f with
  | next=>exact wpAny_execs_nil (wpAny_execs_nil q)
  | ret v=>exact q
  | brk=>exact q
  | cont=>exact q
 ·obtain⟨σ1,H1,s2,I1,ea,T,cls,a0,dx,H',rfl,os,bare,un,hok,n1,n2,m1,m2,trc,C,rfl,hu,hth'⟩:=q
  have I':Inv X pins σ1 H' s1:=I1.call' (ch:=[]) os un hok bare (by simp)
  have ffs:=I'.stack
  rw [hstk] at ffs
  have afr:X.A.frames=some (X.env::X.outer):=by rw [<- hstk];exact I'.ok.frames
  have there:∀b o,s2.heap.get? b=some o->∃o',s1.heap.get? b=some o':=fun b o q=>un.there b o q (by simp)
  have newAt:∀b,s2.heap.get? b=none->X.s₀.heap.get? b=none/\b≠X.env.locals/\(∀x c,X.env.cells.lookup x=some c->c≠b)/\∀p∈X.pn++pins,p.1≠b:=fun b q=>by
   refine⟨?_,fun z=>?_,fun y c e z=>?_,fun p hp z=>?_⟩
   ·cases hc:X.s₀.heap.get? b with
    | none=>rfl
    | some o =>
     obtain⟨o',q'⟩:=I1.base.there b o hc (by rw [hex];simp)
     rw [q] at q';cases q'
   ·obtain⟨m,⟨o,_,_,ho,_⟩,_⟩:=I1.loc
    rw [<- z,q] at ho;cases ho
   ·obtain⟨v,o,ho,_⟩:=I1.cell y c e
    rw [z,q] at ho;cases ho
   ·have:=(I1.pin p hp).1
    rw [z,q] at this;cases this
  have noH:∀b,s1.heap.get? b=none->H' b=none:=fun b q=>by
   cases hc:H' b with
   | none=>rfl
   | some o =>
    obtain⟨ob,q'⟩:=aA.got (hok b o hc)
    rw [q] at q';cases q'
  have mk:∀b,s2.heap.get? b=none->H' b=none->X.s₀.heap.get? b=none/\H' b=none/\b≠X.env.locals/\(∀x c,X.env.cells.lookup x=some c->c≠b)/\∀p∈X.pn++pins,p.1≠b:=fun b q1 q2=>⟨(newAt b q1).1,q2,(newAt b q1).2⟩
  refine nQ (Q:=fun _ s3=>wpAny (model X.prog X.w) X.A (handleBy (Value.ref ea) X.env [ExceptHandler.ExceptHandler (some (Expr.Name x np)) (some n) (b0::suite) hpos]) (SP X pins D) X.xe s3) (base:=X.base) afr hfr ffs trc fun h3 T3 mv3 nw3 tr3=>?_
  have nT3:s2.heap.get? T3=none/\H' T3=none:=by
   refine⟨?_,noH T3 nw3⟩
   cases hc:s2.heap.get? T3 with
   | none=>rfl
   | some o =>
    obtain⟨o',q'⟩:=there T3 o hc
    rw [nw3] at q';cases q'
  have I3:Inv X pins σ1 H' { s1 with heap:=h3 }:=I'.moved (G:=[ea,T]) (fun b hb=>by
   simp at hb
   rcases hb with z | z
   ·rw [z];exact mk ea n1 m1
   ·rw [z];exact mk T n2 m2) (fun b o q hb hg=>mv3.keep b o q (by rw [<- hstk];exact hb) hg) (fun b o q hb=>mv3.slot b o q (by rw [<- hstk];exact hb))
  refine wpAny_handleBy_cons (codeAny_handlers_test ?_) (by intro z;cases z)
  refine eJ (X:=X.held ea) (I3.held ea) hg hx ?_ hdb
  obtain⟨nm,q,N,bs,bm,bmB,hdct,sn,sub,ab,col,dd,k0,k1,k2,k3,k5,mN,B,Bn,newId,nid,initId,inN,bmN,a1,a2,a3,a4,a5,a6,a7,a8⟩:=hR
  obtain⟨nm',q',N',bs',bm',hdct',sn',sub',ab',col',dd',l0,l1,l2,l3,l5,newId',c1,c2⟩:=hu
  obtain⟨oe,vs,oT,ts,g1,g2,g3,g4,g5,g6,g7,g8,g9,g10⟩:=id tr3
  refine oq (I3.bk _ _ c1) (I3.bk _ _ a1) g1 g2 a5 ?_
  rw [c2]
  show codeAny _ _ (Code.handlers (.ref ea) [ExceptHandler.ExceptHandler none (some n) (b0::suite) hpos] X.env) _ _
  refine codeAny_handlers_suite_as (ground tr3 fun h4 same4 tr4=>?_)
  have I4:Inv X pins σ1 H' { s1 with heap:=h4 }:=Inv.moved (s:={ s1 with heap:=h3 }) (h':=h4) (G:=[T3]) I3 (fun b hb=>by
   have z:b=T3:=by simpa using hb
   rw [z];exact mk T3 nT3.1 nT3.2) (fun b o q hb hg=>(same4 b fun z=>hg (by simp [z])).trans q) (fun b o q hb=>⟨o.slots,(same4 b fun z=>by
    obtain⟨o2,q2,nf⟩:=dP I3.stack b hb
    rw [z,g7] at q2;cases q2;exact nf _ g8).trans q⟩)
  obtain⟨oe4,vs4,oT4,ts4,f1,f2,f3,f4,_,_,_,_,_,f10⟩:=id tr4
  have I4t:Inv X pins σ1 (upd H' ea (dY ea C dx)) { s1 with heap:=h4 }:=I4.track m1 (newAt ea n1).1 (newAt ea n1).2.1 (newAt ea n1).2.2.1 (newAt ea n1).2.2.2 (rV f1 f2 f10 f4 f3.2)
  refine du (X:=X.held ea) (I4t.held ea) hN hj (.inl hn) (v:=.ref ea) rfl (fun s5 I5=>?_) (.inr hn)
  refine wpAny_mono (hth ea pins s5 (σ1.set j (some (.ref ea))) (upd H' ea (dY ea C dx)) (mx D j) I5 (hth' ea m1)) (fun f s6 q6=>?_) (fun _ _ z=>False.elim z)
  cases f with
  | next =>
   obtain⟨σ2,H2,J,q⟩:=q6
   exact fM (J.unheld I.ok) hN hj hn fun s7 I7=>⟨σ2.set j none,H2,I7,q⟩
  | brk =>
   obtain⟨σ2,H2,J,q⟩:=q6
   exact fM (J.unheld I.ok) hN hj hn fun s7 I7=>⟨σ2.set j none,H2,I7,q⟩
  | cont =>
   obtain⟨σ2,H2,J,q⟩:=q6
   exact fM (J.unheld I.ok) hN hj hn fun s7 I7=>⟨σ2.set j none,H2,I7,q⟩
  | ret u =>
   obtain⟨v,σ2,H2,J,rv,q⟩:=q6
   exact fM (J.unheld I.ok) hN hj hn fun s7 I7=>⟨v,σ2.set j none,H2,I7,rv,q⟩
end
end L2
namespace L2
open PySem PySem.Spec PyProof.Rows
section
variable {prog:Program}{w:World}{A:Around}{E:Value->Shared->Prop}{s:Shared}
theorem kL {c t:Addr}{i:Nat}{its:Array Value}{v:Value}{Q:Value->Shared->Prop} (hi:s.heap.IsTupleIter c t i) (ht:s.heap.IsTuple t its) (hv:its[i]?=some v)
  (k:∀G,G.IsTupleIter c t (i + 1)->Heap.SameBut c s.heap G->Q v { s with heap:=G }):wpAny (model prog w) A (Builtin.SmallTypes.nextOf (.ref c)) Q E s:=by
 obtain⟨o,e,cl,d⟩:=id hi
 obtain⟨o2,e2,_,n2,d2⟩:=ht
 unfold Builtin.SmallTypes.nextOf
 refine wpAny_bind (wpAny_callSpecial?_slot (name:=Str.ofString "__next__") hi.typeIs F.slot_tuple_iterator_next (wpAny_call_entry F.slot_tuple_iterator_next hi.typeIs F.entry_tuple_iterator_next ?_ (F.args_tuple_iterator_next_1 _)))
 refine (show wpAny _ _ (field (.ref c) 0 >>= _) _ _ s from wpAny_bind (wpAny_field e d (x:=.ref t) rfl ?_))
 refine (show wpAny _ _ (if (Value.ref t == Value.none)=true then _ else _) _ _ s from ?_);rw [if_neg (show ¬ ((Value.ref t == Value.none)=true) from Bool.false_ne_true)]
 refine (show wpAny _ _ (field (.ref c) 1 >>= _) _ _ s from wpAny_bind (wpAny_field e d (x:=.int i 0) rfl ?_))
 refine (show wpAny _ _ (seqItems? (.ref t) >>= _) _ _ s from wpAny_bind (wpAny_seqItems e2 d2 ?_));simp only [Int.toNat_natCast,hv]
 refine wpAny_bind (wpAny_setField e d (by simp) (wpAny_pure ⟨v,rfl,wpAny_pure (k _ ⟨_,Heap.get?_update_self _ e (Obj.isFreed_of_fields (Obj.data_mapFields d _)),(Obj.cls_mapFields ..).trans cl,by rw [Obj.data_mapFields d];simp [rawInt]⟩ (Heap.SameBut.update ..))⟩))
theorem ut {c t:Addr}{i:Nat}{its:Array Value}{Q:Value->Shared->Prop} (hh:A.handled=none) (hi:s.heap.IsTupleIter c t i) (ht:s.heap.IsTuple t its) (hv:its[i]?=none)
  (k:∀G x,Heap.ExtBut c s.heap G->(∃o,G.get? x=some o/\o.cls=.type "StopIteration")->E (.ref x) { s with heap:=G }):wpAny (model prog w) A (Builtin.SmallTypes.nextOf (.ref c)) Q E s:=by
 obtain⟨o,e,cl,d⟩:=id hi
 obtain⟨o2,e2,_,n2,d2⟩:=ht
 unfold Builtin.SmallTypes.nextOf
 refine wpAny_bind (wpAny_callSpecial?_slot (name:=Str.ofString "__next__") hi.typeIs F.slot_tuple_iterator_next (wpAny_call_entry F.slot_tuple_iterator_next hi.typeIs F.entry_tuple_iterator_next ?_ (F.args_tuple_iterator_next_1 _)))
 refine (show wpAny _ _ (field (.ref c) 0 >>= _) _ _ s from wpAny_bind (wpAny_field e d (x:=.ref t) rfl ?_))
 refine (show wpAny _ _ (if (Value.ref t == Value.none)=true then _ else _) _ _ s from ?_);rw [if_neg (show ¬ ((Value.ref t == Value.none)=true) from Bool.false_ne_true)]
 refine (show wpAny _ _ (field (.ref c) 1 >>= _) _ _ s from wpAny_bind (wpAny_field e d (x:=.int i 0) rfl ?_))
 refine (show wpAny _ _ (seqItems? (.ref t) >>= _) _ _ s from wpAny_bind (wpAny_seqItems e2 d2 ?_));simp only [Int.toNat_natCast,hv]
 refine wpAny_bind (wpAny_rule (wpAny_bind (wpAny_setField e d (by simp) (show wpAny _ _ (newExc (.type "StopIteration") [] >>= _) _ _ _ from wpAny_bind ?_))));simp only [newExc,newTuple]
 refine wpAny_bind (wpAny_newObj_type (wpAny_bind (m:=firstArgMember _ _) (wpAny_of_eq (a:=Value.none) (by first | rfl | (simp only [firstArgMember];rfl)) (wpAny_newObj_type ?_ (by size_fits)))) (by size_fits));simp only [raiseNew]
 refine wpAny_bind (wpAny_handled ?_);(first | rw [show A.in1.handled=none from hh] | rw [hh])
 exact wpAny_bind (wpAny_pure (wpAny_throw (k _ _ (((Heap.SameBut.update ..).extBut.push _).push _) ⟨_,Heap.get?_push_size _ rfl,rfl⟩)))
theorem qW {z TI TO i1 i2 l1 l2:Addr}{k:Nat}{xs ys:Array Value}{x y a b:Value}{Q:Option Value->Shared->Prop} (D:ZipApart z TI TO i1 i2 l1 l2) (hz:IsZip s.heap z TI TO .none) (hTI:IsPair s.heap TI (.ref i1) (.ref i2)) (hTO:IsPair s.heap TO a b)
  (h1:s.heap.IsTupleIter i1 l1 k) (h2:s.heap.IsTupleIter i2 l2 k) (t1:s.heap.IsTuple l1 xs) (t2:s.heap.IsTuple l2 ys) (hx:xs[k]?=some x) (hy:ys[k]?=some y)
  (q:∀G,IsZip G z TI TO (rawInt s.heap.objs.size)->IsPair G TO x y->G.IsTupleIter i1 l1 (k + 1)->G.IsTupleIter i2 l2 (k + 1)->IsPair G s.heap.objs.size x y->G.objs.size=s.heap.objs.size + 1 ->
   (∀c o,c≠z->c≠TO->c≠i1->c≠i2->s.heap.get? c=some o->G.get? c=some o)->Q (some (.ref s.heap.objs.size)) { s with heap:=G }):wpAny (model prog w) A (pyNext (.ref z)) Q E s:=by
 have ty:s.TypeIs (.ref z) "zip":=⟨_,hz,rfl⟩
 unfold pyNext
 refine wpAny_bind (wpAny_attempt (wpAny_callSpecial?_slot (name:=Str.ofString "__next__") ty F.slot_zip_next (wpAny_call_entry F.slot_zip_next ty F.entry_zip_next ?_ (F.args_zip_next_1 _))))
 refine (show wpAny _ _ (field (.ref z) 2 >>= _) _ _ _ from wpAny_bind (wpAny_field hz rfl (x:=.bool false) rfl ?_))
 refine (show wpAny _ _ (field (.ref z) 3 >>= _) _ _ _ from wpAny_bind (wpAny_field hz rfl (x:=.ref TI) rfl (wpAny_bind (wpAny_seqItems hTI rfl ?_))))
 refine (show wpAny _ _ (Builtin.SmallTypes.ownedTupleIsFree (.ref z) >>= _) _ _ _ from wpAny_bind ?_);unfold Builtin.SmallTypes.ownedTupleIsFree
 refine wpAny_bind (wpAny_field hz rfl (x:=.none) rfl (wpAny_pure ?_));simp only [if_true]
 refine wpAny_bind (wpAny_rule (wpAny_bind (wpAny_field hz rfl (x:=.ref TO) rfl (wpAny_bind (wpAny_setField_rec hz (by simp) fun g1 z1 s1=>?_)))))
 have z1':IsZip g1 z TI TO .ellipsis:=z1
 refine wpAny_bind ?_;simp only [List.zipIdx_cons,List.zipIdx_nil,List.forIn_cons,List.forIn_nil]
 refine wpAny_bind (wpAny_bind (wpAny_onRaise (show wpAny _ _ (Builtin.SmallTypes.nextOf (.ref i1) >>= _) _ _ _ from wpAny_bind (kL (h1.extBut s1.extBut D.i1z) (t1.at fun o e=>s1.extBut _ o D.l1z e) hx fun g2 j2 s2=>wpAny_pure ?_))))
 have o2:IsPair g2 TO a b:=s2.extBut _ _ D.TOi1 (s1.extBut _ _ D.TOz hTO)
 refine wpAny_bind (wpAny_seqItems o2 rfl (wpAny_bind (wpAny_updateSeq_pair o2 fun g3 o3 s3=>?_)))
 have o3':IsPair g3 TO x b:=o3
 refine wpAny_bind (wpAny_letGo (wpAny_pure (wpAny_bind (wpAny_bind (wpAny_onRaise (show wpAny _ _ (Builtin.SmallTypes.nextOf (.ref i2) >>= _) _ _ _ from wpAny_bind (kL (((h2.extBut s1.extBut D.i2z).extBut s2.extBut D.i12.symm).extBut s3.extBut D.TOi2.symm)
  (((t2.at fun o e=>s1.extBut _ o D.l2z e).at fun o e=>s2.extBut _ o D.l2i1 e).at fun o e=>s3.extBut _ o D.l2TO e) hy fun g4 j4 s4=>wpAny_pure ?_)))))))
 have o4:IsPair g4 TO x b:=s4.extBut _ _ D.TOi2 o3'
 refine wpAny_bind (wpAny_seqItems o4 rfl (wpAny_bind (wpAny_updateSeq_pair o4 fun g5 o5 s5=>?_)))
 have o5':IsPair g5 TO x y:=o5
 refine wpAny_bind (wpAny_letGo (wpAny_pure (wpAny_pure (wpAny_bind (wpAny_seqItems o5' rfl (wpAny_bind (wpAny_newTuple ?_)))))))
 have sz:g5.objs.size=s.heap.objs.size:=by rw [s5.1,s4.1,s3.1,s2.1,s1.1]
 have z5:IsZip g5 z TI TO .ellipsis:=s5.extBut _ _ D.TOz.symm (s4.extBut _ _ D.i2z.symm (s3.extBut _ _ D.TOz.symm (s2.extBut _ _ D.i1z.symm z1')))
 have kp:∀c o,c≠z->c≠TO->c≠i1->c≠i2->s.heap.get? c=some o->g5.get? c=some o:=fun c o n1 n2 n3 n4 e=>s5.extBut _ _ n2 (s4.extBut _ _ n4 (s3.extBut _ _ n2 (s2.extBut _ _ n3 (s1.extBut _ _ n1 e))))
 have j1:g5.IsTupleIter i1 l1 (k + 1):=((j2.extBut s3.extBut D.TOi1.symm).extBut s4.extBut D.i12).extBut s5.extBut D.TOi1.symm
 have j2':g5.IsTupleIter i2 l2 (k + 1):=j4.extBut s5.extBut D.TOi2.symm
 have lz:z < g5.objs.size:=Heap.lt_size z5
 refine (show wpAny _ _ (Builtin.SmallTypes.ownedTupleHandOut (.ref z) (.ref g5.objs.size) >>= _) _ _ _ from wpAny_bind ?_);unfold Builtin.SmallTypes.ownedTupleHandOut
 have z6:IsZip (g5.push { cls:=.type "tuple",data:=.seq #[x,y] }) z TI TO .ellipsis:=Heap.get?_push_of_some _ z5
 refine wpAny_bind (wpAny_setField_rec z6 (by simp) fun g7 z7 s7=>?_)
 have z7':IsZip g7 z TI TO (rawInt g5.objs.size):=z7
 refine wpAny_setField_rec z7' (by simp) fun g8 z8 s8=>?_
 have z8':IsZip g8 z TI TO (rawInt g5.objs.size):=z8
 have up:∀c o,c≠z->g5.get? c=some o->g8.get? c=some o:=fun c o n e=>s8.extBut _ _ n (s7.extBut _ _ n (Heap.get?_push_of_some _ e))
 have pr:IsPair g8 g5.objs.size x y:=s8.extBut _ _ (Nat.ne_of_gt lz) (s7.extBut _ _ (Nat.ne_of_gt lz) (Heap.get?_push_size _ rfl))
 have sz8:g8.objs.size=g5.objs.size + 1:=by rw [s8.1,s7.1,Heap.size_push]
 rw [sz] at z8' pr sz8
 refine wpAny_pure ⟨_,rfl,wpAny_pure (show Q (some (.ref g5.objs.size)) _ from ?_)⟩
 rw [sz]
 exact q g8 z8' (up _ _ D.TOz o5') (j1.at fun o e=>up _ o D.i1z e) (j2'.at fun o e=>up _ o D.i2z e) pr sz8 fun c o n1 n2 n3 n4 e=>up c o n1 (kp c o n1 n2 n3 n4 e)
theorem uI {z TI TO i1 i2 l1 l2:Addr}{k:Nat}{xs:Array Value}{a b:Value}{Q:Option Value->Shared->Prop} (hh:A.handled=none) (D:ZipApart z TI TO i1 i2 l1 l2) (hz:IsZip s.heap z TI TO .none) (hTI:IsPair s.heap TI (.ref i1) (.ref i2)) (hTO:IsPair s.heap TO a b)
  (h1:s.heap.IsTupleIter i1 l1 k) (t1:s.heap.IsTuple l1 xs) (hx:xs[k]?=none)
  (q:∀G,(∀c o,c≠z->c≠TO->c≠i1->c≠i2->s.heap.get? c=some o->G.get? c=some o)->Q none { s with heap:=G }):wpAny (model prog w) A (pyNext (.ref z)) Q E s:=by
 have ty:s.TypeIs (.ref z) "zip":=⟨_,hz,rfl⟩
 unfold pyNext
 refine wpAny_bind (wpAny_attempt (wpAny_callSpecial?_slot (name:=Str.ofString "__next__") ty F.slot_zip_next (wpAny_call_entry F.slot_zip_next ty F.entry_zip_next ?_ (F.args_zip_next_1 _))))
 refine (show wpAny _ _ (field (.ref z) 2 >>= _) _ _ _ from wpAny_bind (wpAny_field hz rfl (x:=.bool false) rfl ?_))
 refine (show wpAny _ _ (field (.ref z) 3 >>= _) _ _ _ from wpAny_bind (wpAny_field hz rfl (x:=.ref TI) rfl (wpAny_bind (wpAny_seqItems hTI rfl ?_))))
 refine (show wpAny _ _ (Builtin.SmallTypes.ownedTupleIsFree (.ref z) >>= _) _ _ _ from wpAny_bind ?_);unfold Builtin.SmallTypes.ownedTupleIsFree
 refine wpAny_bind (wpAny_field hz rfl (x:=.none) rfl (wpAny_pure ?_));simp only [if_true]
 refine wpAny_bind (wpAny_rule (wpAny_bind (wpAny_field hz rfl (x:=.ref TO) rfl (wpAny_bind (wpAny_setField_rec hz (by simp) fun g1 z1 s1=>?_)))))
 have z1':IsZip g1 z TI TO .ellipsis:=z1
 refine wpAny_bind ?_;simp only [List.zipIdx_cons,List.zipIdx_nil,List.forIn_cons,List.forIn_nil]
 refine wpAny_bind (wpAny_bind (wpAny_onRaise (show wpAny _ _ (Builtin.SmallTypes.nextOf (.ref i1) >>= _) _ _ _ from wpAny_bind (ut hh (h1.extBut s1.extBut D.i1z) (t1.at fun o e=>s1.extBut _ o D.l1z e) hx fun g2 x s2 he=>?_))))
 obtain⟨oe,e1,e2⟩:=he
 have z2:IsZip g2 z TI TO .ellipsis:=s2 _ _ D.i1z.symm z1'
 have nz:x≠z:=fun w'=>by subst w';rw [z2] at e1;cases e1;simp at e2
 refine wpAny_setField_rec z2 (by simp) fun g3 _ s3=>?_
 refine wpAny_bind (wpAny_isInstance (T:="StopIteration") (b:=true) ⟨oe,s3.extBut _ _ nz e1,e2⟩ isSubtype_stop (wpAny_pure (q _ fun c o n1 _ n3 _ e=>s3.extBut _ _ n1 (s2 _ _ n3 (s1.extBut _ _ n1 e)))))
theorem pO (l1 l2:Addr) (xs ys:Array Value) :
  Meets (Builtin.«zip.__new__» ⟨[.type "zip",.ref l1,.ref l2],[]⟩) (fun _ R s=>s.heap.IsTuple l1 xs/\s.heap.IsTuple l2 ys /\
   ∃G:Heap,G=(((((s.heap.push { cls:=.type "tuple_iterator",data:=.fields #[.ref l1,.int 0 0] }).push { cls:=.type "tuple_iterator",data:=.fields #[.ref l2,.int 0 0] }).push { cls:=.type "tuple",data:=.seq #[.ref s.heap.objs.size,.ref (s.heap.objs.size + 1)] }).push { cls:=.type "tuple",data:=.seq #[.none,.none] }).push
    { cls:=.type "zip",data:=.fields #[.none,.bool false,.bool false,.ref (s.heap.objs.size + 2),.ref (s.heap.objs.size + 3)] })/\R (.ok (.ret (.ref (s.heap.objs.size + 4)))) { s with heap:=G }) :=
 .of_wp fun prog w A R s h=>by
  obtain⟨hp,g,d,tk,os⟩:=s;obtain⟨a1,a2,G,e,h⟩:=h
  have hsub:=sub_zip
  have b1:Heap.IsTuple (Shared.heap ⟨hp,g,d,tk,os⟩) l1 xs:=a1
  have b2:Heap.IsTuple (Shared.heap ⟨hp.push { cls:=.type "tuple_iterator",data:=.fields #[.ref l1,.int 0 0] },g,d,tk,os⟩) l2 ys:=a2.at fun o e=>Heap.get?_push_of_some _ e
  wp_walk using wpAny_pyIter_tuple b1,wpAny_pyIter_tuple b2
  subst e
  refine⟨_,rfl,?_⟩
  simp only [Heap.size_push]
  exact h
end
section
variable {prog:Program}{w:World}{A:Around}{E:Value->Shared->Prop}{s:Shared}
theorem qL {l1 l2:Addr}{xs ys:Array Value}{Q:Value->Shared->Prop} (t1:s.heap.IsTuple l1 xs) (t2:s.heap.IsTuple l2 ys)
  (q:∀G,IsZip G (s.heap.objs.size + 4) (s.heap.objs.size + 2) (s.heap.objs.size + 3) .none->IsPair G (s.heap.objs.size + 2) (.ref s.heap.objs.size) (.ref (s.heap.objs.size + 1))->IsPair G (s.heap.objs.size + 3) .none .none ->
   G.IsTupleIter s.heap.objs.size l1 0->G.IsTupleIter (s.heap.objs.size + 1) l2 0->G.objs.size=s.heap.objs.size + 5->(∀c o,s.heap.get? c=some o->G.get? c=some o)->Q (.ref (s.heap.objs.size + 4)) { s with heap:=G }) :
  wpAny (model prog w) A (call (.type "zip") [.ref l1,.ref l2]) Q E s:=by
 refine callType_new F.called_zip (by decide) (F.typeCall_zip_2 _ _) (F.newCall_zip_2 _ _) (fun obj=>F.args_object_init_3 obj _ _) F.entry_zip_new (pO l1 l2 xs ys) ⟨t1,t2,_,rfl,?_⟩
 have at':∀(h:Heap) (o:Obj) (n:Nat),h.objs.size=n->o.isFreed=false->(h.push o).get? n=some o:=fun h o n e f=>by rw [<- e];exact Heap.get?_push_size _ f
 have kp:∀{h:Heap}{o:Obj}{c:Addr}{v:Obj},h.get? c=some v->(h.push o).get? c=some v:=fun e=>Heap.get?_push_of_some _ e
 have g5:=at' ((((s.heap.push { cls:=.type "tuple_iterator",data:=.fields #[.ref l1,.int 0 0] }).push { cls:=.type "tuple_iterator",data:=.fields #[.ref l2,.int 0 0] }).push { cls:=.type "tuple",data:=.seq #[.ref s.heap.objs.size,.ref (s.heap.objs.size + 1)] }).push { cls:=.type "tuple",data:=.seq #[.none,.none] })
  { cls:=.type "zip",data:=.fields #[.none,.bool false,.bool false,.ref (s.heap.objs.size + 2),.ref (s.heap.objs.size + 3)] } (s.heap.objs.size + 4) (by simp only [Heap.size_push]) rfl
 have g4:=at' (((s.heap.push { cls:=.type "tuple_iterator",data:=.fields #[.ref l1,.int 0 0] }).push { cls:=.type "tuple_iterator",data:=.fields #[.ref l2,.int 0 0] }).push { cls:=.type "tuple",data:=.seq #[.ref s.heap.objs.size,.ref (s.heap.objs.size + 1)] }) { cls:=.type "tuple",data:=.seq #[.none,.none] } (s.heap.objs.size + 3) (by simp only [Heap.size_push]) rfl
 have g3:=at' ((s.heap.push { cls:=.type "tuple_iterator",data:=.fields #[.ref l1,.int 0 0] }).push { cls:=.type "tuple_iterator",data:=.fields #[.ref l2,.int 0 0] }) { cls:=.type "tuple",data:=.seq #[.ref s.heap.objs.size,.ref (s.heap.objs.size + 1)] } (s.heap.objs.size + 2) (by simp only [Heap.size_push]) rfl
 have g2:=at' (s.heap.push { cls:=.type "tuple_iterator",data:=.fields #[.ref l1,.int 0 0] }) { cls:=.type "tuple_iterator",data:=.fields #[.ref l2,.int 0 0] } (s.heap.objs.size + 1) (by simp only [Heap.size_push]) rfl
 have g1:=at' s.heap { cls:=.type "tuple_iterator",data:=.fields #[.ref l1,.int 0 0] } s.heap.objs.size rfl rfl
 exact⟨⟨_,g5,rfl⟩,q _ g5 (kp (kp g3)) (kp g4) ⟨_,kp (kp (kp (kp g1))),rfl,rfl⟩ ⟨_,kp (kp (kp g2)),rfl,rfl⟩ (by simp only [Heap.size_push]) fun c o e=>kp (kp (kp (kp (kp e))))⟩
end
noncomputable def Ity (K:PySem.W.Frag) (a b:Addr):It :=
 ⟨fun i H=>∃xs ys x y,SqT K H a xs/\SqT K H b ys/\xs[i]?=some x/\ys[i]?=some y,
  fun i H v H'=>∃T x y,v=.ref T/\H T=none/\H'=upd H T (.tup [x,y])/\(∀xs,SqT K H a xs->xs[i]?=some x)/\∀ys,SqT K H b ys->ys[i]?=some y,
  fun i H=>∃xs,SqT K H a xs/\xs.length<=i⟩
noncomputable def vZ (z TI TO i1 i2 l1 l2:Addr) (i:Nat) (h:Heap):Prop:=IsZip h z TI TO .none/\IsPair h TI (.ref i1) (.ref i2)/\(∃a b,IsPair h TO a b)/\h.IsTupleIter i1 l1 i/\h.IsTupleIter i2 l2 i
theorem rC {P:Program}{w:World}{K:PySem.W.Frag}{elts:List Expr}{x1}{pos:Pos} (z TI TO i1 i2 l1 l2:Addr) (D:ZipApart z TI TO i1 i2 l1 l2) :
  Turn P w K (.Tuple elts x1 pos) (Ity K l1 l2) [z,TI,TO,i1,i2] z (vZ z TI TO i1 i2 l1 l2) where
 mem:=by simp
 obj:=fun i h st b hb=>by
  obtain⟨hz,hTI,⟨a,c,hTO⟩,⟨o1,e1,c1,d1⟩,⟨o2,e2,c2,d2⟩⟩:=st
  simp only [List.mem_cons,List.not_mem_nil,or_false] at hb
  rcases hb with rfl | rfl | rfl | rfl | rfl
  ·exact⟨_,hz,fun v q=>by cases q⟩
  ·exact⟨_,hTI,fun v q=>by cases q⟩
  ·exact⟨_,hTO,fun v q=>by cases q⟩
  ·exact⟨_,e1,fun v q=>by rw [d1] at q;cases q⟩
  ·exact⟨_,e2,fun v q=>by rw [d2] at q;cases q⟩
 keep:=fun i h h' st k=>by
  obtain⟨hz,hTI,⟨a,c,hTO⟩,h1,h2⟩:=st
  exact⟨k z (by simp) _ hz,k TI (by simp) _ hTI,⟨a,c,k TO (by simp) _ hTO⟩,h1.at fun o e=>k i1 (by simp) o e,h2.at fun o e=>k i2 (by simp) o e⟩
 item:=by
  intro X hP hw hK hc i pins s σ H E I hf st hg
  subst hP hw hK
  obtain⟨xs,ys,x,y,hq1,hq2,hx,hy⟩:=hg
  obtain⟨hz,hTI,⟨a,c,hTO⟩,h1,h2⟩:=id st
  obtain⟨its1,rv1,p1,hz1⟩:=I.tuple hq1
  obtain⟨its2,rv2,p2,hz2⟩:=I.tuple hq2
  obtain⟨u1,hu1,ru1⟩:=rv1.get hx
  obtain⟨u2,hu2,ru2⟩:=rv2.get hy
  refine qW D hz hTI hTO h1 h2 (show s.heap.IsTuple l1 its1.toArray from p1) (show s.heap.IsTuple l2 its2.toArray from p2) (x:=u1) (y:=u2) (by simpa using hu1) (by simpa using hu2) fun h' a1 a2 a3 a4 a5 a6 a7=>?_
  refine⟨_,rfl,wpAny_letOwnedTupleGo_zip (s:={ s with heap:=h' }) a1 fun h'' z2 sb=>?_⟩
  have sb':=sb.extBut
  generalize hT:s.heap.objs.size=T at *
  have lt:∀{b:Addr}{o:Obj},s.heap.get? b=some o->b≠T:=fun {b o} e=>by rw [<- hT];exact Nat.ne_of_lt (Heap.lt_size e)
  have fresh:H T=none:=by rw [<- hT];exact I.hok.fresh (Nat.le_refl _)
  have hne:∀b∈[z,TI,TO,i1,i2],b≠T:=fun b hb=>by
   obtain⟨o1,e1,_⟩:=h1
   obtain⟨o2,e2,_⟩:=h2
   simp only [List.mem_cons,List.not_mem_nil,or_false] at hb
   rcases hb with rfl | rfl | rfl | rfl | rfl
   ·exact lt hz
   ·exact lt hTI
   ·exact lt hTO
   ·exact lt e1
   ·exact lt e2
  have I0:Inv X pins σ (upd H T (.tup [x,y])) { s with heap:=s.heap.push { cls:=.type "tuple",data:=.seq #[u1,u2] },toks:=s.toks }:=by
   subst hT
   exact I.laid (t':=s.toks) (fun b o q=>Heap.get?_push_of_some _ q) (Nat.le_refl _) ⟨by show 2<=sizeLine;decide,[u1,u2],.cons ru1 (.cons ru2 .nil),_,Heap.get?_push_size _ rfl,rfl,0,rfl⟩
  have up:∀b o,b∉[z,TI,TO,i1,i2]->(s.heap.push { cls:=.type "tuple",data:=.seq #[u1,u2] }).get? b=some o->h''.get? b=some o:=fun b o hb e=>by
   simp only [List.mem_cons,List.not_mem_nil,or_false,not_or] at hb
   rcases Heap.get?_push_cases e with ⟨e1,e2⟩ | e1
   ·subst e2
    rw [e1,hT]
    exact sb' _ _ (hne z (by simp)).symm a5
   ·exact sb' _ _ hb.1 (a7 b o hb.1 hb.2.2.1 hb.2.2.2.1 hb.2.2.2.2 e1)
  have I2:Inv X pins σ (upd H T (.tup [x,y])) { s with heap:=h'',toks:=s.toks }:=Inv.turnedS (s:={ s with heap:=s.heap.push { cls:=.type "tuple",data:=.seq #[u1,u2] },toks:=s.toks }) (t':=s.toks) (ch:=[z,TI,TO,i1,i2]) I0 up fun b hb=>by
   obtain⟨f0,f1⟩:=hf b hb
   exact⟨by rw [aj (hne b hb)];exact f0,f1⟩
  exact⟨.ref T,upd H T (.tup [x,y]),I2,rfl,⟨T,x,y,rfl,fresh,rfl,fun ws hw=>by rw [I.tuple_inj hw hq1];exact hx,fun ws hw=>by rw [I.tuple_inj hw hq2];exact hy⟩,
   ⟨z2,sb' _ _ D.TIz (a7 _ _ D.TIz D.TITO D.TIi1 D.TIi2 hTI),⟨_,_,sb' _ _ D.TOz a2⟩,a3.at fun o e=>sb' _ _ D.i1z e,a4.at fun o e=>sb' _ _ D.i2z e⟩,fun b hb=>by rw [aj (hne b hb)];exact (hf b hb).1⟩
 done:=by
  intro X hP hw hK hc i pins s σ H E I hf st hg
  subst hP hw hK
  obtain⟨xs,hq1,hx⟩:=hg
  obtain⟨hz,hTI,⟨a,c,hTO⟩,h1,h2⟩:=id st
  obtain⟨its1,rv1,p1,hz1⟩:=I.tuple hq1
  have hl1:=rv1.length
  refine uI (I.ok.hd hc) D hz hTI hTO h1 (show s.heap.IsTuple l1 its1.toArray from p1) (by simp;omega) fun h' hk=>⟨rfl,I.turnedS (t':=s.toks) (ch:=[z,TI,TO,i1,i2]) (fun b o hb e=>?_) hf⟩
  simp only [List.mem_cons,List.not_mem_nil,or_false,not_or] at hb
  exact hk b o hb.1 hb.2.2.1 hb.2.2.2.1 hb.2.2.2.2 e
 self:=fun _ _ _ _ _ st h=>wpAny_pyIter_zip st.1 h
section
variable {X:Cx}
noncomputable def iZt (K:PySem.W.Frag) (ta:TA):TI:=fun σ H R=>ta σ H fun vs H1=>∃a b xs ys,vs=[.ref a,.ref b]/\SqT K H1 a xs/\SqT K H1 b ys/\R (Ity K a b) H1
theorem uX {a b:Expr}{elts:List Expr}{x1}{tpos:Pos}{ta:TA}{p pos:Pos} (hg:Gl X "zip") (hm:X.mg "zip"=none) (ha:PA X [a,b] ta) (hs:starEach [a,b] X.env=[(false,eval a X.env),(false,eval b X.env)]:=by rfl) (hs2:starEach [b] X.env=[(false,eval b X.env)]:=by rfl) :
  PI X (.Tuple elts x1 tpos) (.Call (.Name "zip" p) [a,b] [] pos) (iZt X.K ta):=by
 intro pins s σ H R I h
 refine Call_ (cI I hg hm boot_zip (PyProof.Rows.callWith_type1 (thn (ha pos pins s σ H _ I h) fun us s1 ⟨vs,H1,I1,r1,q1⟩=>?_) (by rw [hs,hs2]) (by rw [hs2];rfl)))
 obtain⟨a',b',xs,ys,rfl,hq1,hq2,q⟩:=q1
 obtain⟨u1,u2,rfl,ra,rb⟩:=vals2 r1
 cases ra
 cases rb
 obtain⟨its1,rv1,p1,hz1⟩:=I1.tuple hq1
 obtain⟨its2,rv2,p2,hz2⟩:=I1.tuple hq2
 have l1:a' < s1.heap.objs.size:=by obtain⟨o,e,_⟩:=p1;exact Heap.lt_size e
 have l2:b' < s1.heap.objs.size:=by obtain⟨o,e,_⟩:=p2;exact Heap.lt_size e
 refine qL (show s1.heap.IsTuple a' its1.toArray from p1) (show s1.heap.IsTuple b' its2.toArray from p2) fun h' hz hTI hTO hi1 hi2 hsz hk=>?_
 refine wpAny_pyIter_zip hz ?_
 refine⟨_,[s1.heap.objs.size + 4,s1.heap.objs.size + 2,s1.heap.objs.size + 3,s1.heap.objs.size,s1.heap.objs.size + 1],_,_,H1,rfl,I1.kept (t':=s1.toks) hk,rC _ _ _ _ _ _ _ (zipApart_new l1 l2),⟨hz,hTI,⟨_,_,hTO⟩,hi1,hi2⟩,fun b hb=>?_,q⟩
 have hle:s1.heap.objs.size<=b:=by
  simp only [List.mem_cons,List.not_mem_nil,or_false] at hb
  rcases hb with rfl | rfl | rfl | rfl | rfl
  ·exact Nat.le_add_right _ _
  ·exact Nat.le_add_right _ _
  ·exact Nat.le_add_right _ _
  ·exact Nat.le_refl _
  ·exact Nat.le_add_right _ _
 exact I1.fpOk hle (I1.hok.fresh hle)
end
section
variable {prog:Program}{w:World}{A:Around}{E:Value->Shared->Prop}{s:Shared}
theorem rS {c d:Addr}{i ep:Nat}{o:Obj}{es:Array DictEntry}{Q:Option Value->Shared->Prop} (hi:s.heap.IsKeyIter c d i es.size ep) (ho:s.heap.get? d=some o) (hd:o.data=.dict es ep) (lt:i < es.size)
  (q:∀G,G.IsKeyIter c d (i + 1) es.size ep->Heap.SameBut c s.heap G->Q (some es[i].key) { s with heap:=G }):wpAny (model prog w) A (pyNext (.ref c)) Q E s:=by
 obtain⟨oc,e,cl,dc⟩:=id hi
 have own:Builtin.Dict_items.ownsTuple "dict_keyiterator"=false:=by decide
 unfold pyNext
 refine wpAny_bind (wpAny_attempt (wpAny_callSpecial?_slot (name:=Str.ofString "__next__") hi.typeIs F.slot_dict_keyiterator_next (wpAny_call_entry F.slot_dict_keyiterator_next hi.typeIs F.entry_dict_keyiterator_next ?_ (F.args_dict_keyiterator_next_1 _))))
 refine wpAny_bind (wpAny_pure (wpAny_bind (wpAny_bind ?_)))
 (first | refine wpAny_bind (wpAny_typeNameOfWhole_keyiter hi.typeIs (wpAny_pure (wpAny_bind (wpAny_fieldsOf e dc ?_)))) | refine wpAny_bind (wpAny_typeNameOf_keyiter hi.typeIs (wpAny_pure (wpAny_bind (wpAny_fieldsOf e dc ?_)))));simp only [own,Bool.false_eq_true,if_false]
 refine (show wpAny _ _ (if (Value.ref d == Value.none)=true then _ else _) _ _ s from ?_);rw [if_neg (show ¬ ((Value.ref d == Value.none)=true) from Bool.false_ne_true)]
 refine wpAny_bind (wpAny_pure (wpAny_bind (wpAny_dictEntries ho hd ?_)));rw [if_neg (by simp)]
 refine wpAny_bind (wpAny_pure (wpAny_bind (wpAny_dictEpoch ho hd ?_)));rw [if_neg (by simp)]
 refine wpAny_pure ?_;simp only [show ¬ ((i:Int) < 0) from by omega,if_false,Int.toNat_natCast,Array.getElem?_eq_getElem lt]
 refine wpAny_bind ?_;(first | refine wpAny_bind (wpAny_typeNameOfWhole_keyiter hi.typeIs (wpAny_pure (wpAny_bind (wpAny_isOneOf_keyiter hi.typeIs ?_)))) | refine wpAny_bind (wpAny_typeNameOf_keyiter hi.typeIs (wpAny_pure (wpAny_bind (wpAny_isOneOf_keyiter hi.typeIs ?_)))))
 refine (show wpAny _ _ (setField (.ref c) 1 (rawInt ((i:Int) + 1)) >>= _) _ _ s from wpAny_bind (wpAny_setField e dc (by simp) ?_))
 have hi2:(s.heap.update c (Obj.mapFields (·.setIfInBounds 1 (rawInt ((i:Int) + 1))))).IsKeyIter c d (i + 1) es.size ep:=⟨_,Heap.get?_update_self _ e (Obj.isFreed_of_fields (Obj.data_mapFields dc _)),(Obj.cls_mapFields ..).trans cl,by rw [Obj.data_mapFields dc];simp [rawInt]⟩
 refine wpAny_bind (wpAny_holding (wpAny_bind (wpAny_isOneOf_keyiter (s:={ s with heap:=s.heap.update c (Obj.mapFields (·.setIfInBounds 1 (rawInt ((i:Int) + 1)))) }) hi2.typeIs ?_)))
 exact (show wpAny _ _ (pure es[i].key) _ _ _ from wpAny_pure (wpAny_pure ⟨_,rfl,wpAny_pure (q _ hi2 (Heap.SameBut.update ..))⟩))
theorem t7 {c d:Addr}{i ep:Nat}{o:Obj}{es:Array DictEntry}{Q:Option Value->Shared->Prop} (hh:A.handled=none) (hi:s.heap.IsKeyIter c d i es.size ep) (ho:s.heap.get? d=some o) (hd:o.data=.dict es ep) (ge:es.size<=i)
  (q:∀G,Heap.ExtBut c s.heap G->Q none { s with heap:=G }):wpAny (model prog w) A (pyNext (.ref c)) Q E s:=by
 obtain⟨oc,e,cl,dc⟩:=id hi
 have own:Builtin.Dict_items.ownsTuple "dict_keyiterator"=false:=by decide
 unfold pyNext
 refine wpAny_bind (wpAny_attempt (wpAny_callSpecial?_slot (name:=Str.ofString "__next__") hi.typeIs F.slot_dict_keyiterator_next (wpAny_call_entry F.slot_dict_keyiterator_next hi.typeIs F.entry_dict_keyiterator_next ?_ (F.args_dict_keyiterator_next_1 _))))
 refine wpAny_bind (wpAny_pure (wpAny_bind (wpAny_bind ?_)))
 (first | refine wpAny_bind (wpAny_typeNameOfWhole_keyiter hi.typeIs (wpAny_pure (wpAny_bind (wpAny_fieldsOf e dc ?_)))) | refine wpAny_bind (wpAny_typeNameOf_keyiter hi.typeIs (wpAny_pure (wpAny_bind (wpAny_fieldsOf e dc ?_)))));simp only [own,Bool.false_eq_true,if_false]
 refine (show wpAny _ _ (if (Value.ref d == Value.none)=true then _ else _) _ _ s from ?_);rw [if_neg (show ¬ ((Value.ref d == Value.none)=true) from Bool.false_ne_true)]
 refine wpAny_bind (wpAny_pure (wpAny_bind (wpAny_dictEntries ho hd ?_)));rw [if_neg (by simp)]
 refine wpAny_bind (wpAny_pure (wpAny_bind (wpAny_dictEpoch ho hd ?_)));rw [if_neg (by simp)]
 refine wpAny_pure ?_;simp only [show ¬ ((i:Int) < 0) from by omega,if_false,Int.toNat_natCast,Array.getElem?_eq_none ge]
 refine wpAny_bind ?_;(first | refine wpAny_bind (wpAny_typeNameOfWhole_keyiter hi.typeIs (wpAny_pure ?_)) | refine wpAny_bind (wpAny_typeNameOf_keyiter hi.typeIs (wpAny_pure ?_)))
 refine (show wpAny _ _ (setField (.ref c) 0 .none >>= _) _ _ s from wpAny_bind (wpAny_setField e dc (by simp) (show wpAny _ _ (newExc (.type "StopIteration") [] >>= _) _ _ _ from wpAny_bind ?_)));simp only [newExc,newTuple]
 refine wpAny_bind (wpAny_newObj_type (wpAny_bind (m:=firstArgMember _ _) (wpAny_of_eq (a:=Value.none) (by first | rfl | (simp only [firstArgMember];rfl)) (wpAny_newObj_type ?_ (by size_fits)))) (by size_fits));simp only [raiseNew]
 refine wpAny_bind (wpAny_handled ?_);rw [show A.in1.handled=none from hh]
 refine wpAny_bind (wpAny_pure (wpAny_throw ?_));refine wpAny_bind (wpAny_isInstance (T:="StopIteration") (b:=true) ⟨_,Heap.get?_push_size _ rfl,rfl⟩ isSubtype_stop (wpAny_pure (q _ (((Heap.SameBut.update ..).extBut.push _).push _))))
theorem sL {d:Addr}{ep:Nat}{o:Obj}{es:Array DictEntry}{Q:Value->Shared->Prop} (nd:(d == sysModules)=false) (ho:s.heap.get? d=some o) (ex:o.ExactDict) (hd:o.data=.dict es ep)
  (q:Q (.ref s.heap.objs.size) { s with heap:=s.heap.push { cls:=.type "dict_keyiterator",data:=.fields #[.ref d,.int 0 0,.int es.size 0,.int ep 0] } }):wpAny (model prog w) A (pyIter (.ref d)) Q E s:=by
 have ty:s.TypeIs (.ref d) "dict":=⟨o,ho,ex.1⟩
 refine wpAny_pyIter_slot ty F.slot_dict_iter (wpAny_call_entry F.slot_dict_iter ty F.entry_dict_iter ?_ (F.args_dict_iter_1 _))
 unfold Builtin.«dict.__iter__»;refine wpAny_bind ?_;unfold Builtin.Dict.dictSlotNone
 refine wpAny_bind (wpAny_notOrdered_dict ty (show wpAny _ _ (pure (Value.ref d)) _ _ s from wpAny_pure (show wpAny _ _ (Builtin.Dict.showsAll d >>= _) _ _ s from ?_)));unfold Builtin.Dict.showsAll;rw [if_neg (by rw [nd];exact Bool.false_ne_true)]
 refine wpAny_bind (wpAny_pure (wpAny_bind (wpAny_dictEntries ho hd (wpAny_bind (wpAny_dictEpoch ho hd (wpAny_bind (wpAny_newObj_type (wpAny_pure ⟨_,rfl,"dict_keyiterator",_,⟨_,Heap.get?_push_size _ rfl,rfl⟩,F.slot_dict_keyiterator_next.lookup,?_⟩))))))))
 simpa [rawInt] using q
end
theorem Paired.at {α β:Type}{F:α->β->Prop}:∀{l:List α}{m:List β},Paired F l m->∀{i:Nat}{x:α},l[i]?=some x->∃y,m[i]?=some y/\F x y
 | _,_,.cons r t,0,x,h=>by simp at h;subst h;exact⟨_,rfl,r⟩
 | _,_,.cons r t,i + 1,x,h=>by simpa using Paired.at t (by simpa using h)
section
variable {X:Cx}{tg:Expr}
end
noncomputable def iH (H:Hp) (a:Addr) (y v:V) (H':Hp):Prop:=∃kvs k,H a=some (.dK kvs)/\y=kV k/\kvs.length < sizeLine/\H'=upd H a (.dK (putK kvs k v))
theorem oi {X:Cx}{pins:List (Addr×Obj)}{σ:St}{H H':Hp}{s:Shared}{a:Addr}{y v:V}{u r:Value}{A:Around}{E:Value->Shared->Prop}{Q:Unit->Shared->Prop} (I:Inv X pins σ H s) (g:iH H a y v H') (ry:RelV y u) (rv:RelV v r) (h:∀s',Inv X pins σ H' s'->Q () s') :
  wpAny (model X.prog X.w) A (dictSet a u r) Q E s:=by
 obtain⟨kvs,k,e,ey,l,eH⟩:=g
 subst ey eH
 obtain⟨z,hd,vs,rel,dd⟩:=iK I.hok e
 have hl:(putK kvs k v).length<=sizeLine:=by have:=e9 kvs k v;omega
 refine wpAny_dictSet_pairs (hsz:=by rw [<- rel.length];exact z) (dQ ry) dd fun h' dd' hs=>h _ ?_
 have he:∃q,h'.get? a=some q:=let ⟨q,_,_,hq,_⟩:=dd';⟨q,hq⟩
 exact fG I (by rw [e];exact True.intro) hs he (il hl hd (rel.put k rv) dd')
noncomputable def iP (D:Addr) (J:It) (g:TG) (tt:TT) (tk tv:TE) (σ':St) (fin:Hp->Prop) (H1:Hp):Prop :=
 ∃W:Nat->Nat->St->Hp->Prop,(∃m,W 0 m σ' H1)/\∀i m σ H,W i m σ H ->
  (J.stop i H/\fin H)\/(J.go i H/\∃Nx:St->Hp->Prop,(∀σ' H',Nx σ' H'->∃m',m' < m/\W (i + 1) m' σ' H') /\
   ∀x H',J.yld i H x H'->g x σ H' fun σ2 H2=>tt σ2 H2 fun b H3=>if b=true then tk σ2 H3 (fun y H4=>tv σ2 H4 fun v H5=>∃H6,iH H5 D y v H6/\Nx σ2 H6) else Nx σ2 H3)
section
variable {X:Cx}{scope:Scope}{N:List Str}{ix:List (Option Nat)}
variable {tg iter kx vx:Expr}{ifs:List Expr}{pos:Pos}{g:TG}{tt:TT}{tk tv:TE}
theorem qX (L:br X scope N ix) (hc:X.calm=true) (hg:∀C s0 H0 fp,PG (aB X scope N C s0 H0 fp) tg g) (ht:∀C s0 H0 fp,PTs (aB X scope N C s0 H0 fp) ifs tt) (hk:∀C s0 H0 fp,PE (aB X scope N C s0 H0 fp) kx tk) (hv:∀C s0 H0 fp,PE (aB X scope N C s0 H0 fp) vx tv)
  {pins:List (Addr×Obj)}{σ:St}{H1:Hp}{s1:Shared}{it:Addr}{fp:List Addr}{tn:Nat->Heap->Prop}{J:It}{fin:Addr->Hp->Prop}{E:Value->Shared->Prop}{RR:Value->Addr->Result->Shared->Prop}
  (I1:Inv X pins σ H1 s1) (T:Turn X.prog X.w X.K tg J fp it tn) (st:tn 0 s1.heap) (f1:∀b∈fp,bv X pins H1 b) (hW:∀D,H1 D=none->iP D J g tt tk tv (emb ix σ) (fin D) (upd H1 D (.dK [])))
  (hRR:∀D C s' m H',s'.heap.Ns C m->s'.os=s1.os->bv X pins H' C->(∀h',Heap.SameBut C s'.heap h'->Inv X pins σ H' { s' with heap:=h' })->fin D H'->RR (.ref D) C (.ok .next) s') :
  wpAny (model X.prog X.w) X.A newDict (fun acc s3=>wpAny (model X.prog X.w) X.A (newFunctionEnv scope X.env.globals (bu X.env scope.names []) [] X.env.qual none .none (some X.env)) (fun cenv s4 =>
   codeAny (model X.prog X.w) X.A (.compStart (.DictComp kx vx [⟨tg,iter,ifs,0⟩] scope pos) 0 (.ref it) acc { cenv with scope:=relabel scope X.env }) (RR acc cenv.locals) s4) E s3) E s1:=by
 have hb1:∀b∈fp,b < s1.heap.objs.size:=fun b hb=>by
  obtain⟨o,e,_⟩:=T.obj _ _ st b hb
  exact Heap.lt_size e
 have hDn:H1 s1.heap.objs.size=none:=I1.hok.fresh (Nat.le_refl _)
 obtain⟨W,⟨m0,w0⟩,turn⟩:=hW s1.heap.objs.size hDn
 refine wpAny_newObj_type (wpAny_newFunctionEnv L.nocell (by intro y hy;simp at hy) (fun h1 hns hsb=>?_) L.kind)
 dsimp only at hns hsb ⊢
 have I2:Inv X pins σ (upd H1 s1.heap.objs.size (.dK [])) { s1 with heap:=s1.heap.push { cls:=.type "dict",data:=.dict #[] },toks:=s1.toks } :=
  I1.laid (t':=s1.toks) (a:=s1.heap.objs.size) (o:=.dK []) (fun _ _ q=>Heap.get?_push_of_some _ q) (Nat.le_refl _) (ki s1.heap I1.big)
 have f2:∀b∈fp,bv X pins (upd H1 s1.heap.objs.size (.dK [])) b:=fun b hb=>by
  obtain⟨q0,q1⟩:=f1 b hb
  exact⟨by rw [aj (Nat.ne_of_lt (hb1 b hb))];exact q0,q1⟩
 have st2:tn 0 (s1.heap.push { cls:=.type "dict",data:=.dict #[] }):=T.keep _ _ _ st fun b _ o e=>Heap.get?_push_of_some _ e
 generalize hD:s1.heap.objs.size=D at *
 generalize hH2:upd H1 D (.dK [])=H2 at *
 generalize hG:s1.heap.push { cls:=.type "dict",data:=.dict #[] }=G at *
 have hGs:G.objs.size=D + 1:=by rw [<- hG,Heap.size_push,hD]
 generalize hCe:G.objs.size=C at *
 have kp:∀b o,G.get? b=some o->h1.get? b=some o:=fun b o e=>hsb.extBut b o (fun z=>by have:=Heap.lt_size e;rw [hCe] at this;exact absurd (z ▸ this) (Nat.lt_irrefl _)) (Heap.get?_push_of_some _ e)
 have I4:=mn L (tk:=s1.toks + ([]:List (Str×Value)).length) I2 (C:=C) (by show G.objs.size<=C;rw [hCe];exact Nat.le_refl _) f2 (fun b hb=>by show b < G.objs.size;rw [hCe,hGs];exact Nat.lt_succ_of_lt (hb1 b hb)) kp hns
 have st4:tn 0 h1:=T.keep _ _ _ st2 fun b _ o e=>kp b o e
 generalize hs2:({ s1 with heap:=G,toks:=s1.toks }:Shared)=s2 at I2 I4
 have hs2h:s2.heap=G:=by rw [<- hs2]
 have hs2o:s2.os=s1.os:=by rw [<- hs2]
 have stat:∀{H':Hp},(∀b∈fp,H' b=none)->∀b∈fp,bv (aB X scope N C s2 H2 fp) [] H' b:=fun {H'} hn b hb=>by
  have hlt:=hb1 b hb
  refine⟨hn b hb,fun z=>?_,fun z=>?_,.inl hb,fun x c e=>(f2 b hb).2.2.2.2.1 x c (ck e),fun p hq z=>?_⟩
  ·exact qS hlt hGs z
  ·exact (List.mem_cons.mp (I2.stkSub b z)).elim (f2 b hb).2.1 (f2 b hb).2.2.1
  ·have hq':p∈([]:List (Addr×Obj)):=by simpa [aB] using hq
   cases hq'
 have loop:∀s4:Shared,Inv (aB X scope N C s2 H2 fp) [] (emb ix σ) H2 s4->tn 0 s4.heap->codeAny (model X.prog X.w) X.A (.compLoop (.DictComp kx vx [⟨tg,iter,ifs,0⟩] scope pos) 0 (.ref it) (.ref D) (aB X scope N C s2 H2 fp).env) (RR (.ref D) C) s4:=by
  intro s4 I4' st4'
  refine sD (fun n s'=>∃i σ' H',Inv (aB X scope N C s2 H2 fp) [] σ' H' s'/\tn i s'.heap/\(∀b∈fp,H' b=none)/\W i n σ' H') ?_ m0 ⟨0,emb ix σ,H2,I4',st4',fun b hb=>(f2 b hb).1,w0⟩
  rintro n s' ⟨i,σ',H',I',st',fr',w'⟩
  rcases turn i n σ' H' w' with ⟨stop,qf⟩ | ⟨go,Nx,hN,step⟩
  ·refine thn (T.done (aB X scope N C s2 H2 fp) rfl rfl rfl hc i _ s' σ' H' _ I' (stat fr') st' stop) fun r s5 ⟨hr,I5⟩=>?_
   subst hr
   obtain⟨m5,hn5,_⟩:=I5.loc
   refine hRR D C s5 m5 H' hn5 (I5.os.trans hs2o) (I2.fpOk (by rw [hs2h,hCe];exact Nat.le_refl _) I5.free) (fun h' hs'=>?_) qf
   exact tU I2 f2 I5 (by rw [hs2h,hCe];exact Nat.le_refl _) fun b o hb e=>hs'.extBut b o hb e
  ·refine thn (T.item (aB X scope N C s2 H2 fp) rfl rfl rfl hc i _ s' σ' H' _ I' (stat fr') st' go) fun r s5 ⟨u,hr,h5⟩=>?_
   subst hr
   refine thn h5 fun _ s6 ⟨x,H6,I6,r6,y6,st6,fr6⟩=>?_
   have I6':=I6.pinned (stat fr6) (T.obj _ _ st6)
   refine thn (hg C s2 H2 fp _ s6 σ' H6 x u _ I6' r6 (step x H6 y6)) fun _ s7 ⟨σ7,H7,I7,q7⟩=>?_
   refine thn (ht C s2 H2 fp _ s7 σ7 H7 _ I7 q7) fun ok s8 ⟨H8,I8,q8⟩=>?_
   have back:∀{H9:Hp}{s9:Shared},Inv (aB X scope N C s2 H2 fp) ([]++dN fp s6.heap) σ7 H9 s9->tn (i + 1) s9.heap/\∀b∈fp,H9 b=none:=fun {H9 s9} I9=>by
    refine⟨T.keep _ _ _ st6 fun b hb o e=>(I9.pin (b,o) (List.mem_append_right _ (List.mem_append_right _ (dk hb e)))).1,fun b hb=>?_⟩
    obtain⟨o,e,d⟩:=T.obj _ _ st6 b hb
    exact (I9.pin (b,o) (List.mem_append_right _ (List.mem_append_right _ (dk hb e)))).2.1
   cases ok with
   | false =>
    rw [if_neg Bool.false_ne_true] at q8 ⊢
    obtain⟨m',hm,w8⟩:=hN _ _ q8
    obtain⟨st8,fr8⟩:=back I8
    exact⟨m',hm,i + 1,σ7,H8,I8.unpinned,st8,fr8,w8⟩
   | true =>
    rw [if_pos rfl] at q8 ⊢
    refine thn (hk C s2 H2 fp _ s8 σ7 H8 _ I8 q8) fun yv s9 ⟨y,H9,I9,r9,q9⟩=>?_
    refine thn (hv C s2 H2 fp _ s9 σ7 H9 _ I9 q9) fun xv s10 ⟨v,H10,I10,r10,H11,g11,q11⟩=>?_
    refine oi (X:=aB X scope N C s2 H2 fp) I10 g11 r9 r10 fun s11 I11=>?_
    obtain⟨m',hm,w11⟩:=hN _ _ q11
    obtain⟨st11,fr11⟩:=back I11
    exact⟨m',hm,i + 1,σ7,H11,I11.unpinned,st11,fr11,w11⟩
 have q:=loop _ I4 st4
 subst hs2
 exact codeAny_compStart_dict q (T.self _ 0 _ _ _ st4 q)
noncomputable def vH (wi:TI) (g:TG) (tt:TT) (tk tv:TE) (ix:List (Option Nat)):TE:=fun σ H Q=>wi σ H fun J H1=>∀D,H1 D=none->iP D J g tt tk tv (emb ix σ) (fun H'=>Q (.ref D) H') (upd H1 D (.dK []))
theorem uu {wi:TI} (L:br X scope N ix) (hc:X.calm=true) (hi:PI X tg iter wi) (hg:∀C s0 H0 fp,PG (aB X scope N C s0 H0 fp) tg g)
  (ht:∀C s0 H0 fp,PTs (aB X scope N C s0 H0 fp) ifs tt) (hk:∀C s0 H0 fp,PE (aB X scope N C s0 H0 fp) kx tk) (hv:∀C s0 H0 fp,PE (aB X scope N C s0 H0 fp) vx tv) (hs:∀x,foldedSetIterable iter X.env x=pure x:=by intro _;rfl) :
  PE X (.DictComp kx vx [⟨tg,iter,ifs,0⟩] scope pos) (vH wi g tt tk tv ix):=by
 intro pins s σ H Q I h
 show wpAny _ X.A (comprehension (.DictComp kx vx [⟨tg,iter,ifs,0⟩] scope pos) scope X.env _ newDict false (eval iter X.env)) _ _ s
 refine wpAny_comprehension_free (use:=none) rfl hs (L.clos I.ok) L.kind L.locals (thn (hi pins s σ H _ I h) fun v s1 h1=>thn h1 fun itv s2 h2=>?_)
 obtain⟨it,fp,tn,J,H2,rfl,I2,T,st2,f2,hW⟩:=h2
 refine qX (RR:=fun acc C=>compPost (model X.prog X.w) X.A X.xe none (EP X pins σ Q) acc C) L hc hg ht hk hv I2 T st2 f2 hW ?_
 intro D C s' m H' hn ho hC hI fin
 exact⟨m,hn,fun h' hs'=>⟨.ref D,_,hI h' hs',rfl,fin⟩⟩
end
noncomputable def iz:List (TE×TE)->St->Hp->(List (V×V)->Hp->Prop)->Prop
 | [],_,H,Q=>Q [] H
 | (tk,tv)::r,σ,H,Q=>tk σ H fun x H1=>tv σ H1 fun y H2=>iz r σ H2 fun ps H3=>Q ((x,y)::ps) H3
noncomputable abbrev VV:List (V×V)->List (Value×Value)->Prop:=Paired fun p q=>RelV p.1 q.1/\RelV p.2 q.2
noncomputable def PPs (X:Cx) (pos:Pos) (keys:List (Option Expr)) (values:List Expr) (trs:List (TE×TE)):Prop :=
 ∀(pins:List (Addr×Obj)) (s:Shared) (σ:St) (H:Hp) (Q:List (V×V)->Hp->Prop),Inv X pins σ H s->iz trs σ H Q ->
  wpAny (model X.prog X.w) X.A (evalPairs (pairTrees keys values X.env pos)) (fun vs s'=>∃ps H',Inv X pins σ H' s'/\VV ps vs/\Q ps H') X.xe s
theorem si {X:Cx}{pos:Pos}:PPs X pos [] [] []:=fun pins s σ H Q I h=>pairTrees_nil_walk ⟨[],H,I,.nil,h⟩
theorem pZ {X:Cx}{pos:Pos}{k v:Expr}{ks:List (Option Expr)}{vs:List Expr}{tk tv:TE}{trs:List (TE×TE)} (hk:PE X k tk) (hv:PE X v tv) (hr:PPs X pos ks vs trs) :
  PPs X pos (some k::ks) (v::vs) ((tk,tv)::trs):=fun pins s σ H Q I h =>
 pairTrees_cons_walk (thn (hk pins s σ H _ I h) fun u s1 ⟨x,H1,I1,rx,q1⟩=>thn (hv pins s1 σ H1 _ I1 q1) fun w2 s2 ⟨y,H2,I2,ry,q2⟩ =>
  thn (hr pins s2 σ H2 _ I2 q2) fun ws s3 ⟨ps,H3,I3,rel,q3⟩=>⟨(x,y)::ps,H3,I3,.cons ⟨rx,ry⟩ rel,q3⟩)
noncomputable def cK (kvs more:List (Key×V)):List (Key×V):=more.foldl (fun acc kv=>putK acc kv.1 kv.2) kvs
theorem KV.merge:∀{more:List (Key×V)}{rs:List (Key×Value)}{kvs:List (Key×V)}{vs:List (Key×Value)},KV more rs->KV kvs vs->KV (cK kvs more) (merged vs rs):=by
 intro more rs kvs vs r
 unfold KV at r
 induction r generalizing kvs vs with
 | nil=>intro q;exact q
 | @cons p q ps qs h t ih =>
  intro r0
  have e:KV (putK kvs p.1 p.2) (stored vs q.1 q.2):=by
   have:=r0.put p.1 h.2
   rw [<- h.1];exact this
  exact ih e
theorem i6:∀(more kvs:List (Key×V)),(cK kvs more).length<=kvs.length + more.length
 | [],kvs=>by show kvs.length<=kvs.length + 0;omega
 | p::r,kvs=>by
  have h1:=i6 r (putK kvs p.1 p.2)
  have h2:=e9 kvs p.1 p.2
  show (cK (putK kvs p.1 p.2) r).length<=_
  rw [List.length_cons];omega
theorem jd {P:Program}{w:World}:∀{kvs:List (Key×V)}{ws:List (Value×Value)},VV (kvs.map fun kv=>(kV kv.1,kv.2)) ws->∃rs,Carries (bB P w) ws rs/\KV kvs rs
 | [],_,r=>by rw [List.map_nil] at r;cases r;exact⟨[],True.intro,.nil⟩
 | p::kvs,_,r=>by
  rw [List.map_cons] at r
  cases r with
  | @cons a b as bs h t =>
   obtain⟨rs,c,q⟩:=jd (P:=P) (w:=w) t
   obtain⟨b1,b2⟩:=b
   exact⟨(p.1,b2)::rs,⟨dQ h.1,rfl,c⟩,.cons ⟨rfl,h.2⟩ q⟩
noncomputable def vf (trs:List (TE×TE)):TE:=fun σ H Q=>∀p,H p=none->iz trs σ (upd H p (.dK [])) fun ps H2=>H2 p=some (.dK [])/\∃kvs:List (Key×V),ps=kvs.map (fun kv=>(kV kv.1,kv.2))/\kvs.length<=15/\Q (.ref p) (upd H2 p (.dK (cK [] kvs)))
theorem rJ {X:Cx}{pos:Pos}{keys:List (Option Expr)}{values:List Expr}{trs:List (TE×TE)} (h:PPs X pos keys values trs) (hall:keys.all (·.isSome)=true) (hl:keys.length=values.length) (h0:keys≠[])
  (h15:keys.length<=15):PE X (.Dict keys values pos) (vf trs):=by
 intro pins s σ H Q I q
 have hn:=I.hok.fresh (Nat.le_refl s.heap.objs.size)
 have I1:=I.laid (a:=s.heap.objs.size) (o:=.dK []) (h':=s.heap.push { cls:=.type "dict",data:=.dict #[] }) (t':=s.toks) (fun _ _ q=>Heap.get?_push_of_some _ q) (Nat.le_refl _) (ki s.heap I.big)
 refine wpAny_Dict_walk (knd:=bB X.prog X.w) hall hl h0 h15 (thn (h pins _ σ _ _ I1 (q _ hn)) fun ws s2 ⟨ps,H2,I2,rel,e,kvs,ep,lk,q2⟩=>?_)
 subst ep
 obtain⟨rs,c,rk⟩:=jd (P:=X.prog) (w:=X.w) rel
 obtain⟨z,hd,vs0,r0,dd⟩:=iK I2.hok e
 cases r0
 refine⟨rs,c,dd,fun h' dd' hs=>⟨.ref s.heap.objs.size,_,?_,rfl,q2⟩⟩
 have hz:(cK [] kvs).length<=sizeLine:=by
  have h1:=i6 kvs []
  rw [List.length_nil] at h1
  rw [sizeLine_eq];omega
 have he:∃q,h'.get? s.heap.objs.size=some q:=let ⟨q,_,_,hq,_⟩:=dd';⟨q,hq⟩
 exact fG I2 (by rw [e];exact True.intro) hs he (il hz hd (rk.merge .nil) dd')
structure M1 (X:Cx) (o:Expr) (m:Str) (apos:Pos) (e:Expr) (cpos:Pos):Prop where
 base:attributeBase o m X.env (eval o X.env)=eval o X.env
 few:((backTo cpos (starEach [e] X.env)).all (fun x=>!x.1) && (backToKw cpos (keywordEach [] X.env)).all (fun x=>x.1.isSome)
  && decide (([e]:List Expr).length + ([]:List Keyword).length + (if ([]:List Keyword).isEmpty then 0 else 1) < 30))=true
 line:(apos.endLine == cpos.line)=true
 trees:backTo cpos (starEach [e] X.env)=[(false,eval e X.env)]
structure M2 (X:Cx) (o:Expr) (m:Str) (apos:Pos) (e f:Expr) (cpos:Pos):Prop where
 base:attributeBase o m X.env (eval o X.env)=eval o X.env
 few:((backTo cpos (starEach [e,f] X.env)).all (fun x=>!x.1) && (backToKw cpos (keywordEach [] X.env)).all (fun x=>x.1.isSome)
  && decide (([e,f]:List Expr).length + ([]:List Keyword).length + (if ([]:List Keyword).isEmpty then 0 else 1) < 30))=true
 line:(apos.endLine == cpos.line)=true
 trees:backTo cpos (starEach [e,f] X.env)=[(false,eval e X.env),(false,eval f X.env)]
section
variable {X:Cx}{pins:List (Addr×Obj)}{σ:St}{H:Hp}{s:Shared}{a:Addr}{y d:V}{u r:Value}{o:Option V}{A:Around}{E:Value->Shared->Prop}
end
section
variable {X:Cx}{o e f:Expr}{apos cpos:Pos}{td ty tx:TE}
end
section
variable {X:Cx}{pins:List (Addr×Obj)}{σ:St}{H:Hp}{s:Shared}{a:Addr}{kvs:List (Key×V)}{A:Around}{E:Value->Shared->Prop}
end
section
variable {X:Cx}{pins:List (Addr×Obj)}{σ:St}{H:Hp}{s:Shared}{a:Addr}{y:V}{u:Value}{A:Around}{E:Value->Shared->Prop}
end
section
variable {X:Cx}
theorem pB:bo X (.builtin "len") (fun xs H Q=>∃a kvs,xs=[V.ref a]/\H a=some (.dK kvs)/\Q (.int kvs.length) H):=by
 intro pins s σ H xs us Q I r h
 obtain⟨a,kvs,rfl,ha,q⟩:=h
 obtain⟨u,rfl,ru⟩:=vals1 r
 cases ru
 exact mE I (.inl ha) fun t s' I'=>⟨.int kvs.length,H,I',⟨t,rfl⟩,q⟩
end
section
variable {κ:Type} [DecidableEq κ]
end
end L2
namespace L2
open PySem PySem.Spec PyProof.Rows PySem.W PySem.Calls
section
variable {X:Cx}
end
section
variable {prog:Program}{w:World}{A:Around}{E:Value->Shared->Prop}{s:Shared}
end
section
variable {prog:Program}{w:World}{A:Around}{R:Result->Shared->Prop}{K:Type} [DecidableEq K] {knd:PySem.KeyKind prog w K}
end
section
variable {X:Cx}
end
end L2
namespace L2
open PySem PySem.Spec PyProof.Rows
noncomputable def Ite (K:PySem.W.Frag) (a:Addr):It :=
 ⟨fun i H=>∃xs x,SqL K H a xs/\xs[i]?=some x,
  fun i H v H'=>∃T x,v=.ref T/\H T=none/\H'=upd H T (.tup [.int i,x])/\∀xs,SqL K H a xs->xs[i]?=some x,
  fun i H=>∃xs,SqL K H a xs/\xs.length<=i⟩
noncomputable def tJ (e it l:Addr) (i:Nat) (h:Heap):Prop:=(∃old,IsEnum h e it i old)/\h.IsListIter it l i
theorem pC {P:Program}{w:World}{K:PySem.W.Frag}{elts:List Expr}{x1}{pos:Pos} (e it l:Addr) (hei:e≠it) :
  Turn P w K (.Tuple elts x1 pos) (Ite K l) [e,it] e (tJ e it l) where
 mem:=by simp
 obj:=fun i h st b hb=>by
  obtain⟨⟨old,he⟩,⟨o1,e1,c1,d1⟩⟩:=st
  simp only [List.mem_cons,List.not_mem_nil,or_false] at hb
  rcases hb with rfl | rfl
  ·exact⟨_,he,fun v q=>by cases q⟩
  ·exact⟨_,e1,fun v q=>by rw [d1] at q;cases q⟩
 keep:=fun i h h' st k=>by
  obtain⟨⟨old,he⟩,h1⟩:=st
  exact⟨⟨old,k e (by simp) _ he⟩,h1.at fun o q=>k it (by simp) o q⟩
 item:=by
  intro X hP hw hK hc i pins s σ H E I hf st hg
  subst hP hw hK
  obtain⟨xs,x,hq1,hx⟩:=hg
  obtain⟨⟨old,he⟩,h1⟩:=id st
  obtain⟨its1,rv1,p1,hz1⟩:=I.list hq1
  obtain⟨u1,hu1,ru1⟩:=rv1.get hx
  refine wpAny_pyNext_enum_item he h1 p1.isList (x:=u1) (by simpa using hu1) hei fun h' a1 a2 a3 a4 a5=>?_
  refine⟨_,rfl,wpAny_letOwnedTupleGo_enum (s:={ s with heap:=h',toks:=s.toks + 1 }) a1 fun h'' z2 sb=>?_⟩
  have sb':=sb.extBut
  generalize hT:s.heap.objs.size=T at *
  have lt:∀{b:Addr}{o:Obj},s.heap.get? b=some o->b≠T:=fun {b o} e=>by rw [<- hT];exact Nat.ne_of_lt (Heap.lt_size e)
  have fresh:H T=none:=by rw [<- hT];exact I.hok.fresh (Nat.le_refl _)
  have hne:∀b∈[e,it],b≠T:=fun b hb=>by
   obtain⟨o1,e1,_⟩:=h1
   simp only [List.mem_cons,List.not_mem_nil,or_false] at hb
   rcases hb with rfl | rfl
   ·exact lt he
   ·exact lt e1
  have I0:Inv X pins σ (upd H T (.tup [.int i,x])) { s with heap:=s.heap.push { cls:=.type "tuple",data:=.seq #[.int i s.toks,u1] },toks:=s.toks }:=by
   subst hT
   exact I.laid (t':=s.toks) (fun b o q=>Heap.get?_push_of_some _ q) (Nat.le_refl _) ⟨by show 2<=sizeLine;decide,[.int i s.toks,u1],.cons ⟨_,rfl⟩ (.cons ru1 .nil),_,Heap.get?_push_size _ rfl,rfl,0,rfl⟩
  have up:∀b o,b∉[e,it]->(s.heap.push { cls:=.type "tuple",data:=.seq #[.int i s.toks,u1] }).get? b=some o->h''.get? b=some o:=fun b o hb q=>by
   simp only [List.mem_cons,List.not_mem_nil,or_false,not_or] at hb
   rcases Heap.get?_push_cases q with ⟨e1,e2⟩ | e1
   ·subst e2
    rw [e1,hT]
    exact sb' _ _ (hne e (by simp)).symm a3
   ·exact sb' _ _ hb.1 (a5 b o hb.1 hb.2 e1)
  have I2:Inv X pins σ (upd H T (.tup [.int i,x])) { s with heap:=h'',toks:=s.toks + 1 }:=Inv.turnedS (s:={ s with heap:=s.heap.push { cls:=.type "tuple",data:=.seq #[.int i s.toks,u1] },toks:=s.toks }) (t':=s.toks + 1) (ch:=[e,it]) I0 up fun b hb=>by
   obtain⟨f0,f1⟩:=hf b hb
   exact⟨by rw [aj (hne b hb)];exact f0,f1⟩
  exact⟨.ref T,upd H T (.tup [.int i,x]),I2,rfl,⟨T,x,rfl,fresh,rfl,fun ws hw=>by rw [I.list_inj hw hq1];exact hx⟩,
   ⟨⟨_,by simpa using z2⟩,a2.at fun o q=>sb' _ _ hei.symm q⟩,fun b hb=>by rw [aj (hne b hb)];exact (hf b hb).1⟩
 done:=by
  intro X hP hw hK hc i pins s σ H E I hf st hg
  subst hP hw hK
  obtain⟨xs,hq1,hx⟩:=hg
  obtain⟨⟨old,he⟩,h1⟩:=id st
  obtain⟨its1,rv1,p1,hz1⟩:=I.list hq1
  have hl1:=rv1.length
  refine wpAny_pyNext_enum_end (I.ok.hd hc) he h1 p1.isList (by simp;omega) fun h' hk=>⟨rfl,I.turnedS (t':=s.toks) (ch:=[e,it]) (fun b o hb q=>?_) hf⟩
  simp only [List.mem_cons,List.not_mem_nil,or_false,not_or] at hb
  exact hk b o hb.2 q
 self:=fun _ _ _ _ _ st h=>by obtain⟨⟨old,he⟩,_⟩:=st;exact wpAny_pyIter_enum he h
theorem pf:bootBuiltins "enumerate"=some (.type "enumerate"):=by decide +kernel
section
variable {X:Cx}
noncomputable def uU (K:PySem.W.Frag) (ta:TA):TI:=fun σ H R=>ta σ H fun vs H1=>∃a xs,vs=[.ref a]/\SqL K H1 a xs/\R (Ite K a) H1
theorem fO {a:Expr}{elts:List Expr}{x1}{tpos:Pos}{ta:TA}{p pos:Pos} (hg:Gl X "enumerate") (hm:X.mg "enumerate"=none) (ha:PA X [a] ta) (hs:starEach [a] X.env=[(false,eval a X.env)]:=by rfl) :
  PI X (.Tuple elts x1 tpos) (.Call (.Name "enumerate" p) [a] [] pos) (uU X.K ta):=by
 intro pins s σ H R I h
 refine Call_ (cI I hg hm pf (PyProof.Rows.callWith_type1 (thn (ha pos pins s σ H _ I h) fun us s1 ⟨vs,H1,I1,r1,q1⟩=>?_) (by rw [hs];rfl) rfl))
 obtain⟨a',xs,rfl,hq1,q⟩:=q1
 obtain⟨u1,rfl,ra⟩:=vals1 r1
 cases ra
 obtain⟨its1,rv1,p1,hz1⟩:=I1.list hq1
 refine call_enumerate_list p1.isList fun h' he hit hsz hk=>?_
 refine wpAny_pyIter_enum he ?_
 refine⟨s1.heap.objs.size + 1,[s1.heap.objs.size + 1,s1.heap.objs.size],_,_,H1,rfl,I1.kept (t':=s1.toks) hk,pC _ _ _ (Nat.succ_ne_self _),⟨⟨_,he⟩,hit⟩,fun b hb=>?_,q⟩
 have hle:s1.heap.objs.size<=b:=by
  simp only [List.mem_cons,List.not_mem_nil,or_false] at hb
  rcases hb with rfl | rfl
  ·exact Nat.le_add_right _ _
  ·exact Nat.le_refl _
 exact I1.fpOk hle (I1.hok.fresh hle)
end
theorem qg {K:PySem.W.Frag}{g:TG}{te:TE}{σ':St}{fin:List V->Hp->Prop}{H1:Hp}{a:Addr}{xs:List V} (hn:xs.length < sizeLine) (Pv:Nat->List V->St->Hp->Prop) (h0:Pv 0 [] σ' H1)
  (hl:∀i zs σ H,i<=xs.length->Pv i zs σ H->zs.length<=i/\SqL K H a xs)
  (hs:∀i x zs σ H T,xs[i]?=some x->Pv i zs σ H->H T=none->g (.ref T) σ (upd H T (.tup [.int i,x])) fun σ2 H2=>te σ2 H2 (fun v H4=>Pv (i + 1) (zs++[v]) σ2 H4))
  (hd:∀zs σ H,Pv xs.length zs σ H->fin zs H):LcW (Ite K a) g bq te σ' fin H1:=by
 refine⟨fun i m zs σ H=>m=xs.length - i/\i<=xs.length/\Pv i zs σ H,⟨xs.length,by simp,Nat.zero_le _,h0⟩,?_⟩
 rintro i m zs σ H ⟨rfl,hi,p⟩
 obtain⟨q0,q1⟩:=hl i zs σ H hi p
 by_cases hlt:i < xs.length
 ·refine .inr ⟨⟨xs,xs[i],q1,by simp [hlt]⟩,by omega,fun zs' σ2 H2=>Pv (i + 1) zs' σ2 H2,fun zs' σ2 H2 q=>⟨xs.length - (i + 1),by omega,rfl,hlt,q⟩,fun v H' y=>?_⟩
  obtain⟨T,x,rfl,hT,rfl,e1⟩:=y
  simpa [bq] using hs i x zs σ H T (e1 xs q1) p hT
 ·have e:i=xs.length:=by omega
  subst e
  exact .inl ⟨⟨xs,q1,Nat.le_refl _⟩,by omega,hd zs σ H p⟩
end L2
namespace L2
open PySem PySem.Spec PyProof.Rows PySem.W PySem.Calls
section
variable {X:Cx}
end
noncomputable def iM:Value->Str
 | .str x _=>x
 | _=>default
structure wm (w:World) (o:Obj) (ss:List Str) (es:Array (Int×Value)) (ep:Nat) (t:SetTable):Prop where
 cls:o.cls=.type "set"
 dic:o.dict=none
 slo:o.slots=#[]
 dat:o.data=.set es ep t
 els:∀e∈es.toList,∃tk,e.2=.str (iM e.2) tk/\e.1=hashStr w (iM e.2)
 all:(es.toList.map fun e=>iM e.2).Perm ss
 one:ss.Nodup
 few:ss.length < 4000
 fit:t.fits es.size=true
 led:t.led=!w.params.followText "set-order"
 pla:es.size=0\/t.plain=false
section
variable {prog:Program}{w:World}{A:Around}{E:Value->Shared->Prop}{s:Shared}
end
section
variable {prog:Program}{w:World}{A:Around}{E:Value->Shared->Prop}{s:Shared}
end
section
variable {prog:Program}{w:World}{A:Around}{E:Value->Shared->Prop}{s:Shared}
end
end L2
set_option maxHeartbeats 8000000
namespace L2
open PySem PySem.Spec PyProof.Rows PySem.W PySem.Calls
section
variable {prog:Program}{w:World}{A:Around}{E:Value->Shared->Prop}{s:Shared}
end
noncomputable def vA (first:Value) (i:Nat) (a:Addr) (n ep:Nat):Array Value:=#[first,rawInt (i:Int),.ref a,rawInt (n:Int),rawInt (ep:Int)]
noncomputable def wB (h:Heap) (I:Addr) (first:Value) (i:Nat) (a:Addr) (n ep:Nat):Prop:=∃o,h.get? I=some o/\o.cls=.type "set_iterator"/\o.data=.fields (vA first i a n ep)
section
variable {prog:Program}{w:World}{A:Around}{E:Value->Shared->Prop}{s:Shared}
end
section
variable {prog:Program}{w:World}{A:Around}{E:Value->Shared->Prop}{s:Shared}
end
section
variable {prog:Program}{w:World}{A:Around}{E:Value->Shared->Prop}{s:Shared}
structure wg (prog:Program) (w:World) (A:Around) (s s₁:Shared) (a I:Addr) (ss:List Str) (fp:List Addr) (ws:List Value) (St:Nat->Heap->Prop):Prop where
 os:s₁.os=s.os
 gens:s₁.gens=s.gens
 toks:s₁.toks=s.toks
 keep:∀b o,s.heap.get? b=some o->s₁.heap.get? b=some o
 new:∀b∈fp,b=a\/s.heap.objs.size<=b
 newI:s.heap.objs.size<=I
 wk:Walks prog w A I fp [I] ss.length (fun i v=>ws[i]?=some v) St
 st:St 0 s₁.heap
 txt:∃ss',StrsAre ws ss'/\ss'.Perm ss
end
section
variable {prog:Program}{w:World}{A:Around}{E:Value->Shared->Prop}{s:Shared}
end
section
variable {prog:Program}{w:World}{A:Around}{E:Value->Shared->Prop}{s:Shared}
end
section
variable {prog:Program}{w:World}{A:Around}{E:Value->Shared->Prop}{s:Shared}
end
section
variable {X:Cx}
end
theorem pairs_at {P:Program}{w:World}:∀{es:List DictEntry}{kvs:List (Key×Value)},Pairs (bB P w) es kvs->∀{i:Nat}{p:Key×Value},kvs[i]?=some p->∃e,es[i]?=some e/\cN p.1 e.key=true
 | _,_,.cons h1 h2 t,0,p,h=>by
  simp at h
  subst h
  exact⟨_,rfl,h1⟩
 | _,_,.cons h1 h2 t,i + 1,p,h=>by simpa using pairs_at t (by simpa using h)
theorem sW {k:Key}{v:Value} (h:cN k v=true):RelV (kV k) v:=by
 rcases b7 h with ⟨i,t,rfl,rfl⟩ | ⟨x,t,rfl,rfl⟩
 ·exact⟨t,rfl⟩
 ·exact⟨t,rfl⟩
theorem Inv.freezeK {X:Cx}{pins:List (Addr×Obj)}{σ:St}{H:Hp}{s:Shared}{a:Addr}{o:Obj}{kvs:List (Key×V)} (I:Inv X pins σ H s) (e:H a=some (.dK kvs)) (ho:s.heap.get? a=some o):Inv X pins σ (upd H a (.frz o (.dK kvs))) s:=by
 have ne:∀b u,H b=some u->(∀k,u≠.dK k)->b≠a:=fun b u q n z=>by
  rw [z,e] at q
  cases q
  exact n _ rfl
 have st:∀{b:Addr}{u:HO},aA X.prog X.w H s.heap b u->aA X.prog X.w (upd H a (.frz o (.dK kvs))) s.heap b u:=fun x=>x.stay (fun _ _ _ q=>q) (fun b q=>by rw [aj (ne b _ q (by intro k z;cases z))];exact q) fun b xs q=>by rw [aj (ne b _ q (by intro k z;cases z))];exact q
 refine I.step (h':=s.heap) (g':=s.gens) (t':=s.toks) (d':=s.drawn) (ch:=[]) (fun _ z=>nomatch z) (fun b o _ _ _ q _=>q) (fun b o _ _ _ q _=>⟨o.slots,q⟩) (fun b o' _ q n=>?_) (fun b o _ q=>⟨o,q⟩) (fun b xs q=>?_) (fun b o u q=>?_) (fun b ps q=>?_) (fun m h=>h) (fun b u q=>?_) I.bare
 ·rw [aj (fun z=>by rw [z,e] at n;cases n)];exact n
 ·rw [aj (ne b _ q (by intro k z;cases z))];exact q
 ·rw [aj (ne b _ q (by intro k z;cases z))];exact q
 ·exact⟨#[],by rw [aj (ne b _ q (by intro k z;cases z)),q];simp⟩
 ·by_cases hb:b=a
  ·subst hb
   rw [ah] at q
   cases q
   exact⟨ho,st (I.hok b _ e)⟩
  ·rw [aj hb] at q
   exact st (I.hok b u q)
noncomputable def Itk (a:Addr) (o:Obj):It :=
 ⟨fun i H=>∃kvs,H a=some (.frz o (.dK kvs))/\i < kvs.length,
  fun i H v H'=>H'=H/\∀kvs,H a=some (.frz o (.dK kvs))->∃p,kvs[i]?=some p/\v=kV p.1,
  fun i H=>∃kvs,H a=some (.frz o (.dK kvs))/\kvs.length<=i⟩
theorem oa {P:Program}{w:World}{K:PySem.W.Frag}{tg:Expr} (a it:Addr) (o:Obj) (es:Array DictEntry) (ep:Nat) (hd:o.data=.dict es ep):Turn P w K tg (Itk a o) [it] it (fun i h=>h.IsKeyIter it a i es.size ep) where
 mem:=by simp
 obj:=fun i h st b hb=>by
  have e:b=it:=by simpa using hb
  subst e
  obtain⟨o,e,c,d⟩:=st
  exact⟨o,e,fun v z=>by rw [d] at z;cases z⟩
 keep:=fun i h h' st k=>st.at fun o e=>k it (by simp) o e
 item:=by
  intro X hP hw hK hc i pins s σ H E I hf st hg
  subst hP hw hK
  obtain⟨kvs,ha,lt⟩:=hg
  obtain⟨ho,_,_,vs,rel,o2,es2,ep2,h1,_,h2,_,h3,_⟩:=(show aA X.prog X.w H s.heap a (.frz o (.dK kvs)) from I.hok a _ ha)
  rw [ho] at h1
  cases h1
  rw [hd] at h2
  cases h2
  have hl:=Paired.length rel
  have hes:es.size=vs.length:=by rw [<- Array.length_toList];exact h3.length
  have lt2:i < es.size:=by omega
  obtain⟨p,hp⟩:∃p,kvs[i]?=some p:=⟨_,List.getElem?_eq_getElem lt⟩
  obtain⟨y,hy,r1,r2⟩:=Paired.at rel hp
  obtain⟨en,he,hk⟩:=pairs_at h3 hy
  have ek:es[i]=en:=by
   rw [Array.getElem?_toList,Array.getElem?_eq_getElem lt2] at he
   exact Option.some.inj he
  obtain⟨f0,f1,f2,f3,f4,f5⟩:=hf it (by simp)
  refine rS st ho hd lt2 fun h' st' sb=>?_
  rw [ek]
  have I1:Inv X pins σ H { s with heap:=h' }:=I.turned (t':=s.toks) (fun b o hb e=>(sb.2 b hb).trans e) f0 f1 f3 f4 f5
  obtain⟨o',e,c,d⟩:=id st'
  rw [<- r1] at hk
  exact⟨_,rfl,eU (s:={ s with heap:=h' }) e c d (by decide) ⟨kV p.1,H,I1,sW hk,⟨rfl,fun kvs' ha'=>by rw [ha] at ha';cases ha';exact⟨p,hp,rfl⟩⟩,st',fun b hb=>(hf b hb).1⟩⟩
 done:=by
  intro X hP hw hK hc i pins s σ H E I hf st hg
  subst hP hw hK
  obtain⟨kvs,ha,ge⟩:=hg
  obtain⟨ho,_,_,vs,rel,o2,es2,ep2,h1,_,h2,_,h3,_⟩:=(show aA X.prog X.w H s.heap a (.frz o (.dK kvs)) from I.hok a _ ha)
  rw [ho] at h1
  cases h1
  rw [hd] at h2
  cases h2
  have hl:=Paired.length rel
  have hes:es.size=vs.length:=by rw [<- Array.length_toList];exact h3.length
  obtain⟨f0,f1,f2,f3,f4,f5⟩:=hf it (by simp)
  exact t7 (I.ok.hd hc) st ho hd (by omega) fun h' eb=>⟨rfl,I.turned (t':=s.toks) (fun b o hb e=>eb b o hb e) f0 f1 f3 f4 f5⟩
 self:=fun _ _ _ _ _ st h=>wpAny_pyIter_keyiter st h
section
variable {X:Cx}{tg:Expr}
noncomputable def sQ (tl:TE):TI:=fun σ H R=>tl σ H fun x H1=>∃a kvs,x=.ref a/\H1 a=some (.dK kvs)/\∀o,R (Itk a o) (upd H1 a (.frz o (.dK kvs)))
theorem pU {l:Expr}{tl:TE} (hl:PE X l tl):PI X tg l (sQ tl):=by
 intro pins s σ H R I h
 refine thn (hl pins s σ H _ I h) fun v s1 ⟨x,H1,I1,r1,q1⟩=>?_
 obtain⟨a,kvs,rfl,ha,q⟩:=q1
 cases r1
 obtain⟨_,nd,vs,rel,o,es,ep,ho,ex,hd,_,h3,_⟩:=(show aA X.prog X.w H1 s1.heap a (.dK kvs) from I1.hok a _ ha)
 refine sL nd ho ex hd ?_
 have I2:=I1.freezeK ha ho
 refine⟨s1.heap.objs.size,[s1.heap.objs.size],_,_,_,rfl,I2.kept (t':=s1.toks) fun b o e=>Heap.get?_push_of_some _ e,oa a _ o es ep hd,⟨_,Heap.get?_push_size _ rfl,rfl,rfl⟩,fun b hb=>?_,q o⟩
 have e:b=s1.heap.objs.size:=by simpa using hb
 subst e
 exact I2.fpOk (Nat.le_refl _) (I2.hok.fresh (Nat.le_refl _))
end
theorem oY {g:TG}{tt:TT}{te:TE}{σ':St}{fin:List V->Hp->Prop}{H1:Hp}{a:Addr}{o:Obj}{kvs:List (Key×V)} (hn:kvs.length < sizeLine) (Pv:Nat->List V->St->Hp->Prop) (h0:Pv 0 [] σ' H1) (hl:∀i ys σ H,i<=kvs.length->Pv i ys σ H->ys.length<=i/\H a=some (.frz o (.dK kvs)))
  (hs:∀i p ys σ H,kvs[i]?=some p->Pv i ys σ H->g (kV p.1) σ H fun σ2 H2=>tt σ2 H2 fun b H3=>if b=true then te σ2 H3 (fun v H4=>Pv (i + 1) (ys++[v]) σ2 H4) else Pv (i + 1) ys σ2 H3) (hd:∀ys σ H,Pv kvs.length ys σ H->fin ys H) :
  LcW (Itk a o) g tt te σ' fin H1:=by
 refine⟨fun i m ys σ H=>m=kvs.length - i/\i<=kvs.length/\Pv i ys σ H,⟨kvs.length,by simp,Nat.zero_le _,h0⟩,?_⟩
 rintro i m ys σ H ⟨rfl,hi,p⟩
 obtain⟨q0,q1⟩:=hl i ys σ H hi p
 by_cases h:i < kvs.length
 ·refine .inr ⟨⟨kvs,q1,h⟩,by omega,fun ys' σ2 H2=>Pv (i + 1) ys' σ2 H2,fun ys' σ2 H2 q=>⟨kvs.length - (i + 1),by omega,rfl,h,q⟩,fun v H' y=>?_⟩
  obtain⟨rfl,y⟩:=y
  obtain⟨p',e1,rfl⟩:=y kvs q1
  exact hs i p' ys σ H' e1 p
 ·have e:i=kvs.length:=by omega
  subst e
  exact .inl ⟨⟨kvs,q1,Nat.le_refl _⟩,by omega,hd ys σ H p⟩
end L2
namespace L2
open PySem
section
variable {X:Cx}{scope:Scope}{N:List Str}{ix:List (Option Nat)}
variable {tg iter kx vx:Expr}{ifs:List Expr}{pos:Pos}{g:TG}{tt:TT}{tk tv:TE}
end
noncomputable def iOr (t u:TI):TI:=fun σ H R=>t σ H R\/u σ H R
theorem gj {X:Cx}{tg l:Expr}{t u:TI} (h1:PI X tg l t) (h2:PI X tg l u):PI X tg l (iOr t u):=fun pins s σ H R I h =>
 h.elim (h1 pins s σ H R I) (h2 pins s σ H R I)
theorem pY {K:PySem.W.Frag}{tl:TE}{g:TG}{tb:TS}{D:Ends}{σ:St}{H Hb:Hp}{a:Addr}{xs:List V} (htl:∀Q:VK,Q (.ref a) H->tl σ H Q) (hb:Hb a=some (.lst xs)\/Hb a=some (.tup xs)) (s0:ae Hb H) (Pv:Nat->St->Hp->Prop) (h0:Pv 0 σ H) (hl:∀i σ' H',i<=xs.length->Pv i σ' H'->ae Hb H')
  (hs:∀i x σ H,xs[i]?=some x->Pv i σ H->g x σ H fun σ2 H2=>tb { D with nx:=Pv (i + 1),ct:=Pv (i + 1),bk:=D.nx } σ2 H2) (hd:∀σ H,Pv xs.length σ H->D.nx σ H):m7 (iOr (gh K tl) (eZ K tl)) g tb D σ H:=by
 rcases hb with hb | hb
 ·exact .inl (htl _ ⟨a,rfl,⟨xs,SqL.of (s0 _ _ hb)⟩,kg Pv h0 (fun i σ H' hi p=>SqL.of (hl i σ H' hi p _ _ hb)) hs hd⟩)
 ·exact .inr (htl _ ⟨a,rfl,⟨xs,SqT.of (s0 _ _ hb)⟩,dG Pv h0 (fun i σ H' hi p=>SqT.of (hl i σ H' hi p _ _ hb)) hs hd⟩)
theorem rA {K:PySem.W.Frag}{tl:TE}{g:TG}{tt:TT}{te:TE}{ix:List (Option Nat)}{Q:VK}{σ:St}{H Hb:Hp}{a:Addr}{xs:List V} (hn:xs.length < sizeLine) (htl:∀Q:VK,Q (.ref a) H->tl σ H Q) (hb:Hb a=some (.lst xs)\/Hb a=some (.tup xs)) (s0:ae Hb H) (Pv:Nat->List V->St->Hp->Prop) (h0:Pv 0 [] (emb ix σ) H)
  (hl:∀i ys σ' H',i<=xs.length->Pv i ys σ' H'->ys.length<=i/\ae Hb H')
  (hs:∀i x ys σ H,xs[i]?=some x->Pv i ys σ H->g x σ H fun σ2 H2=>tt σ2 H2 fun b H3=>if b=true then te σ2 H3 (fun v H4=>Pv (i + 1) (ys++[v]) σ2 H4) else Pv (i + 1) ys σ2 H3)
  (hd:∀ys σ H,Pv xs.length ys σ H->∀p,H p=none->Q (.ref p) (upd H p (.lst ys))):tLc (iOr (gh K tl) (eZ K tl)) g tt te ix σ H Q:=by
 rcases hb with hb | hb
 ·exact .inl (htl _ ⟨a,rfl,⟨xs,SqL.of (s0 _ _ hb)⟩,eA hn Pv h0 (fun i ys σ H' hi p=>⟨(hl i ys σ H' hi p).1,SqL.of ((hl i ys σ H' hi p).2 _ _ hb)⟩) hs hd⟩)
 ·exact .inr (htl _ ⟨a,rfl,⟨xs,SqT.of (s0 _ _ hb)⟩,eK hn Pv h0 (fun i ys σ H' hi p=>⟨(hl i ys σ H' hi p).1,SqT.of ((hl i ys σ H' hi p).2 _ _ hb)⟩) hs hd⟩)
end L2
namespace L2
open PySem PySem.Spec PyProof.Rows
open AutoSeq1 (wpAny_loadPart')
section
variable {prog:Program}{w:World}{A:Around}{E:Value->Shared->Prop}{s:Shared}
end
section
variable {X:Cx}
end
end L2
namespace L2
open PySem
end L2
namespace K83
open PySem L2
noncomputable def top (i:Nat):Stmt:=PySem.Challenge.pw_rootshares_k83_whole_list_of_all_trees.main.body.getD i (.Pass ⟨0,0,0,0⟩)
theorem cD:bootBuiltins "isinstance"=some (.builtin "isinstance"):=by decide +kernel
theorem fZ:bootBuiltins "all"=some (.builtin "all"):=by decide +kernel
theorem fk:bootBuiltins "sorted"=some (.builtin "sorted"):=by decide +kernel
theorem fT:bootBuiltins "repr"=some (.builtin "repr"):=by decide +kernel
theorem mP:bootBuiltins "max"=some (.builtin "max"):=by decide +kernel
theorem uO:bootBuiltins "min"=some (.builtin "min"):=by decide +kernel
theorem iG:bootBuiltins "str"=some (.type "str"):=by decide +kernel
theorem bY:bootBuiltins "tuple"=some (.type "tuple"):=by decide +kernel
theorem lX:bootBuiltins "list"=some (.type "list"):=by decide +kernel
structure Bl (mg:Str->Option Value):Prop where
 len:mg "len"=none
 isinstance:mg "isinstance"=none
 all:mg "all"=none
 range:mg "range"=none
 sorted:mg "sorted"=none
 repr:mg "repr"=none
 max:mg "max"=none
 min:mg "min"=none
 str:mg "str"=none
 tuple:mg "tuple"=none
 list:mg "list"=none
 int:mg "int"=none
 bool:mg "bool"=none
 zip:mg "zip"=none
 divmod:mg "divmod"=none
 abs:mg "abs"=none
 set:mg "set"=none
 enumerate:mg "enumerate"=none
 dict:mg "dict"=none
 most:∃t,mg "MOST_LISTED"=some (.int 100 t)
 lng:∃t,mg "LONGEST_NAME"=some (.int 8 t)
noncomputable def Fn (P:Program) (w:World) (K:PySem.W.Frag) (mg:Str->Option Value) (base:Heap) (k:Nat) (x:Str) (ps:List Str) (sp:Sp):Prop :=
 ∃f fd,mg x=some (.ref f)/\PySem.W.keepIn K (.ref f)=true/\Binds K fd ps []/\aG P w K mg base CX0 k f fd ps sp
theorem av {X:Cx}{k:Nat}{x:Str}{ps:List Str}{sp:Sp}{e:Expr}{es:List Expr}{t:TA}{p pos:Pos} (F:Fn X.prog X.w X.K X.mg X.base k x ps sp) (hr:aL k X.A) (ha:PA X (e::es) t) (hg:Gl X x:=by rfl)
  (hdb:(x == ("__debug__":Str))=false:=by decide) (he:starEach (e::es) X.env=(false,eval e X.env)::starEach es X.env:=by rfl) (hpl:(backTo pos (starEach es X.env)).any (·.1)=false:=by rfl) :
  PE X (.Call (.Name x p) (e::es) [] pos) (mw sp [] E0 t):=by
 obtain⟨f,fd,h1,h2,h3,h4⟩:=F
 exact rB h4 hr hg h1 h2 h3 .nil vd ha hdb he hpl
theorem aW {X:Cx}{scope:Scope}{N:List Str}{C:Addr}{s0:Shared}{H0:Hp}{fp:List Addr}{x:Str}{pos:Pos} (i:Nat) (hN:N.Nodup) (hi:N[i]?=some x) (hx:scope.names.lookup x=some .local) :
  PG (aB X scope N C s0 H0 fp) (.Name x pos) (bM i) :=
 be (X:=aB X scope N C s0 H0 fp) hN hi (.inl (lookup_relabel_local hx)) (.inr (lookup_relabel_local hx))
theorem iV {c A B:Prop} [Decidable c] (hc:c) (h:A):if decide c=true then A else B:=by
 rw [decide_eq_true hc];exact bJ h
theorem mG {c A B:Prop} [Decidable c] (hc:¬ c) (h:B):if decide c=true then A else B:=by
 rw [decide_eq_false hc];exact bE h
theorem va {c A B:Prop} [Decidable c] (hc:¬ c) (h:A):if (!decide c)=true then A else B:=by
 rw [decide_eq_false hc];exact bJ h
theorem lt1 (a b:Nat):([a] < [b]) ↔ a < b:=by rw [List.cons_lt_cons_iff];simp
structure aJ (x:Str):Prop where
 lo:1<=x.length
 hi:x.length<=8
 az:∀c∈x.cps.toList,97<=c/\c<=122
theorem aJ.fits {x:Str} (h:aJ x):x.length < sizeLine:=by have:=h.hi;rw [sizeLine_eq];omega
theorem aJ.ascii {x:Str} (h:aJ x):x.cps.all (· < 128)=true:=by
 rw [Array.all_eq_true']
 intro c hc
 have:=h.az c (by simpa using hc)
 simp;omega
section
variable {P:Program}{w:World}{K:PySem.W.Frag}{mg:Str->Option Value}{base:Heap}
noncomputable def iD:Sp:=fun vs H Q _=>∃x,vs=[.str x]/\aJ x/\∀H',ae H H'->Q (.bl true) H'
theorem sc7:aQ ["thing"] ["thing"] (aC (top 7)):=⟨rfl,rfl,rfl,by decide +kernel,rfl,by decide +kernel,by decide +kernel⟩
theorem am {H H':Hp}{p:Addr}{o:HO} (h:ae H H') (hp:H' p=none):ae H (upd H' p o):=fun b ob e=>by
 rw [aj (aI (h b ob e) hp)];exact h b ob e
theorem oz {f:Addr}{fd:FuncData} (F:Fun K "is_name" "is_name" (top 7) f fd) (B:Bl mg):aG P w K mg base CX0 1 f fd ["thing"] iD:=by
 refine F.ok sc7 (fun vs H Q E h=>?_) (fun cdv A outer s H vs Q E hr h=>?_)
 ·obtain⟨x,rfl,_⟩:=h
  rfl
 ·obtain⟨x,rfl,hx,k⟩:=h
  obtain⟨tl,hl⟩:=B.lng
  refine⟨_,ao (aY (PW.pt (dg (bZ (bV (aD (cU (T:="str")) rfl B.isinstance cD (aa (pv 0) (aa (cY (v:=.ty "str") rfl B.str iG rfl) ag)))))
    (dM (bZ (pQ mR mR ai (aD nI rfl B.len PySem.boot_len (aa (pv 0) ag)) (fJ (v:=.int 8) rfl hl ⟨_,rfl⟩)))))) (ar (aO df)) a9)
   (ar (aO (aD (fh rfl) rfl B.all fZ (aa (bC (N:=["letter"]) (ix:=[none]) ⟨rfl,rfl,rfl,by decide⟩ rfl (uA (pv 0)) (fun _ _ _ _=>aW 0 (by decide) rfl rfl) (fun _ _ _ _=>bw)
    (fun _ _ _ _=>pI jn jn bb (pv 0) bb)) ag)))),?_⟩
  refine⟨_,rfl,_,_,true,rfl,.str x,?kit,true,rfl,bE ?_⟩
  case kit=>rfl
  refine⟨_,rfl,x,rfl,Nat.le_of_lt hx.fits,_,_,rfl,rfl,_,rfl,iV (by have:=hx.lo;omega) ⟨_,_,rfl,rfl,_,rfl,?_⟩⟩
  refine gg (by have:=hx.hi;omega) ?_
  refine⟨_,rfl,x,rfl,hx.ascii,qu hx.fits (fun i ys σ H1=>ys=List.replicate i (.bl true)/\ae H H1/\∃v,σ=[v]) ⟨rfl,ae.refl _,_,rfl⟩ (fun i ys σ H1 _ q=>by rw [q.1];simp) ?_ ?_⟩
  ·rintro i c ys σ H1 hc ⟨rfl,hs,v,rfl⟩
   have hcm:=hx.az c (Array.mem_toList_iff.mpr (Array.mem_of_getElem? hc))
   refine⟨_,rfl,_,_,rfl,rfl,_,rfl,va ?_ ⟨_,_,rfl,rfl,?_,hs,_,rfl⟩⟩
   ·show ¬ ([c] < [97])
    rw [lt1];omega
   ·have e:(!decide ([122] < [c]))=true:=by rw [decide_eq_false (by rw [lt1];omega)];rfl
    show _++[V.bl (!decide ([122] < [c]))]=_
    rw [e,List.replicate_succ']
  ·rintro ys σ H1 ⟨rfl,hs,v,rfl⟩ p hp
   refine⟨p,List.replicate x.length true,rfl,SqL.of (by rw [ah,List.map_replicate]),?_⟩
   have e:(List.replicate x.length true).all id=true:=by simp
   rw [e]
   exact k _ (am hs hp)
end
theorem bK (K:PySem.W.Frag) {X:Cx} (h:X.K=K:=by rfl):IxR X (rIx K):=by subst h;exact aP
theorem eM {α:Type}{xs:List α}{z:Int}{j:Nat}{v:α} (hz:z=(j:Int)) (h:xs[j]?=some v):atI xs z=some v:=by subst hz;exact qV h
noncomputable def Sq (K:PySem.W.Frag) (H:Hp) (p:Addr) (xs:List V):Prop:=SqL K H p xs\/SqT K H p xs
theorem eB {K:PySem.W.Frag}{H H':Hp}{a:Addr}{xs:List V} (e:ae H H') (h:SqT K H a xs):SqT K H' a xs:=by
 rcases h with (h | ⟨o,h⟩) | h
 ·exact .inl (.inl (e _ _ h))
 ·exact .inl (.inr ⟨o,e _ _ h⟩)
 ·exact .inr h
theorem Sq.same {K:PySem.W.Frag}{H H':Hp}{a:Addr}{xs:List V} (h:Sq K H a xs) (e:ae H H'):Sq K H' a xs:=h.imp (fun z=>e.seq z) fun z=>eB e z
theorem ay {K:PySem.W.Frag}{H:Hp}{p:Addr}{xs:List V}{z:Int}{j:Nat}{v:V}{Q:VK} (h:Sq K H p xs) (hz:z=(j:Int)) (hx:xs[j]?=some v) (q:Q v H):rIx K (.ref p) (.int z) H Q :=
 h.elim (fun h=>.inl ⟨p,xs,z,v,rfl,rfl,h,eM hz hx,q⟩) fun h=>.inr (.inl ⟨p,xs,z,v,rfl,rfl,h,eM hz hx,q⟩)
theorem fits {n:Nat} (h:n<=1000):n < sizeLine:=o6 h
theorem strAt {ss:List Str}{i:Nat} (h:i < ss.length):(ss.map V.str)[i]?=some (.str ss[i]):=by rw [List.getElem?_map,List.getElem?_eq_getElem h];rfl
theorem rR (x:Str) (ss:List Str):inV (.str x) (ss.map V.str)=decide (x∈ss):=by
 unfold inV
 rw [List.any_map]
 rw [Bool.eq_iff_iff,List.any_eq_true,decide_eq_true_iff]
 constructor
 ·rintro⟨y,hy,e⟩
  have e':y=x:=by simpa [eqV] using e
  exact e' ▸ hy
 ·intro h
  exact⟨x,h,by simp [eqV]⟩
theorem o9 (ss:List Str):(ss.map V.str).all cx=true:=by
 rw [List.all_map,List.all_eq_true]
 intro y _
 rfl
noncomputable abbrev Row:=Str×Str×Str
noncomputable def bh (H:Hp) (p:Addr) (r:Row):Prop:=H p=some (.tup [.str r.1,.str r.2.1,.str r.2.2])
noncomputable abbrev aq (rs:List (Addr×Row)):List V:=rs.map fun r=>V.ref r.1
structure bH (H:Hp) (v pa ra:Addr) (ps:List Str) (rs:List (Addr×Row)):Prop where
 tp:H v=some (.tup [.ref pa,.ref ra])
 pl:H pa=some (.tup (ps.map V.str))
 rl:H ra=some (.tup (aq rs))
 rows:∀r∈rs,bh H r.1 r.2
structure Good (ps:List Str) (rs:List Row):Prop where
 ne:ps≠[]
 nm:∀x∈ps,aJ x
 so:ps.Pairwise nlt
 rn:∀r∈rs,aJ r.1/\r.2.1∈ps/\r.2.2∈ps/\r.2.1≠r.2.2
 rso:(rs.map (·.1)).Pairwise nlt
 pz:ps.length<=100
 rz:rs.length<=60
theorem bH.same {H H':Hp}{v pa ra:Addr}{ps:List Str}{rs:List (Addr×Row)} (h:bH H v pa ra ps rs) (e:ae H H'):bH H' v pa ra ps rs :=
 ⟨e _ _ h.tp,e _ _ h.pl,e _ _ h.rl,fun r hr=>e _ _ (h.rows r hr)⟩
section
variable {P:Program}{w:World}{K:PySem.W.Frag}{mg:Str->Option Value}{base:Heap}
noncomputable def gH (K:PySem.W.Frag):Sp:=fun vs H Q _=>∃(p:Addr) (ss:List Str),vs=[.ref p]/\Sq K H p (ss.map V.str)/\ss.Pairwise nlt/\ss.length<=1000/\∀H',ae H H'->Q (.bl true) H'
theorem sc8:aQ ["names"] ["names"] (aC (top 8)):=⟨rfl,rfl,rfl,by decide +kernel,rfl,by decide +kernel,by decide +kernel⟩
theorem nK {f:Addr}{fd:FuncData} (F:Fun K "is_rising" "is_rising" (top 8) f fd) (B:Bl mg):aG P w K mg base CX0 1 f fd ["names"] (gH K):=by
 refine F.ok sc8 (fun vs H Q E h=>?_) (fun cdv A outer s H vs Q E hr h=>?_)
 ·obtain⟨p,ss,rfl,_⟩:=h
  rfl
 ·obtain⟨p,ss,rfl,hq,hp,hz,k⟩:=h
  refine⟨_,ar (aO (aD (fh rfl) rfl B.all fZ (aa (bC (N:=["at","names"]) (ix:=[none,some 0]) ⟨rfl,rfl,rfl,by decide⟩ rfl
   (pj rfl B.range (aa ai (aa (aD bA rfl B.len PySem.boot_len (aa (pv 0) ag)) ag))) (fun _ _ _ _=>aW 0 (by decide) rfl rfl) (fun _ _ _ _=>bw)
   (fun _ _ _ _=>dE oZ (ax (bK K) (pv 1) (aH ir (pv 0) ai) (fun _ _=>rfl)) (ax (bK K) (pv 1) (pv 0) (fun _ _=>rfl)) (aN _))) ag))),?_⟩
  have hz':(ss.map V.str).length<=1000:=by simpa using hz
  refine⟨_,rfl,p,ss.map V.str,rfl,hq,1,_,rfl,⟨by decide,by decide,by omega,by omega⟩,fc (fits (by omega)) (fun i ys σ H1=>ys=List.replicate i (.bl true)/\ae H H1/\∃v,σ=[v,some (.ref p)])
   ⟨rfl,ae.refl _,_,rfl⟩ (fun i ys σ H1 _ q=>by rw [q.1];simp) ?_ ?_⟩
  ·rintro i ys σ H1 hi ⟨rfl,hs,v,rfl⟩
   have hl:i + 1 < ss.length:=by rw [List.length_map] at hi;omega
   refine⟨_,rfl,_,rfl,_,_,rfl,rfl,ay (j:=i) (hq.same hs) (by omega) (strAt (by omega)) ⟨_,rfl,_,rfl,ay (j:=i + 1) (hq.same hs) (by push_cast;omega) (strAt hl) ⟨_,_,rfl,rfl,?_,hs,_,rfl⟩⟩⟩
   have e:ss[i].cps.toList < ss[i + 1].cps.toList:=List.pairwise_iff_getElem.mp hp i (i + 1) (by omega) hl (by omega)
   show _++[V.bl (decide (ss[i].cps.toList < ss[i + 1].cps.toList))]=_
   rw [decide_eq_true e,List.replicate_succ']
  ·rintro ys σ H1 ⟨rfl,hs,v,rfl⟩ q hqn
   refine⟨q,List.replicate _ true,rfl,SqL.of (by rw [ah,List.map_replicate]),?_⟩
   have e:∀n:Nat,(List.replicate n true).all id=true:=by simp
   rw [e]
   exact k _ (am hs hqn)
noncomputable def kn:Sp:=fun vs H Q _=>∃(p:Addr) (ss:List Str),vs=[.ref p]/\H p=some (.tup (ss.map V.str))/\(∀x∈ss,aJ x)/\ss.Pairwise nlt/\ss.length<=1000/\∀H',ae H H'->Q (.bl true) H'
theorem sc9:aQ ["thing"] ["thing"] (aC (top 9)):=⟨rfl,rfl,rfl,by decide +kernel,rfl,by decide +kernel,by decide +kernel⟩
theorem nE {f:Addr}{fd:FuncData} (F:Fun K "is_sorted_names" "is_sorted_names" (top 9) f fd) (B:Bl mg) (F1:Fn P w K mg base 1 "is_name" ["thing"] iD) (F2:Fn P w K mg base 1 "is_rising" ["names"] (gH K)) :
  aG P w K mg base CX0 2 f fd ["thing"] kn:=by
 refine F.ok sc9 (fun vs H Q E h=>?_) (fun cdv A outer s H vs Q E hr h=>?_)
 ·obtain⟨p,ss,rfl,_⟩:=h
  rfl
 ·obtain⟨p,ss,rfl,hp,hn,hs,hz,k⟩:=h
  refine⟨_,ao (aY (bZ (bV (aD (cU (T:="tuple")) rfl B.isinstance cD (aa (pv 0) (aa (cY (v:=.ty "tuple") rfl B.tuple bY rfl) ag))))) (ar (aO df)) a9)
   (ar (aO (dJ (aD (fh rfl) rfl B.all fZ (aa (bC (N:=["name"]) (ix:=[none]) ⟨rfl,rfl,rfl,by decide⟩ rfl (bP (pv 0)) (fun _ _ _ _=>aW 0 (by decide) rfl rfl) (fun _ _ _ _=>bw)
    (fun _ _ _ _=>av F1 hr (aa (pv 0) ag))) ag)) (fX (av F2 hr (aa (pv 0) ag)))))),?_⟩
  refine⟨_,rfl,_,_,true,rfl,.tup hp,rfl,true,rfl,bE ?_⟩
  refine⟨_,rfl,p,rfl,⟨_,SqT.of hp⟩,gI (xs:=ss.map V.str) (fits (by simpa using hz)) (fun i ys σ H1=>ys=List.replicate i (.bl true)/\ae H H1/\∃v,σ=[v]) ⟨rfl,ae.refl _,_,rfl⟩
   (fun i ys σ H1 _ q=>⟨by rw [q.1];simp,eB q.2.1 (SqT.of hp)⟩) ?_ ?_⟩
  ·rintro i x ys σ H1 hx ⟨rfl,hs1,v,rfl⟩
   obtain⟨y,hy,rfl⟩:∃y∈ss,x=V.str y:=by
    obtain⟨y,e1,e2⟩:=List.mem_map.mp (List.mem_of_getElem? hx)
    exact⟨y,e1,e2.symm⟩
   exact⟨_,rfl,y,rfl,hn y hy,fun H2 hs2=>⟨by rw [List.replicate_succ'],hs1.trans hs2,_,rfl⟩⟩
  ·rintro ys σ H1 ⟨rfl,hs1,v,rfl⟩ q hqn
   refine⟨q,List.replicate _ true,rfl,SqL.of (by rw [ah,List.map_replicate]),_,rfl,?_⟩
   have e:∀n:Nat,(List.replicate n true).all id=true:=by simp
   rw [e]
   have hs2:=am (o:=.lst (List.replicate (ss.map V.str).length (.bl true))) hs1 hqn
   exact bJ ⟨_,rfl,p,ss,rfl,.inr (eB hs2 (SqT.of hp)),hs,hz,fun H3 hs3=>k _ (hs2.trans hs3)⟩
noncomputable def gP (K:PySem.W.Frag):Sp:=fun vs H Q _=>∃(x:Str) (p:Addr) (ss:List Str),vs=[.str x,.ref p]/\Sq K H p (ss.map V.str)/\Q (.bl (decide (x∈ss))) H
theorem v8:aQ ["thing","names"] ["thing","names"] (aC (top 10)):=⟨rfl,rfl,rfl,by decide +kernel,rfl,by decide +kernel,by decide +kernel⟩
theorem nV {f:Addr}{fd:FuncData} (F:Fun K "is_among" "is_among" (top 10) f fd) (B:Bl mg):aG P w K mg base CX0 1 f fd ["thing","names"] (gP K):=by
 refine F.ok v8 (fun vs H Q E h=>?_) (fun cdv A outer s H vs Q E hr h=>?_)
 ·obtain⟨x,p,ss,rfl,_⟩:=h
  rfl
 ·obtain⟨x,p,ss,rfl,hp,k⟩:=h
  refine⟨_,ar (aO (dJ (aD (cU (T:="str")) rfl B.isinstance cD (aa (pv 0) (aa (cY (v:=.ty "str") rfl B.str iG rfl) ag)))
   (fX (dE pw (pv 0) (pv 1) (by with_unfolding_all rfl))))),?_⟩
  refine⟨_,rfl,_,_,true,rfl,.str x,rfl,true,rfl,bJ ⟨_,rfl,_,rfl,p,ss.map V.str,rfl,hp,rfl,o9 ss,?_⟩⟩
  show Q (.bl (inV (.str x) (ss.map V.str))) H
  rw [rR]
  exact k
noncomputable def jK:Sp:=fun vs H Q _=>∃(p q:Addr) (r:Row) (ps:List Str),vs=[.ref p,.ref q]/\bh H p r/\H q=some (.tup (ps.map V.str))/\aJ r.1/\r.2.1∈ps/\r.2.2∈ps/\r.2.1≠r.2.2/\∀H',ae H H'->Q (.bl true) H'
theorem gm:aQ ["thing","places","name","start","end"] ["thing","places"] (aC (top 11)):=⟨rfl,rfl,rfl,by decide +kernel,rfl,by decide +kernel,by decide +kernel⟩
theorem nA {f:Addr}{fd:FuncData} (F:Fun K "is_tie_row" "is_tie_row" (top 11) f fd) (B:Bl mg) (F1:Fn P w K mg base 1 "is_name" ["thing"] iD) (F2:Fn P w K mg base 1 "is_among" ["thing","names"] (gP K)) :
  aG P w K mg base CX0 2 f fd ["thing","places"] jK:=by
 refine F.ok gm (fun vs H Q E h=>?_) (fun cdv A outer s H vs Q E hr h=>?_)
 ·obtain⟨p,q,r,ps,rfl,_⟩:=h
  rfl
 ·obtain⟨p,q,r,ps,rfl,hp,hq,h1,h2,h3,h4,k⟩:=h
  have hp':H p=some (.tup [.str r.1,.str r.2.1,.str r.2.2]):=hp
  refine⟨_,ao (aY (PW.pt (dg (bZ (bV (aD (cU (T:="tuple")) rfl B.isinstance cD (aa (pv 0) (aa (cY (v:=.ty "tuple") rfl B.tuple bY rfl) ag)))))
    (dM (aV bI (aD bA rfl B.len PySem.boot_len (aa (pv 0) ag)) ai (aN _))))) (ar (aO df)) a9)
   (ao (da (pv 0) (cM rfl (n:=3) (aU (be (i:=2) gm.nd rfl (Or.inl rfl)) (aU (be (i:=3) gm.nd rfl (Or.inl rfl)) (aU (be (i:=4) gm.nd rfl (Or.inl rfl)) bO)))))
   (ar (aO (dJ (av F1 hr (aa (pv 2) ag)) (dJ (av F2 hr (aa (pv 3) (aa (pv 1) ag))) (dJ (av F2 hr (aa (pv 4) (aa (pv 1) ag))) (fX (dE bI (pv 3) (pv 4) (aN _))))))))),?_⟩
  refine⟨_,rfl,_,_,true,rfl,.tup hp',rfl,true,rfl,bE ⟨_,rfl,p,_,rfl,.inr (SqT.of hp'),rfl,_,rfl,gg rfl ?_⟩⟩
  refine⟨_,rfl,p,_,rfl,SqT.of hp',rfl,_,_,rfl,_,_,rfl,_,_,rfl,rfl,?_⟩
  refine⟨_,rfl,r.1,rfl,h1,fun H1 s1=>⟨true,rfl,bJ ⟨_,rfl,_,rfl,r.2.1,q,ps,rfl,.inr (eB s1 (SqT.of hq)),_,rfl,iV h2 ⟨_,rfl,_,rfl,r.2.2,q,ps,rfl,.inr (eB s1 (SqT.of hq)),_,rfl,iV h3 ⟨_,rfl,_,rfl,rfl,?_⟩⟩⟩⟩⟩
  have e:(!decide (V.str r.2.1=V.str r.2.2))=true:=by
   rw [decide_eq_false (fun z=>h4 (V.str.inj z))];rfl
  rw [e]
  exact k H1 s1
end
theorem ny {α β:Type} (f:α->β) (l:List α) (i:Nat) (x:α) (h:l[i]?=some x):(l.take (i + 1)).map f=(l.take i).map f++[f x]:=by
 rw [List.take_add_one,h];simp
theorem cq {rs:List (Addr×Row)}{i:Nat}{x:V} (h:(aq rs)[i]?=some x):∃r,rs[i]?=some r/\x=.ref r.1:=by
 unfold aq at h
 rw [List.getElem?_map] at h
 cases e:rs[i]? with
 | none=>rw [e] at h;cases h
 | some r=>rw [e] at h;exact⟨r,rfl,(Option.some.inj h).symm⟩
section
variable {P:Program}{w:World}{K:PySem.W.Frag}{mg:Str->Option Value}{base:Heap}
noncomputable def gf (r:V):Sp:=fun vs H Q _=>∃(v pa ra:Addr) (ps:List Str) (rs:List (Addr×Row)),vs=[.ref v]/\bH H v pa ra ps rs/\Good ps (rs.map (·.2))/\∀H',ae H H'->Q r H'
theorem i3:aQ ["thing","places","rows"] ["thing"] (aC (top 12)):=⟨rfl,rfl,rfl,by decide +kernel,rfl,by decide +kernel,by decide +kernel⟩
theorem pA {f:Addr}{fd:FuncData} (F:Fun K "is_web" "is_web" (top 12) f fd) (B:Bl mg) (F1:Fn P w K mg base 2 "is_sorted_names" ["thing"] kn) (F2:Fn P w K mg base 2 "is_tie_row" ["thing","places"] jK)
  (F3:Fn P w K mg base 1 "is_rising" ["names"] (gH K)):aG P w K mg base CX0 3 f fd ["thing"] (gf (.bl true)):=by
 refine F.ok i3 (fun vs H Q E h=>?_) (fun cdv A outer s H vs Q E hr h=>?_)
 ·obtain⟨v,pa,ra,ps,rs,rfl,_⟩:=h
  rfl
 ·obtain⟨v,pa,ra,ps,rs,rfl,W,G,k⟩:=h
  have hr1:aL 1 _:=hr.mono (by decide)
  refine⟨_,ao (aY (PW.pt (dg (bZ (bV (aD (cU (T:="tuple")) rfl B.isinstance cD (aa (pv 0) (aa (cY (v:=.ty "tuple") rfl B.tuple bY rfl) ag)))))
    (dM (aV bI (aD bA rfl B.len PySem.boot_len (aa (pv 0) ag)) ai (aN _))))) (ar (aO df)) a9)
   (ao (da (pv 0) (cM rfl (n:=2) (aU (be (i:=1) i3.nd rfl (Or.inr rfl)) (aU (be (i:=2) i3.nd rfl (Or.inl rfl)) bO))))
   (ao (aY (PW.pt (dg (bZ (bV (av F1 hr (aa (pv 1) ag)))) (dg (aV cO (aD bA rfl B.len PySem.boot_len (aa (pv 1) ag)) ai (aN _))
    (dM (bZ (bV (aD (cU (T:="tuple")) rfl B.isinstance cD (aa (pv 2) (aa (cY (v:=.ty "tuple") rfl B.tuple bY rfl) ag))))))))) (ar (aO df)) a9)
   (ar (aO (dJ (aD (fh rfl) rfl B.all fZ (aa (bC (N:=["row","places"]) (ix:=[none,some 1]) ⟨rfl,rfl,rfl,by decide⟩ rfl (bP (pv 2)) (fun _ _ _ _=>aW 0 (by decide) rfl rfl) (fun _ _ _ _=>bw)
    (fun _ _ _ _=>av F2 hr (aa (pv 0) (aa (pv 1) ag)))) ag))
    (fX (av F3 hr1 (aa (bC (N:=["row"]) (ix:=[none]) ⟨rfl,rfl,rfl,by decide⟩ rfl (bP (pv 2)) (fun _ _ _ _=>aW 0 (by decide) rfl rfl) (fun _ _ _ _=>bw)
     (fun _ _ _ _=>ax (bK K) (pv 0) ai (fun _ _=>rfl))) ag)))))))),?_⟩
  have hlen:(aq rs).length<=1000:=by have:=G.rz;simp at this ⊢;omega
  refine⟨_,rfl,_,_,true,rfl,.tup W.tp,rfl,true,rfl,bE ⟨_,rfl,v,_,rfl,.inr (SqT.of W.tp),rfl,_,rfl,gg rfl ?_⟩⟩
  refine⟨_,rfl,v,_,rfl,SqT.of W.tp,rfl,_,_,rfl,_,_,rfl,rfl,?_⟩
  refine⟨_,rfl,pa,ps,rfl,W.pl,G.nm,G.so,by have:=G.pz;omega,fun H1 s1=>⟨true,rfl,bE ?_⟩⟩
  refine⟨_,rfl,pa,_,rfl,.inr (SqT.of (s1 _ _ W.pl)),rfl,_,rfl,mG ?_ ?_⟩
  ·intro z
   have z':((ps.map V.str).length:Int)=0:=V.int.inj z
   have:ps.length≠0:=fun q=>G.ne (List.length_eq_zero_iff.mp q)
   rw [List.length_map] at z'
   omega
  refine⟨_,rfl,_,_,true,rfl,.tup (s1 _ _ W.rl),rfl,true,rfl,bE ?_⟩
  refine⟨_,rfl,ra,rfl,⟨_,SqT.of (s1 _ _ W.rl)⟩,gI (xs:=aq rs) (fits hlen) (fun i ys σ H2=>ys=List.replicate i (.bl true)/\ae H H2/\∃x,σ=[x,some (.ref pa)]) ⟨rfl,s1,_,rfl⟩
   (fun i ys σ H2 _ q=>⟨by rw [q.1];simp,SqT.of (q.2.1 _ _ W.rl)⟩) ?_ ?_⟩
  ·rintro i x ys σ H2 hx ⟨rfl,s2,y,rfl⟩
   obtain⟨r,hr',rfl⟩:=cq hx
   have hm:=List.mem_of_getElem? hr'
   obtain⟨g1,g2,g3,g4⟩:=G.rn r.2 (List.mem_map_of_mem hm)
   exact⟨_,rfl,_,rfl,r.1,pa,r.2,ps,rfl,s2 _ _ (W.rows r hm),s2 _ _ W.pl,g1,g2,g3,g4,fun H3 s3=>⟨by rw [List.replicate_succ'],s2.trans s3,_,rfl⟩⟩
  ·rintro ys σ H2 ⟨rfl,s2,y,rfl⟩ q hqn
   have s3:=am (o:=.lst (List.replicate (aq rs).length (.bl true))) s2 hqn
   refine⟨q,List.replicate _ true,rfl,SqL.of (by rw [ah,List.map_replicate]),_,rfl,?_⟩
   have e:∀n:Nat,(List.replicate n true).all id=true:=by simp
   rw [e]
   refine bJ ⟨_,rfl,ra,rfl,⟨_,SqT.of (s3 _ _ W.rl)⟩,gI (xs:=aq rs) (fits hlen) (fun i ys σ H4=>ys=((rs.take i).map fun r=>V.str r.2.1)/\ae H H4/\∃x,σ=[x]) ⟨rfl,s3,_,rfl⟩
    (fun i ys σ H4 _ q=>⟨by rw [q.1];simp;omega,SqT.of (q.2.1 _ _ W.rl)⟩) ?_ ?_⟩
   ·rintro i x ys σ H4 hx ⟨rfl,s4,z,rfl⟩
    obtain⟨r,hr',rfl⟩:=cq hx
    have hm:=List.mem_of_getElem? hr'
    exact⟨_,rfl,ay (j:=0) (.inr (SqT.of (s4 _ _ (W.rows r hm)))) rfl rfl ⟨(ny _ _ _ _ hr').symm,s4,_,rfl⟩⟩
   ·rintro ys σ H4 ⟨rfl,s4,z,rfl⟩ q2 hq2
    refine⟨q2,rs.map (·.2.1),rfl,.inl (SqL.of (by rw [ah];simp)),?_,by simpa using hlen,fun H5 s5=>k _ ((am s4 hq2).trans s5)⟩
    have:=G.rso
    rw [List.map_map] at this
    exact this
end
theorem cS {α:Type} (p:α->Bool) (l:List α) (i:Nat) (x:α) (h:l[i]?=some x):(l.take (i + 1)).filter p=(l.take i).filter p++(if p x then [x] else []):=by
 rw [List.take_add_one,h,List.filter_append]
 simp only [Option.toList_some,List.filter_cons,List.filter_nil]
theorem take_all {α:Type} (l:List α) {n:Nat} (h:n=l.length):l.take n=l:=by subst h;exact List.take_length
noncomputable abbrev nms (rs:List (Addr×Row)):List Str:=rs.map (·.2.1)
theorem jJ (K:PySem.W.Frag) {X:Cx} (h:X.K=K:=by rfl):bo X (.type "tuple") (fun xs H Q=>∃p ys,xs=[.ref p]/\((SqL K H p ys/\∀l,H l=none->Q (.ref l) (upd H l (.tup ys)))\/(SqT K H p ys/\Q (.ref p) H))):=by subst h;exact dj
theorem jm {α β:Type} (f:α->β):∀(l':List β) (l:List α),l'.Perm (l.map f)->∃l'':List α,l''.Perm l/\l''.map f=l'
 | [],l,h=>by
  have:l=[]:=by simpa using h.length_eq.symm
  subst this
  exact⟨[],.refl _,rfl⟩
 | b::t,l,h=>by
  obtain⟨a,ha,rfl⟩:=List.mem_map.mp (h.mem_iff.mp List.mem_cons_self)
  obtain⟨u,v,rfl⟩:=List.append_of_mem ha
  have h2:(f a::t).Perm (f a::(u++v).map f):=by
   refine h.trans ?_
   rw [List.map_append,List.map_cons,List.map_append]
   exact List.perm_middle
  obtain⟨w,hw,e⟩:=jm f t (u++v) h2.cons_inv
  exact⟨a::w,(hw.cons a).trans List.perm_middle.symm,by rw [List.map_cons,e]⟩
structure wD (ps ls:List Str):Prop where
 ne:ls≠[]
 nm:∀x∈ls,aJ x
 so:ls.Pairwise nlt
 sub:∀x∈ls,x∈ps
 z:ls.length<=100
theorem cF {ss:List Str} (h:ss.Pairwise nlt):ss.Nodup:=h.imp fun {a b} hab e=>by
 subst e;exact absurd hab (List.lt_irrefl _)
theorem jW (rs:List (Addr×Row)):refs (rs.map fun r=>(r.1,r.2.1))=aq rs:=by
 unfold refs aq
 rw [List.map_map]
 rfl
theorem dB (K:PySem.W.Frag) {X:Cx}{es:List Expr}{k:Nat}{t:TGs}{n:Nat}{pos:Pos} (hc:X.calm=true) (h:PGs X es t) (hK:X.K=K:=by rfl) (hn:(assignEach es X.env).length=n:=by rfl) (hst:(assignEach es X.env).findIdx? (·.1)=none:=by rfl) :
  PG X (.Tuple es k pos) (ng K n t):=by subst hK;exact cM hc h hn hst
section
variable {P:Program}{w:World}{K:PySem.W.Frag}{mg:Str->Option Value}{base:Heap}
theorem vG:aQ ["thing"] ["thing"] (aC (top 13)):=⟨rfl,rfl,rfl,by decide +kernel,rfl,by decide +kernel,by decide +kernel⟩
theorem nU {f:Addr}{fd:FuncData} (F:Fun K "need_web" "need_web" (top 13) f fd) (F1:Fn P w K mg base 3 "is_web" ["thing"] (gf (.bl true))):aG P w K mg base CX0 4 f fd ["thing"] (gf .non):=by
 refine F.ok vG (fun vs H Q E h=>?_) (fun cdv A outer s H vs Q E hr h=>?_)
 ·obtain⟨v,pa,ra,ps,rs,rfl,_⟩:=h
  rfl
 ·obtain⟨v,pa,ra,ps,rs,rfl,W,G,k⟩:=h
  refine⟨_,ar (aY (bZ (bV (av F1 hr (aa (pv 0) ag)))) cV a9),?_⟩
  exact⟨_,rfl,v,pa,ra,ps,rs,rfl,W,G,fun H1 s1=>⟨true,rfl,bE (k H1 s1)⟩⟩
noncomputable def i9:Sp:=fun vs H Q _=>∃(v pa ra:Addr) (ps:List Str) (rs:List (Addr×Row)) (x:Str),vs=[.ref v,.str x]/\bH H v pa ra ps rs/\x∈ps/\Q .non H
theorem vI:aQ ["web","thing"] ["web","thing"] (aC (top 14)):=⟨rfl,rfl,rfl,by decide +kernel,rfl,by decide +kernel,by decide +kernel⟩
theorem nB {f:Addr}{fd:FuncData} (F:Fun K "need_place" "need_place" (top 14) f fd) (F1:Fn P w K mg base 1 "is_among" ["thing","names"] (gP K)):aG P w K mg base CX0 2 f fd ["web","thing"] i9:=by
 refine F.ok vI (fun vs H Q E h=>?_) (fun cdv A outer s H vs Q E hr h=>?_)
 ·obtain⟨v,pa,ra,ps,rs,x,rfl,_⟩:=h
  rfl
 ·obtain⟨v,pa,ra,ps,rs,x,rfl,W,hx,k⟩:=h
  refine⟨_,ar (aY (bZ (bV (av F1 hr (aa (pv 1) (aa (ax aP (pv 0) ai (fun _ _=>rfl)) ag))))) cV a9),?_⟩
  exact⟨_,rfl,_,rfl,ay (j:=0) (.inr (SqT.of W.tp)) rfl rfl ⟨x,pa,ps,rfl,.inr (SqT.of W.pl),_,rfl,gg hx k⟩⟩
end
noncomputable def Pot (H:Hp) (p:Addr):Prop:=∃a b,H p=some (.lst [.int a,.int b])/\0<=b/\b < 4294967296
noncomputable def Kp (P:List Addr) (H H':Hp):Prop:=∀b o,H b=some o->b∉P->H' b=some o
theorem Kp.refl (P:List Addr) (H:Hp):Kp P H H:=fun _ _ h _=>h
theorem Kp.trans {P:List Addr}{H H1 H2:Hp} (a:Kp P H H1) (b:Kp P H1 H2):Kp P H H2:=fun c o h n=>b c o (a c o h n) n
theorem Kp.of_same {P:List Addr}{H H1 H2:Hp} (a:Kp P H H1) (b:ae H1 H2):Kp P H H2:=fun c o h n=>b c o (a c o h n)
theorem Kp.inn {P:List Addr}{H H1:Hp}{p:Addr}{o:HO} (a:Kp P H H1) (hp:p∈P):Kp P H (upd H1 p o):=fun c ob h n=>by rw [aj (show c≠p from fun z=>n (by rw [z];exact hp))];exact a c ob h n
theorem Kp.new {P:List Addr}{H H1:Hp}{p:Addr}{o:HO} (a:Kp P H H1) (hp:H1 p=none):Kp P H (upd H1 p o):=fun c ob h n=>by rw [aj (aI (a c ob h n) hp)];exact a c ob h n
noncomputable def eE:Str:=Str.ofString "abcdefghijklmnopqrstuvwxyz"
theorem nX:∀r:_root_.Fin 26,eE.cps.toList[r.val]?=some (97 + r.val):=by decide +kernel
theorem jh {r:Nat} (h:r < 26):eE.cps.toList[r]?=some (97 + r):=nX ⟨r,h⟩
theorem i8:eE.length<=sizeLine:=by decide
theorem join_one (cs:List Nat):(Txt.join (Str.ofString "") (cs.map fun c=>(⟨#[c]⟩:Str))).cps.toList=cs:=by
 have e0:(Str.ofString "").cps=#[]:=by decide
 show (Builtin.Str.glued (Str.ofString "") _).cps.toList=cs
 rw [StrLaws.glued_eq_join]
 induction cs with
 | nil=>rfl
 | cons c t ih =>
  cases t with
  | nil=>rfl
  | cons d r =>
   show (((⟨#[c]⟩:Str)++Str.ofString ""++Str.join (Str.ofString "") ((d::r).map fun c=>(⟨#[c]⟩:Str))).cps).toList=_
   rw [Str.cps_append,Str.cps_append,e0,Array.toList_append,Array.toList_append,ih]
   rfl
theorem aJ.of_codes {x:Str}{l:List Nat} (e:x.cps.toList=l) (h1:1<=l.length) (h8:l.length<=8) (h:∀c∈l,97<=c/\c<=122):aJ x:=by
 have hl:x.length=l.length:=by rw [<- e];simp [Str.length]
 exact⟨by omega,by omega,by rw [e];exact h⟩
theorem jl:∀(r:List Str) (x:Str),PyProof.Rows.risingS x r=true->(x::r).Nodup->(x::r).Pairwise nlt
 | [],x,_,_=>by simp
 | y::r,x,h,hn=>by
  have h':(!PySem.Spec.ltCps y.cps.toList x.cps.toList && PyProof.Rows.risingS y r)=true:=h
  rw [Bool.and_eq_true,PyProof.Rows.ltCps_eq] at h'
  have hn':=List.nodup_cons.mp hn
  have ih:=jl r y h'.2 hn'.2
  have hxy:nlt x y:=by
   rcases gO (fun e=>hn'.1 (e ▸ List.mem_cons_self):x≠y) with z | z
   ·exact z
   ·rw [decide_eq_true z] at h'
    exact absurd h'.1 (by simp)
  refine List.pairwise_cons.mpr ⟨fun z hz=>?_,ih⟩
  rcases List.mem_cons.mp hz with rfl | hz
  ·exact hxy
  ·exact List.lt_trans hxy ((List.pairwise_cons.mp ih).1 z hz)
theorem js {ss:List Str} (h:PyProof.Rows.sortedS ss=true) (hn:ss.Nodup):ss.Pairwise nlt:=by
 cases ss with
 | nil=>exact .nil
 | cons x r=>exact jl r x h hn
theorem Kp.free {P:List Addr}{H H':Hp} (k:Kp P H H') (hP:∀b∈P,∃o,H' b=some o) {q:Addr} (hq:H' q=none):H q=none:=by
 cases e:H q with
 | none=>rfl
 | some o =>
  by_cases hm:q∈P
  ·obtain⟨o',e'⟩:=hP q hm
   rw [hq] at e';cases e'
  ·rw [k q o e hm] at hq;cases hq
theorem Pot.some {H:Hp}{p:Addr} (h:Pot H p):∃o,H p=some o:=let ⟨a,b,e,_⟩:=h;⟨_,e⟩
theorem Pot.keep {H H':Hp}{p:Addr} (h:Pot H p) (e:∀o,H p=Option.some o->H' p=Option.some o):Pot H' p:=let ⟨a,b,q,r⟩:=h;⟨a,b,e _ q,r⟩
theorem tup_ne {H:Hp}{a b:Addr}{xs ys:List V} (h1:H a=some (.tup xs)) (h2:H b=some (.lst ys)):a≠b:=ml h1 h2 (by intro z;cases z)
theorem tQ {H H':Hp}{P:List Addr}{b:Addr}{xs:List V} (k:Kp P H H') (hP:∀c∈P,∃ys,H c=some (.lst ys)) (e:H b=some (.tup xs)):H' b=some (.tup xs) :=
 k b _ e fun hb=>by
  obtain⟨ys,e'⟩:=hP b hb
  exact tup_ne e e' rfl
theorem Pot.lst {H:Hp}{p:Addr} (h:Pot H p):∃ys,H p=Option.some (HO.lst ys):=let ⟨a,b,e,_⟩:=h;⟨_,e⟩
theorem jZ {x:Str} (h:aJ x):PyData.strOk x=true:=by
 unfold PyData.strOk
 rw [Array.all_eq_true']
 intro c hc
 have:=h.az c (by simpa using hc)
 simp;omega
theorem jP {ss:List Str} (h:∀x∈ss,aJ x):PyData.canLayAll0 (ss.map PyData.str)=true/\PyData.depthAll (ss.map PyData.str)=0:=by
 induction ss with
 | nil=>exact⟨rfl,rfl⟩
 | cons x t ih =>
  have:=ih fun y hy=>h y (List.mem_cons_of_mem _ hy)
  rw [List.map_cons]
  simp only [PyData.canLayAll0,PyData.canLay0,PyData.depthAll,PyData.depth,jZ (h x List.mem_cons_self),this.1,this.2]
  exact⟨rfl,rfl⟩
theorem cE {ss:List Str} (h:∀x∈ss,aJ x):SeqAt.shaped (.list (ss.map PyData.str))=true/\SeqAt.shaped (.tuple (ss.map PyData.str))=true:=by
 have q:=jP h
 unfold SeqAt.shaped
 simp only [PyData.canLay0,PyData.depth,q.1,q.2]
 exact⟨by decide,by decide⟩
theorem gu:∀(a b:List Str),PyData.eqvAll (a.map PyData.str) (b.map PyData.str)=decide (a=b)
 | [],[]=>by simp [PyData.eqvAll]
 | [],y::t=>by simp [PyData.eqvAll]
 | x::s,[]=>by simp [PyData.eqvAll]
 | x::s,y::t=>by
  simp only [List.map_cons,PyData.eqvAll,PyData.eqv,gu s t]
  rw [Bool.eq_iff_iff]
  simp
theorem Pot.ne_new {H:Hp}{p q:Addr} (h:Pot H p) (hq:H q=none):q≠p:=fun z=>by obtain⟨o,e⟩:=h.some;rw [<- z,hq] at e;cases e
theorem Pot.upd {H:Hp}{p q:Addr}{o:HO} (h:Pot H p) (hq:q≠p):Pot (upd H q o) p:=h.keep fun ob e=>by rw [aj hq.symm];exact e
theorem Pot.new {H:Hp}{p q:Addr}{o:HO} (h:Pot H p) (hq:H q=none):Pot (L2.upd H q o) p:=h.upd (h.ne_new hq)
theorem Kp.free1 {p q:Addr}{H H1:Hp} (k:Kp [p] H H1) (hp:Pot H1 p) (hq:H1 q=none):H q=none:=k.free (fun b hb=>by
 have e:b=p:=by simpa using hb
 subst e;exact hp.some) hq
theorem Kp.tup {p b:Addr}{H H1:Hp}{xs:List V} (k:Kp [p] H H1) (hp:Pot H p) (e:H b=some (.tup xs)):H1 b=some (.tup xs):=tQ k (fun c hc=>by
 have e:c=p:=by simpa using hc
 subst e;exact hp.lst) e
theorem Kp.at {p b:Addr}{H H1:Hp}{o:HO} (k:Kp [p] H H1) (hb:b≠p) (e:H b=some o):H1 b=some o:=k _ _ e (by simpa using hb)
section
variable {P:Program}{w:World}{K:PySem.W.Frag}{mg:Str->Option Value}{base:Heap}
end
theorem ae.upd0 {H H':Hp}{q:Addr}{o:HO} (h:ae H H') (hq:H q=none):ae H (upd H' q o):=fun b ob e=>by
 rw [aj (aI e hq)];exact h b ob e
theorem dX {k:Nat}{A:Around} (r:aL k A):A.units + 1 < cLine:=by have:=r.un;omega
theorem mq:bootBuiltins "abs"=some (.builtin "abs"):=by decide +kernel
theorem iL {c:TT}{x y b:TS}{D:Ends}{σ:St}{H:Hp} (M:St->Hp->Prop) (h:∀N:St->Hp->Prop,(∀σ H,M σ H->N σ H)->iW c x y { D with nx:=N } σ H) (k:∀σ H,M σ H->b D σ H):iN (iW c x y) b D σ H:=h (b D) k
section
variable {P:Program}{w:World}{K:PySem.W.Frag}{mg:Str->Option Value}{base:Heap}
noncomputable def mi (K:PySem.W.Frag):Sp:=fun vs H Q _=>∃(a:Addr) (ns:List Int) (k:Int),vs=[.ref a,.int k]/\SqL K H a (ns.map V.int)/\0<=k/\k < 1000/\∀q H',ae H H'->H q=none->Pot H' q->Q (.ref q) H'
noncomputable abbrev N28:List Str:=["_law_script","_law_k","_law_cell"]
theorem iY:aQ N28 ["_law_script","_law_k"] (aC (top 28)):=⟨rfl,rfl,rfl,by decide +kernel,rfl,by decide +kernel,by decide +kernel⟩
theorem uK {f:Addr}{fd:FuncData} (F:Fun K "_law_pot" "_law_pot" (top 28) f fd) (B:Bl mg):aG P w K mg base CX0 1 f fd ["_law_script","_law_k"] (mi K):=by
 refine F.ok iY (fun vs H Q E h=>?_) (fun cdv A outer s H vs Q E hr h=>?_)
 ·obtain⟨a,ns,k,rfl,_⟩:=h
  rfl
 ·obtain⟨a,ns,k,rfl,ha,hk,hk2,q⟩:=h
  refine⟨_,ao (aE (i:=2) iY.nd rfl (Or.inl rfl) ai) (ao (aY (aV mK (pv 1) (aD bA rfl B.len PySem.boot_len (aa (pv 0) ag)) (aN _)) (ar (aE (i:=2) iY.nd rfl (Or.inl rfl) (ax aP (pv 0) (pv 1) (fun _ _=>rfl)))) a9)
   (ar (aO (bL (aa (aD (ju rfl) rfl B.max mP (aa ai (aa (aH ir (aD jB rfl B.abs mq (aa (pv 2) ag)) (aH sY ai ai)) ag)))
    (aa (aH cL (aH cL (aH eN (aD jB rfl B.abs mq (aa (pv 2) ag)) ai) (aH iC ai (pv 1))) ai) ag)))))),?_⟩
  dsimp only [iN,iU,tC,bM]
  refine iL (fun σ H1=>H1=H/\∃c:Int,σ=[some (.ref a),some (.int k),some (.int c)]) (fun N key=>?_) ?_
  ·refine⟨_,rfl,_,rfl,a,_,rfl,.inl ha,_,_,rfl,rfl,_,rfl,?_⟩
   refine bj (fun c=>?_) (fun c=>key _ _ ⟨rfl,_,rfl⟩)
   have c':k < ((ns.map V.int).length:Int):=of_decide_eq_true c
   rw [List.length_map] at c'
   have hl:k.toNat < ns.length:=by omega
   exact⟨_,rfl,_,rfl,ay (j:=k.toNat) (v:=.int ns[k.toNat]) (.inl ha) (by omega) (by rw [List.getElem?_map,List.getElem?_eq_getElem hl];rfl) (key _ _ ⟨rfl,_,rfl⟩)⟩
  ·rintro σ H1 ⟨rfl,c,rfl⟩
   refine⟨_,rfl,_,rfl,_,_,rfl,rfl,⟨by decide,by decide,by decide⟩,_,_,rfl,rfl,_,_,rfl,?_⟩
   refine⟨_,rfl,_,rfl,_,_,rfl,rfl,by show (0:Int) < 2147483587;decide,_,rfl,_,_,rfl,rfl,.inl ⟨by decide,by decide⟩,_,_,rfl,rfl,_,_,rfl,rfl,by show 2<=sizeLine;decide,fun l hl=>?_⟩
   have m0:=Int.emod_nonneg (if c < 0 then -c else c) (show (2147483587:Int)≠0 by decide)
   have m1:=Int.emod_lt_of_pos (if c < 0 then -c else c) (show (0:Int) < 2147483587 by decide)
   exact q l _ (am (ae.refl _) hl) hl ⟨_,_,ah,by omega,by omega⟩
noncomputable def eO:Sp:=fun vs H Q _=>∃(p:Addr) (n:Int),vs=[.ref p,.int n]/\Pot H p/\0 < n/\n < 1000/\∀r H',0<=r->r < n->Pot H' p->Kp [p] H H'->Q (.int r) H'
noncomputable abbrev N29:List Str:=["_law_pot_here","_law_many","_law_digit_here"]
theorem nr:aQ N29 ["_law_pot_here","_law_many"] (aC (top 29)):=⟨rfl,rfl,rfl,by decide +kernel,rfl,by decide +kernel,by decide +kernel⟩
theorem qk {f:Addr}{fd:FuncData} (F:Fun K "_law_digit" "_law_digit" (top 29) f fd) (B:Bl mg):aG P w K mg base CX0 1 f fd ["_law_pot_here","_law_many"] eO:=by
 refine F.ok nr (fun vs H Q E h=>?_) (fun cdv A outer s H vs Q E hr h=>?_)
 ·obtain⟨p,n,rfl,_⟩:=h
  rfl
 ·obtain⟨p,n,rfl,⟨a,b,hp,hb0,hb1⟩,hn,hn2,k⟩:=h
  refine⟨_,ao (aY (aV gc (ax aP (pv 0) ai (fun _ _=>rfl)) ai (aN _))
    (ao (aE (i:=2) nr.nd rfl (Or.inl rfl) (aH eN (ax aP (pv 0) ai (fun _ _=>rfl)) (pv 1)))
    (ao (da (aH kH (ax aP (pv 0) ai (fun _ _=>rfl)) (pv 1)) (fU (pv 0) ai set_list))
     (ar (aO (pv 2))))) a9)
   (ao (da (aH eN (aH cL (aH iC (ax aP (pv 0) ai (fun _ _=>rfl)) ai) ai) ai) (fU (pv 0) ai set_list))
   (ar (aO (aH eN (aH kH (aH eN (aH iC (ax aP (pv 0) ai (fun _ _=>rfl)) (ax aP (pv 0) ai (fun _ _=>rfl))) ai) ai) (pv 1))))),?_⟩
  have hS:Sq K H p [.int a,.int b]:=.inl (SqL.of hp)
  refine⟨_,rfl,ay (j:=0) hS rfl rfl ⟨_,_,rfl,rfl,_,rfl,?_⟩⟩
  refine bj (fun c=>?_) (fun c=>?_)
  ·refine⟨_,rfl,ay (j:=0) hS rfl rfl ⟨_,rfl,_,_,rfl,rfl,hn,?_⟩⟩
   refine⟨_,rfl,ay (j:=0) hS rfl rfl ⟨_,rfl,_,_,rfl,rfl,⟨hn,by omega⟩,_,rfl,p,[.int a,.int b],_,0,rfl,rfl,hp,rfl,?_⟩⟩
   exact⟨_,rfl,k _ _ (Int.emod_nonneg _ (by omega)) (Int.emod_lt_of_pos _ hn) ⟨_,_,ah,hb0,hb1⟩ ((Kp.refl _ _).inn (by simp))⟩
  ·refine⟨_,rfl,ay (j:=1) hS rfl rfl ⟨_,_,rfl,rfl,.inl ⟨by omega,by omega⟩,_,_,rfl,rfl,_,_,rfl,rfl,by show (0:Int) < 2147483647;decide,_,rfl,p,[.int a,.int b],_,1,rfl,rfl,hp,rfl,?_⟩⟩
   have m0:0<=(b * 39373 + 20011) % 2147483647:=Int.emod_nonneg _ (by decide)
   have m1:(b * 39373 + 20011) % 2147483647 < 2147483647:=Int.emod_lt_of_pos _ (by decide)
   have hS2:Sq K (upd H p (.lst ([V.int a,V.int b].set 1 (.int ((b * 39373 + 20011) % 2147483647))))) p [.int a,.int ((b * 39373 + 20011) % 2147483647)]:=.inl (SqL.of ah)
   refine⟨_,rfl,ay (j:=1) hS2 rfl rfl ⟨_,rfl,ay (j:=1) hS2 rfl rfl ⟨_,_,rfl,rfl,.inl ⟨by omega,by omega⟩,_,_,rfl,rfl,by show (0:Int) < 2147483563;decide,_,_,rfl,rfl,⟨by decide,by decide⟩,_,rfl,_,_,rfl,rfl,hn,?_⟩⟩⟩
   exact k _ _ (Int.emod_nonneg _ (by omega)) (Int.emod_lt_of_pos _ hn) ⟨_,_,ah,m0,by omega⟩ ((Kp.refl _ _).inn (by simp))
structure Nmd (x:Str) (k:Nat):Prop where
 ex:∃u:List Nat,x.cps.toList=u++[97 + k]/\u.length<=3/\∀c∈u,97<=c/\c<=122
theorem Nmd.name {x:Str}{k:Nat} (h:Nmd x k) (hk:k < 26):aJ x:=by
 obtain⟨u,e,hu,hc⟩:=h.ex
 refine aJ.of_codes e (by simp) (by simp;omega) fun c hm=>?_
 rcases List.mem_append.mp hm with z | z
 ·exact hc c z
 ·have:c=97 + k:=by simpa using z
  omega
theorem Nmd.inj {x:Str}{k j:Nat} (h:Nmd x k) (h':Nmd x j):k=j:=by
 obtain⟨u,e,_⟩:=h.ex
 obtain⟨u',e',_⟩:=h'.ex
 rw [e] at e'
 have:=(List.append_inj' e' rfl).2
 simp at this
 omega
noncomputable def six:Str:=Str.ofString "abmxyz"
theorem qZ:∀r:_root_.Fin 6,∃c,six.cps.toList[r.val]?=some c/\97<=c/\c<=122:=by
 intro r
 match r with
 | ⟨0,_⟩=>exact⟨97,by show six.cps.toList[0]?=some 97;decide,by decide,by decide⟩
 | ⟨1,_⟩=>exact⟨98,by show six.cps.toList[1]?=some 98;decide,by decide,by decide⟩
 | ⟨2,_⟩=>exact⟨109,by show six.cps.toList[2]?=some 109;decide,by decide,by decide⟩
 | ⟨3,_⟩=>exact⟨120,by show six.cps.toList[3]?=some 120;decide,by decide,by decide⟩
 | ⟨4,_⟩=>exact⟨121,by show six.cps.toList[4]?=some 121;decide,by decide,by decide⟩
 | ⟨5,_⟩=>exact⟨122,by show six.cps.toList[5]?=some 122;decide,by decide,by decide⟩
theorem tZ {r:Nat} (h:r < 6):∃c,six.cps.toList[r]?=some c/\97<=c/\c<=122:=qZ ⟨r,h⟩
theorem qz:six.length<=sizeLine:=by decide
theorem og (x:Str) (c:Nat):(x++(⟨#[c]⟩:Str)).cps.toList=x.cps.toList++[c]:=by
 rw [Str.cps_append,Array.toList_append]
noncomputable def kO:Sp:=fun vs H Q _=>∃(p:Addr) (k:Nat),vs=[.ref p,.int k]/\Pot H p/\k < 26/\∀x H',Nmd x k->Pot H' p->Kp [p] H H'->Q (.str x) H'
noncomputable abbrev N30:List Str:=["_law_pot_here","_law_k","_law_begin"]
theorem nc:aQ N30 ["_law_pot_here","_law_k"] (aC (top 30)):=⟨rfl,rfl,rfl,by decide +kernel,rfl,by decide +kernel,by decide +kernel⟩
theorem rp {f:Addr}{fd:FuncData} (F:Fun K "_law_name" "_law_name" (top 30) f fd) (B:Bl mg) (Ft:Fn P w K mg base 1 "_law_digit" ["_law_pot_here","_law_many"] eO):aG P w K mg base CX0 2 f fd ["_law_pot_here","_law_k"] kO:=by
 refine F.ok nc (fun vs H Q E h=>?_) (fun cdv A outer s H vs Q E hr h=>?_)
 ·obtain⟨p,k,rfl,_⟩:=h
  rfl
 ·obtain⟨p,kk,rfl,hp,hk,k⟩:=h
  refine⟨_,ao (aE (i:=2) nc.nd rfl (Or.inl rfl) (cy PySem.F.plainAttrs_str PySem.F.slot_str_join PySem.F.type_str_join rX bb (aa (bC (N:=["_law_turn","_law_pot_here"]) (ix:=[none,some 0]) ⟨rfl,rfl,rfl,by decide⟩ rfl
      (dm rfl B.range (aa (av Ft hr (aa (pv 0) (aa ai ag))) ag)) (fun _ _ _ _=>aW 0 (by decide) rfl rfl) (fun _ _ _ _=>bw)
      (fun _ _ _ _=>ax (bK K) bb (av Ft hr (aa (pv 1) (aa ai ag))) (fun _ _=>rfl))) ag)))
   (ar (aO (aH gv (pv 2) (ax aP bb (pv 1) (fun _ _=>rfl))))),?_⟩
  have hah:∀(cs:List Nat),(Txt.join (Str.ofString "") (cs.map fun c=>(⟨#[c]⟩:Str))).length=cs.length:=fun cs=>by
   rw [<- congrArg List.length (join_one cs)];simp [Str.length]
  have hsum:∀l:List Nat,((l.map fun c=>(⟨#[c]⟩:Str)).map (·.length)).sum=l.length:=fun l=>by
   induction l with
   | nil=>rfl
   | cons c r ih=>simp only [List.map_cons,List.sum_cons,ih,List.length_cons];show 1 + r.length=_;omega
  refine⟨rfl,_,rfl,p,4,rfl,hp,by decide,by decide,fun r4 H4 a0 a1 P4 K4=>⟨_,rfl,by omega,by omega,?_⟩⟩
  refine fc (fits (by omega)) (fun j ys σ H5=>(∃cs:List Nat,cs.length=j/\(∀c∈cs,97<=c/\c<=122)/\ys=cs.map fun c=>V.str ⟨#[c]⟩)/\Pot H5 p/\Kp [p] H H5/\∃x,σ=[x,some (.ref p)])
   ⟨⟨[],rfl,by simp,rfl⟩,P4,K4,_,rfl⟩ (fun j ys σ H5 _ q=>by obtain⟨⟨cs,rfl,_,rfl⟩,_⟩:=q;simp) ?_ ?_
  ·rintro j ys σ H5 hj ⟨⟨cs,rfl,hcs,rfl⟩,P5,K5,v,rfl⟩
   refine⟨_,rfl,p,6,rfl,P5,by decide,by decide,fun r H6 r0 r1 P6 K6=>?_⟩
   obtain⟨c6,e6,l6,u6⟩:=tZ (r:=r.toNat) (by omega)
   refine .inr (.inr ⟨six,r,c6,rfl,rfl,qz,eM (j:=r.toNat) (by omega) e6,⟨cs++[c6],by simp,fun c hc=>?_,by simp⟩,P6,K5.trans K6,_,rfl⟩)
   rcases List.mem_append.mp hc with z | z
   ·exact hcs c z
   ·have:c=c6:=by simpa using z
    omega
  rintro ys σ H5 ⟨⟨cs,hlen,hcs,rfl⟩,P5,K5,v,rfl⟩ q hq
  have hx:(Txt.join (Str.ofString "") (cs.map fun c=>(⟨#[c]⟩:Str))).cps.toList=cs:=join_one cs
  have hmap:(cs.map fun c=>V.str ⟨#[c]⟩)=(cs.map fun c=>(⟨#[c]⟩:Str)).map V.str:=by rw [List.map_map];rfl
  have hal:=hah cs
  have hc3:cs.length<=3:=by omega
  refine⟨Str.ofString "",q,cs.map fun c=>(⟨#[c]⟩:Str),rfl,rfl,SqL.of (by rw [ah,hmap]),?_,?_⟩
  ·have e0:(Str.ofString "").length=0:=by decide
   rw [hsum,e0]
   omega
  generalize Txt.join (Str.ofString "") (cs.map fun c=>(⟨#[c]⟩:Str))=wd at hx hal ⊢
  have P6:=P5.new (o:=.lst (cs.map fun c=>V.str ⟨#[c]⟩)) hq
  have K6:=(K5.new (o:=.lst (cs.map fun c=>V.str ⟨#[c]⟩)) hq)
  generalize upd H5 q (.lst (cs.map fun c=>V.str ⟨#[c]⟩))=H6 at P6 K6 ⊢
  refine⟨_,rfl,_,rfl,.inr (.inr ⟨eE,kk,97 + kk,rfl,rfl,i8,eM (j:=kk) rfl (jh hk),_,_,rfl,rfl,by rw [sizeLine_eq];show wd.length + 1<=_;omega,k _ H6 ⟨cs,by rw [og,hx],hc3,hcs⟩ P6 K6⟩)⟩
end
theorem ja {α:Type}:∀{l:List α}{i:Nat} (hi:i < l.length),l.Nodup->l[i]∉l.eraseIdx i
 | x::r,0,_,h=>by simpa using (List.nodup_cons.mp h).1
 | x::r,i + 1,hi,h=>by
  have h':=List.nodup_cons.mp h
  have hi':i < r.length:=by simpa using hi
  rw [List.eraseIdx_cons_succ,List.getElem_cons_succ]
  intro q
  rcases List.mem_cons.mp q with e | e
  ·exact h'.1 (e ▸ List.getElem_mem hi')
  ·exact ja hi' h'.2 e
theorem jG {α β:Type} (f:α->β):∀(l:List α) (i:Nat),(l.map f).eraseIdx i=(l.eraseIdx i).map f
 | [],i=>by simp
 | x::r,0=>rfl
 | x::r,i + 1=>by simp [jG f r i]
noncomputable abbrev Le:=Addr×Str×Str
noncomputable abbrev aR (les:List Le):List V:=les.map fun x=>V.ref x.1
structure bF (H:Hp) (fo:Addr) (les:List Le):Prop where
 l:H fo=some (.lst (aR les))
 e:∀x∈les,H x.1=some (.tup [.str x.2.1,.str x.2.2])
noncomputable def LeP (ps:List Str) (les:List Le):Prop:=∀x∈les,x.2.1∈ps/\x.2.2∈ps/\x.2.1≠x.2.2
theorem bF.same {H H':Hp}{fo:Addr}{les:List Le} (h:bF H fo les) (s:ae H H'):bF H' fo les:=⟨s _ _ h.l,fun x hx=>s _ _ (h.e x hx)⟩
theorem bF.kp {H H':Hp}{p fo:Addr}{les:List Le} (h:bF H fo les) (hp:Pot H p) (n:fo≠p) (k:Kp [p] H H'):bF H' fo les:=⟨k.at n h.l,fun x hx=>k.tup hp (h.e x hx)⟩
section
variable {P:Program}{w:World}{K:PySem.W.Frag}{mg:Str->Option Value}{base:Heap}
noncomputable def lS:Sp:=fun vs H Q _=>∃(p pl:Addr) (root:Str) (ps:List Str),vs=[.ref p,.ref pl,.str root]/\Pot H p/\H pl=some (.lst (ps.map V.str))/\root∈ps/\ps.Nodup/\(∀x∈ps,aJ x)/\ps.length<=8 /\
 ∀(q:Addr) (les:List Le) (H':Hp),Pot H' p->bF H' q les->LeP ps les->les.length + 1<=ps.length->H q=none->Kp [p] H H'->Q (.ref q) H'
noncomputable abbrev N31:List Str:=["_law_pot_here","_law_places","_law_root","_law_left","_law_there","_law_found","_law_begin","_law_end"]
theorem eh:aQ N31 ["_law_pot_here","_law_places","_law_root"] (aC (top 31)):=⟨rfl,rfl,rfl,by decide +kernel,rfl,by decide +kernel,by decide +kernel⟩
theorem qm {f:Addr}{fd:FuncData} (F:Fun K "_law_grown" "_law_grown" (top 31) f fd) (B:Bl mg) (Ft:Fn P w K mg base 1 "_law_digit" ["_law_pot_here","_law_many"] eO):aG P w K mg base CX0 2 f fd ["_law_pot_here","_law_places","_law_root"] lS:=by
 refine F.ok eh (fun vs H Q E h=>?_) (fun cdv A outer s H vs Q E hr h=>?_)
 ·obtain⟨p,pl,root,ps,rfl,_⟩:=h
  rfl
 ·obtain⟨p,pl,root,ps,rfl,hp,hpl,hroot,pnd,pnm,p8,k⟩:=h
  refine⟨_,ao (dq (i:=3) (N:=["_law_place","_law_root"]) (ix:=[none,some 2]) eh.nd rfl (Or.inl rfl) ⟨rfl,rfl,rfl,by decide⟩ rfl (cv (pv 1)) (fun _ _ _ _=>aW 0 (by decide) rfl rfl) (fun _ _ _ _=>dD (aV bI (pv 0) (pv 1) (aN _))) (fun _ _ _ _=>pv 0))
   (ao (aE (i:=4) eh.nd rfl (Or.inl rfl) (bL (aa (pv 2) ag)))
   (ao (aE (i:=5) eh.nd rfl (Or.inl rfl) (bL ag))
   (ao (jX PassesOwn.never (aV (ib hr) (pv 3) (bL ag) (aN _))
    (ao (aE (i:=6) eh.nd rfl (Or.inl rfl) (ax aP (pv 4) (av Ft hr (aa (pv 0) (aa (aD bA rfl B.len PySem.boot_len (aa (pv 4) ag)) ag))) (fun _ _=>rfl)))
    (ao (aE (i:=7) eh.nd rfl (Or.inl rfl) (cy PySem.F.plainAttrs_list PySem.F.slot_list_pop PySem.F.type_list_pop pP (pv 3) (aa (av Ft hr (aa (pv 0) (aa (aD bA rfl B.len PySem.boot_len (aa (pv 3) ag)) ag))) ag)))
    (ao (cw (cy PySem.F.plainAttrs_list PySem.F.slot_list_append PySem.F.type_list_append dn (pv 4) (aa (pv 7) ag)))
    (ar (cw (cy PySem.F.plainAttrs_list PySem.F.slot_list_append PySem.F.type_list_append dn (pv 5) (aa (bz (aa (pv 6) (aa (pv 7) ag))) ag))))))))
   (ar (aO (pv 5)))))),?_⟩
  refine⟨_,rfl,pl,rfl,⟨_,SqL.of hpl⟩,oK (xs:=ps.map V.str) (fits (by simp;omega)) (fun i ys σ H2=>ys=((ps.take i).filter fun y=>!decide (y=root)).map V.str/\H2=H/\∃v,σ=[v,some (.str root)]) ⟨rfl,rfl,_,rfl⟩
   (fun i ys σ H2 _ q=>⟨by rw [q.1,List.length_map];exact Nat.le_trans (List.length_filter_le _ _) (by simp;omega),by rw [q.2.1];exact SqL.of hpl⟩) ?_ ?_⟩
  ·rintro i y ys σ H2 hy ⟨rfl,rfl,v,rfl⟩
   rw [List.getElem?_map] at hy
   cases hc:ps[i]? with
   | none=>rw [hc] at hy;cases hy
   | some z =>
    rw [hc] at hy
    cases hy
    have tf:=cS (fun z:Str=>!decide (z=root)) ps i z hc
    refine⟨_,rfl,_,rfl,rfl,_,rfl,?_⟩
    have e:(!decide (V.str z=V.str root))=!decide (z=root):=by simp
    rw [e]
    refine bj (fun c=>⟨_,rfl,?_,rfl,_,rfl⟩) (fun c=>⟨?_,rfl,_,rfl⟩)
    ·rw [tf,c];simp
    ·rw [tf];simp only [Bool.not_eq_true] at c;rw [c];simp
  rintro ys σ H2 ⟨rfl,rfl,v,rfl⟩ l hl
  rw [take_all ps (by simp)]
  have nlp:=hp.ne_new hl
  have hfm:∀x∈ps.filter (fun y=>!decide (y=root)),x∈ps/\x∉[root]:=fun x hx=>by
   obtain⟨a,b⟩:=List.mem_filter.mp hx
   exact⟨a,by simpa using b⟩
  have hfn:(ps.filter fun y=>!decide (y=root)).Nodup:=pnd.filter _
  have hfl:(ps.filter fun y=>!decide (y=root)).length + 1<=ps.length:=by
   have q:(ps.filter fun y=>!decide (y=root)).length < ps.length:=by
    refine List.length_filter_lt_length_iff_exists.mpr ⟨root,hroot,by simp⟩
   omega
  generalize ps.filter (fun y=>!decide (y=root))=ls0 at hfl hfm hfn ⊢
  have p2:=hp.new (o:=.lst (ls0.map V.str)) hl
  have K2:=(Kp.refl [p] H2).new (o:=.lst (ls0.map V.str)) hl
  have l2:upd H2 l (.lst (ls0.map V.str)) l=some (.lst (ls0.map V.str)):=ah
  generalize upd H2 l (.lst (ls0.map V.str))=H3 at p2 K2 l2 ⊢
  refine⟨_,rfl,by show 1<=sizeLine;decide,fun d hd=>?_⟩
  have ndp:=p2.ne_new hd
  have nld:l≠d:=aI l2 hd
  have hd0:=K2.free1 p2 hd
  have p3:=p2.new (o:=.lst [.str root]) hd
  have K3:=K2.new (o:=.lst [.str root]) hd
  have d3:upd H3 d (.lst [.str root]) d=some (.lst ([root].map V.str)):=ah
  have l3:upd H3 d (.lst [.str root]) l=some (.lst (ls0.map V.str)):=by rw [aj nld];exact l2
  generalize upd H3 d (.lst [.str root])=H3' at p3 K3 d3 l3 ⊢
  refine⟨Nat.zero_le _,fun fo hfo=>?_⟩
  have nfp:=p3.ne_new hfo
  have nfd:fo≠d:=(aI d3 hfo).symm
  have nfl:fo≠l:=(aI l3 hfo).symm
  have hfo0:=K3.free1 p3 hfo
  refine⟨fun m σ H4=>∃(ds ls:List Str) (les:List Le) (g g':Option V),σ=[some (.ref p),some (.ref pl),some (.str root),some (.ref l),some (.ref d),some (.ref fo),g,g']/\ls.length=m/\Pot H4 p/\Kp [p] H2 H4/\H4 d=some (.lst (ds.map V.str))/\H4 l=some (.lst (ls.map V.str))/\bF H4 fo les/\LeP ps les/\les.length + ls.length + 1<=ps.length/\ds.length=les.length + 1/\(∀x∈ds,x∈ps)/\(∀x∈ls,x∈ps/\x∉ds)/\ls.Nodup,
   ⟨_,[root],ls0,[],none,none,rfl,rfl,p3.new hfo,K3.new hfo,by rw [aj nfd.symm];exact d3,by rw [aj nfl.symm];exact l3,⟨ah,by simp⟩,(by intro x hx;simp at hx),by simp;omega,rfl,by simpa using hroot,hfm,hfn⟩,?_⟩
  rintro m σ H4 ⟨ds,ls,les,g,g',rfl,rfl,P4,K4,D4,L4,A4,hle,hn,hds,hd1,hl1,hln⟩
  refine⟨_,rfl,Nat.zero_le _,fun e he=>?_⟩
  have u4:=am (o:=.lst []) (ae.refl H4) he
  have e1:upd H4 e (.lst []) e=some (.lst []):=ah
  have P5:=P4.new (o:=.lst []) he
  have K5:=K4.new (o:=.lst []) he
  generalize upd H4 e (.lst [])=H5 at u4 e1 P5 K5 ⊢
  have L5:=u4 _ _ L4
  have D5:=u4 _ _ D4
  have A5:=A4.same u4
  refine⟨.list (ls.map PyData.str),.list [],.lst L5 (DVs.strs ls),.lst e1 .nil,(cE fun x hx=>pnm x (hl1 x hx).1).1,(cE (ss:=[]) (by simp)).1,_,rfl,?_⟩
  have ev:PyData.eqv (.list (ls.map PyData.str)) (.list [])=decide (ls=[]):=gu ls []
  rw [ev]
  refine bj (fun c=>?_) (fun c=>?_)
  ·have hne:ls≠[]:=by simpa using c
   have hlp:0 < ls.length:=by cases ls with | nil=>exact absurd rfl hne | cons _ _=>simp
   refine⟨fun σ' H'=>∃m',m' < ls.length/\∃(ds ls:List Str) (les:List Le) (g g':Option V),σ'=[some (.ref p),some (.ref pl),some (.str root),some (.ref l),some (.ref d),some (.ref fo),g,g']/\ls.length=m'/\Pot H' p/\Kp [p] H2 H'/\H' d=some (.lst (ds.map V.str))/\H' l=some (.lst (ls.map V.str))/\bF H' fo les/\LeP ps les/\les.length + ls.length + 1<=ps.length/\ds.length=les.length + 1/\(∀x∈ds,x∈ps)/\(∀x∈ls,x∈ps/\x∉ds)/\ls.Nodup,fun σ' H' q=>q,?_⟩
   refine⟨_,rfl,_,rfl,_,rfl,d,_,rfl,.inl (SqL.of D5),p,_,rfl,P5,by rw [List.length_map];omega,by rw [List.length_map];omega,fun j H9 j0 j1 P9 K9=>?_⟩
   rw [List.length_map] at j1
   have hjl:j.toNat < ds.length:=by omega
   have D9:=K9.at ndp D5
   have L9:=K9.at nlp L5
   have A9:=A5.kp P5 nfp K9
   have K09:=K5.trans K9
   refine ay (j:=j.toNat) (.inl (SqL.of D9)) (by omega) (strAt hjl) ?_
   have ham:ds[j.toNat]∈ds:=List.getElem_mem hjl
   generalize ds[j.toNat]=a at ham ⊢
   refine⟨_,rfl,.inl ⟨rfl,_,SqL.of L9⟩,_,rfl,_,rfl,l,_,rfl,.inl (SqL.of L9),p,_,rfl,P9,by rw [List.length_map];omega,by rw [List.length_map];omega,fun i H6 i0 i1 P6 K6=>?_⟩
   rw [List.length_map] at i1
   have L6:=K6.at nlp L9
   have D6:=K6.at ndp D9
   have A6:=A9.kp P9 nfp K6
   have K06:=K09.trans K6
   have hil:i.toNat < ls.length:=by omega
   refine⟨l,ls.map V.str,i,i.toNat,.str ls[i.toNat],rfl,rfl,L6,by omega,by omega,seqIndex_of i0 (by rw [List.length_map];omega),strAt hil,?_⟩
   have hze:=hl1 _ (List.getElem_mem hil)
   have herl:(ls.eraseIdx i.toNat).length + 1=ls.length:=by rw [List.length_eraseIdx,if_pos hil];omega
   have hsub:∀x∈ls.eraseIdx i.toNat,x∈ls:=fun x hx=>List.mem_of_mem_eraseIdx hx
   have hnz:ls[i.toNat]∉ls.eraseIdx i.toNat:=ja hil hln
   have hnd':(ls.eraseIdx i.toNat).Nodup:=hln.sublist (List.eraseIdx_sublist _ _)
   have em:(ls.map V.str).eraseIdx i.toNat=(ls.eraseIdx i.toNat).map V.str:=jG _ _ _
   rw [em]
   generalize ls[i.toNat]=z at hze hnz ⊢
   generalize ls.eraseIdx i.toNat=ls' at herl hsub hnz hnd' ⊢
   have P7:=P6.upd (o:=.lst (ls'.map V.str)) nlp
   have K7:Kp [p] H2 (upd H6 l (.lst (ls'.map V.str))):=fun b o q nb=>by rw [aj (aI q hl)];exact K06 b o q nb
   have L7:upd H6 l (.lst (ls'.map V.str)) l=some (.lst (ls'.map V.str)):=ah
   have D7:upd H6 l (.lst (ls'.map V.str)) d=some (.lst (ds.map V.str)):=by rw [aj nld.symm];exact D6
   have A7:bF (upd H6 l (.lst (ls'.map V.str))) fo les:=⟨by rw [aj nfl];exact A6.l,fun x hx=>by rw [aj (tup_ne (A6.e x hx) L6)];exact A6.e x hx⟩
   generalize upd H6 l (.lst (ls'.map V.str))=H7 at P7 K7 L7 D7 A7 ⊢
   refine⟨_,rfl,.inl ⟨rfl,_,SqL.of D7⟩,_,rfl,d,ds.map V.str,.str z,rfl,rfl,D7,fits (by simp;omega),?_⟩
   have P8:=P7.upd (o:=.lst (ds.map V.str++[.str z])) ndp
   have K8:Kp [p] H2 (upd H7 d (.lst (ds.map V.str++[.str z]))):=fun b o q nb=>by rw [aj (aI q hd0)];exact K7 b o q nb
   have D8:upd H7 d (.lst (ds.map V.str++[.str z])) d=some (.lst ((ds++[z]).map V.str)):=by rw [ah,List.map_append];rfl
   have L8:upd H7 d (.lst (ds.map V.str++[.str z])) l=some (.lst (ls'.map V.str)):=by rw [aj nld];exact L7
   have A8:bF (upd H7 d (.lst (ds.map V.str++[.str z]))) fo les:=⟨by rw [aj nfd];exact A7.l,fun x hx=>by rw [aj (tup_ne (A7.e x hx) D7)];exact A7.e x hx⟩
   generalize upd H7 d (.lst (ds.map V.str++[.str z]))=H8 at P8 K8 D8 L8 A8 ⊢
   refine⟨_,rfl,.inl ⟨rfl,_,SqL.of A8.l⟩,_,rfl,_,rfl,by show 2<=sizeLine;decide,fun n hn=>?_⟩
   have u9:=am (o:=.tup [.str a,.str z]) (ae.refl H8) hn
   have n9:upd H8 n (.tup [.str a,.str z]) n=some (.tup [.str a,.str z]):=ah
   have P10:=P8.new (o:=.tup [.str a,.str z]) hn
   have K10:=K8.new (o:=.tup [.str a,.str z]) hn
   generalize upd H8 n (.tup [.str a,.str z])=H10 at u9 n9 P10 K10 ⊢
   have A10:=A8.same u9
   have D10:=u9 _ _ D8
   have L10:=u9 _ _ L8
   refine⟨fo,aR les,.ref n,rfl,rfl,A10.l,fits (by rw [List.length_map];omega),?_⟩
   have P11:=P10.upd (o:=.lst (aR les++[.ref n])) nfp
   have K11:Kp [p] H2 (upd H10 fo (.lst (aR les++[.ref n]))):=fun b o q nb=>by rw [aj (aI q hfo0)];exact K10 b o q nb
   have A11:bF (upd H10 fo (.lst (aR les++[.ref n]))) fo (les++[(n,a,z)]):=⟨by rw [ah];simp [aR],fun x hx=>by
    rcases List.mem_append.mp hx with q | q
    ·rw [aj (tup_ne (A10.e x q) A10.l)];exact A10.e x q
    ·have e:x=(n,a,z):=(by simpa using q)
     subst e
     show upd H10 fo _ n=_
     rw [aj (tup_ne n9 A10.l)];exact n9⟩
   have D11:upd H10 fo (.lst (aR les++[.ref n])) d=some (.lst ((ds++[z]).map V.str)):=by rw [aj nfd.symm];exact D10
   have L11:upd H10 fo (.lst (aR les++[.ref n])) l=some (.lst (ls'.map V.str)):=by rw [aj nfl.symm];exact L10
   refine⟨ls'.length,by omega,ds++[z],ls',les++[(n,a,z)],_,_,rfl,rfl,P11,K11,D11,L11,A11,?_,by simp;omega,by simp;omega,?_,?_,hnd'⟩
   ·intro x hx
    rcases List.mem_append.mp hx with q | q
    ·exact hle x q
    ·have e:x=(n,a,z):=by simpa using q
     subst e;exact⟨hd1 a ham,hze.1,fun q=>hze.2 ((show a=z from q) ▸ ham)⟩
   ·intro y hy
    rcases List.mem_append.mp hy with q | q
    ·exact hd1 y q
    ·have e:y=z:=by simpa using q
     subst e;exact hze.1
   ·intro y hy
    have q:=hl1 y (hsub y hy)
    refine⟨q.1,fun hm=>?_⟩
    rcases List.mem_append.mp hm with w' | w'
    ·exact q.2 w'
    ·have e:y=z:=by simpa using w'
     subst e;exact hnz hy
  ·exact⟨_,rfl,k fo les H5 P5 A5 hle (by omega) hfo0 K5⟩
end
theorem lK {les:List Le}{i:Nat}{x:V} (h:(aR les)[i]?=some x):∃r,les[i]?=some r/\x=.ref r.1:=by
 unfold aR at h
 rw [List.getElem?_map] at h
 cases e:les[i]? with
 | none=>rw [e] at h;cases h
 | some r=>rw [e] at h;exact⟨r,rfl,(Option.some.inj h).symm⟩
theorem Kp.upd0 {P:List Addr}{H H1:Hp}{q:Addr}{o:HO} (a:Kp P H H1) (hq:H q=none):Kp P H (upd H1 q o):=fun c ob h n=>by rw [aj (aI h hq)];exact a c ob h n
noncomputable def Nms (ns:List Str):Prop:=∀j x,ns[j]?=some x->Nmd x j
theorem Nms.name {ns:List Str} (D:Nms ns) (hz:ns.length<=26):∀x∈ns,aJ x:=fun x hx=>by
 obtain⟨j,hj⟩:=List.getElem?_of_mem hx
 have hjl:=(List.getElem?_eq_some_iff.mp hj).1
 exact (D j x hj).name (by omega)
theorem Nms.nodup {ns:List Str} (D:Nms ns):ns.Nodup:=by
 refine List.pairwise_iff_getElem.mpr fun i j hi hj hij e=>?_
 have h1:=D i _ (List.getElem?_eq_getElem hi)
 have h2:=D j _ (List.getElem?_eq_getElem hj)
 rw [<- e] at h2
 have:=h1.inj h2
 omega
theorem Nms.add {ns:List Str}{x:Str} (D:Nms ns) (h:Nmd x ns.length):Nms (ns++[x]):=fun j y hj=>by
 by_cases hl:j < ns.length
 ·rw [List.getElem?_append_left hl] at hj
  exact D j y hj
 ·rw [List.getElem?_append_right (by omega)] at hj
  have hj0:j - ns.length=0:=by
   have:=(List.getElem?_eq_some_iff.mp hj).1
   simp at this
   omega
  rw [hj0] at hj
  have ey:x=y:=by simpa using hj
  subst ey
  have ej:j=ns.length:=by omega
  subst ej
  exact h
theorem uS (xs:List V):bD xs none (some 26)=xs.take 26:=by
 unfold bD
 rw [HT.wc,show (26:Int)=((26:Nat):Int) from rfl,HT.wj]
 rw [List.drop_zero,Nat.sub_zero]
 rcases Nat.le_total 26 xs.length with h | h
 ·rw [Nat.min_eq_left h]
 ·rw [Nat.min_eq_right h,List.take_length,List.take_of_length_le h]
section
variable {P:Program}{w:World}{K:PySem.W.Frag}{mg:Str->Option Value}{base:Heap}
noncomputable def lZ:Sp:=fun vs H Q _=>∃(p:Addr),vs=[.ref p,.int 5,.int 2,.int 4]/\Pot H p /\
 ∀(v u pa ra:Addr) (root:Str) (ps:List Str) (rs:List (Addr×Row)) (H':Hp),Pot H' p->H' v=some (.tup [.ref u,.str root])->bH H' u pa ra ps rs->Good ps (rs.map (·.2))->ps.length<=5->rs.length<=26->root∈ps->Kp [p] H H'->Q (.ref v) H'
noncomputable abbrev N32:List Str:=["_law_pot_here","_law_most_places","_law_most_trees","_law_most_more","_law_places","_law_root","_law_pairs","_law_turn","_law_begin","_law_end","_law_ties"]
theorem cj:aQ N32 ["_law_pot_here","_law_most_places","_law_most_trees","_law_most_more"] (aC (top 32)):=⟨rfl,rfl,rfl,by decide +kernel,rfl,by decide +kernel,by decide +kernel⟩
theorem tW {f:Addr}{fd:FuncData} (F:Fun K "_law_web" "_law_web" (top 32) f fd) (B:Bl mg) (Ft:Fn P w K mg base 1 "_law_digit" ["_law_pot_here","_law_many"] eO) (Fn':Fn P w K mg base 2 "_law_name" ["_law_pot_here","_law_k"] kO)
  (Fe:Fn P w K mg base 2 "_law_grown" ["_law_pot_here","_law_places","_law_root"] lS):aG P w K mg base CX0 3 f fd ["_law_pot_here","_law_most_places","_law_most_trees","_law_most_more"] lZ:=by
 refine F.ok cj (fun vs H Q E h=>?_) (fun cdv A outer s H vs Q E hr h=>?_)
 ·obtain⟨p,rfl,_⟩:=h
  rfl
 ·obtain⟨p,rfl,hp,k⟩:=h
  have hr1:aL 1 _:=hr.mono (by decide)
  refine⟨_,ao (aE (i:=4) cj.nd rfl (Or.inl rfl) (aD i7 rfl B.sorted fk (aa (bC (N:=["_law_k","_law_pot_here"]) (ix:=[none,some 0]) ⟨rfl,rfl,rfl,by decide⟩ rfl
     (dm rfl B.range (aa (aH cL ai (av Ft hr1 (aa (pv 0) (aa (pv 1) ag)))) ag)) (fun _ _ _ _=>aW 0 (by decide) rfl rfl) (fun _ _ _ _=>bw)
     (fun _ _ _ _=>av Fn' hr (aa (pv 1) (aa (pv 0) ag)))) ag)))
   (ao (aE (i:=5) cj.nd rfl (Or.inl rfl) (ax aP (pv 4) (av Ft hr1 (aa (pv 0) (aa (aD bA rfl B.len PySem.boot_len (aa (pv 4) ag)) ag))) (fun _ _=>rfl)))
   (ao (aE (i:=6) cj.nd rfl (Or.inl rfl) (bL ag))
   (ao (b9 PassesOwn.never rfl (dm rfl B.range (aa (av Ft hr1 (aa (pv 0) (aa (aH cL (pv 2) ai) ag))) ag)) (be (i:=7) cj.nd rfl (Or.inl rfl))
    (ar (aE (i:=6) cj.nd rfl (Or.inl rfl) (aH fV (pv 6) (av Fe hr (aa (pv 0) (aa (pv 4) (aa (pv 5) ag))))))))
   (ao (b9 PassesOwn.never rfl (dm rfl B.range (aa (av Ft hr1 (aa (pv 0) (aa (aH cL (pv 3) ai) ag))) ag)) (be (i:=7) cj.nd rfl (Or.inl rfl))
    (ao (aE (i:=8) cj.nd rfl (Or.inl rfl) (ax aP (pv 4) (av Ft hr1 (aa (pv 0) (aa (aD bA rfl B.len PySem.boot_len (aa (pv 4) ag)) ag))) (fun _ _=>rfl)))
    (ao (aE (i:=9) cj.nd rfl (Or.inl rfl) (ax aP (pv 4) (av Ft hr1 (aa (pv 0) (aa (aD bA rfl B.len PySem.boot_len (aa (pv 4) ag)) ag))) (fun _ _=>rfl)))
    (ar (aY (aV bI (pv 8) (pv 9) (aN _)) (ar (cw (cy PySem.F.plainAttrs_list PySem.F.slot_list_append PySem.F.type_list_append dn (pv 6) (aa (bz (aa (pv 8) (aa (pv 9) ag))) ag)))) a9)))))
   (ao (aE (i:=10) cj.nd rfl (Or.inl rfl) (aD nN rfl B.sorted fk (aa (bC (N:=["_law_k","_law_pair","_law_pot_here"]) (ix:=[none,none,some 0]) ⟨rfl,rfl,rfl,by decide⟩ rfl
     (fO rfl B.enumerate (aa (cW fL (pv 6) cX (cZ ai)) ag))
     (fun _ _ _ _=>dB K rfl (n:=2) (aU (aW 0 (by decide) rfl rfl) (aU (aW 1 (by decide) rfl rfl) bO))) (fun _ _ _ _=>bw)
     (fun _ _ _ _=>bz (aa (av Fn' hr (aa (pv 2) (aa (pv 0) ag))) (aa (ax (bK K) (pv 1) ai (fun _ _=>rfl)) (aa (ax (bK K) (pv 1) ai (fun _ _=>rfl)) ag))))) ag)))
   (ar (aO (bz (aa (bz (aa (cm dj rfl B.tuple bY (aa (pv 4) ag)) (aa (cm dj rfl B.tuple bY (aa (pv 10) ag)) ag))) (aa (pv 5) ag)))))))))),?_⟩
  refine⟨_,rfl,_,rfl,p,5,rfl,hp,by decide,by decide,fun r1 H1 a0 a1 P1 K1=>⟨_,_,rfl,rfl,_,rfl,by omega,by omega,?_⟩⟩
  refine fc (fits (by omega)) (fun j ys σ H2=>(∃ns:List Str,ns.length=j/\Nms ns/\ys=ns.map V.str)/\Pot H2 p/\Kp [p] H H2/\∃x,σ=[x,some (.ref p)])
   ⟨⟨[],rfl,fun j x hj=>by simp at hj,rfl⟩,P1,K1,_,rfl⟩ (fun j ys σ H2 _ q=>by obtain⟨⟨ns,rfl,_,rfl⟩,_⟩:=q;simp) ?_ ?_
  ·rintro j ys σ H2 hj ⟨⟨ns,rfl,D,rfl⟩,P2,K2,x,rfl⟩
   refine⟨_,rfl,_,rfl,p,ns.length,by simp,P2,by omega,fun x H3 hx P3 K3=>⟨⟨ns++[x],by simp,D.add hx,by simp⟩,P3,K2.trans K3,_,rfl⟩⟩
  rintro ys σ H2 ⟨⟨ns,nlen,D,rfl⟩,P2,K2,x,rfl⟩ pl0 hpl0
  have nm7:ns.length<=5:=by omega
  have nm1:1<=ns.length:=by omega
  have P3:=P2.new (o:=.lst (ns.map V.str)) hpl0
  have K3:=K2.new (o:=.lst (ns.map V.str)) hpl0
  have L3:upd H2 pl0 (.lst (ns.map V.str)) pl0=some (.lst (ns.map V.str)):=ah
  generalize upd H2 pl0 (.lst (ns.map V.str))=H3 at P3 K3 L3 ⊢
  refine⟨pl0,ns,rfl,SqL.of L3,by omega,fun ps pl hpm hso hpl=>?_⟩
  have pnd:ps.Nodup:=hpm.nodup_iff.mpr D.nodup
  have plen:ps.length=ns.length:=hpm.length_eq
  have pnm:∀x∈ps,aJ x:=fun x hx=>D.name (by omega) x (hpm.mem_iff.mp hx)
  have psw:=js hso pnd
  have npl:=P3.ne_new hpl
  have P5:=P3.new (o:=.lst (ps.map V.str)) hpl
  have K5:=K3.new (o:=.lst (ps.map V.str)) hpl
  have L5:upd H3 pl (.lst (ps.map V.str)) pl=some (.lst (ps.map V.str)):=ah
  generalize upd H3 pl (.lst (ps.map V.str))=H5 at P5 K5 L5 ⊢
  have hpsz:(ps.map V.str).length=ps.length:=by simp
  refine⟨_,rfl,_,rfl,_,rfl,pl,_,rfl,.inl (SqL.of L5),p,_,rfl,P5,by omega,by omega,fun r3 H6 c0 c1 P6 K6'=>?_⟩
  have K6:=K5.trans K6'
  have L6:=K6'.at npl L5
  have hr3:r3.toNat < ps.length:=by omega
  refine ay (j:=r3.toNat) (.inl (SqL.of L6)) (by omega) (strAt hr3) ?_
  have hroot:ps[r3.toNat]∈ps:=List.getElem_mem hr3
  generalize ps[r3.toNat]=root at hroot ⊢
  refine⟨Nat.zero_le _,fun fo hfo=>?_⟩
  have nfp:=P6.ne_new hfo
  have nfl:fo≠pl:=(aI L6 hfo).symm
  have hfo0:=K6.free1 P6 hfo
  have P7:=P6.new (o:=.lst []) hfo
  have K7:=K6.new (o:=.lst []) hfo
  have L7:upd H6 fo (.lst []) pl=some (.lst (ps.map V.str)):=by rw [aj nfl.symm];exact L6
  have A7:bF (upd H6 fo (.lst [])) fo []:=⟨ah,by simp⟩
  generalize upd H6 fo (.lst [])=H7 at P7 K7 L7 A7 ⊢
  refine⟨_,rfl,_,rfl,_,_,rfl,rfl,p,_,rfl,P7,by decide,by decide,fun r4 H8 d0 d1 P8 K8'=>⟨_,rfl,by omega,by omega,?_⟩⟩
  refine gx (fun i σ Hx=>∃(fo:Addr) (les:List Le),(∃g g8 g9,σ=[some (.ref p),some (.int 5),some (.int 2),some (.int 4),some (.ref pl),some (.str root),some (.ref fo),g,g8,g9,none])/\fo≠p/\fo≠pl/\H fo=none/\Pot Hx p/\Kp [p] H Hx/\Hx pl=some (.lst (ps.map V.str))/\bF Hx fo les/\LeP ps les/\les.length<=6 * i)
   ⟨fo,[],⟨_,_,_,rfl⟩,nfp,nfl,hfo0,P8,K7.trans K8',K8'.at npl L7,A7.kp P7 nfp K8',(by intro x hx;simp at hx),Nat.le_refl _⟩ ?_ ?_
  ·rintro i σ Hx hi ⟨fo,les,⟨g,g8,g9,rfl⟩,nfp,nfl,hfo0,Px,Kx,Lx,Ax,hle,hlen⟩
   refine⟨_,rfl,_,rfl,_,rfl,_,rfl,p,pl,root,ps,rfl,Px,Lx,hroot,pnd,pnm,by omega,fun q les' Hy Py Ay hle' hl7 hq0 Ky=>?_⟩
   have Ay0:=Ax.kp Px nfp Ky
   have Ly:=Ky.at npl Lx
   refine⟨fo,q,aR les,aR les',rfl,rfl,Ay0.l,Ay.l,Nat.le_of_lt (fits (by simp;omega)),fun c hc=>?_⟩
   have sy:=am (o:=.lst (aR les++aR les')) (ae.refl Hy) hc
   have K0:=Kx.trans Ky
   refine⟨c,les++les',⟨_,_,_,rfl⟩,Py.ne_new hc,(aI Ly hc).symm,K0.free1 Py hc,Py.new hc,K0.new hc,sy _ _ Ly,⟨by rw [ah];simp [aR],fun x hx=>?_⟩,fun x hx=>?_,by simp;omega⟩
   ·rcases List.mem_append.mp hx with z | z
    ·exact sy _ _ (Ay0.e x z)
    ·exact sy _ _ (Ay.e x z)
   ·rcases List.mem_append.mp hx with z | z
    ·exact hle x z
    ·exact hle' x z
  rintro σ Hx ⟨fo,les,⟨g,g8,g9,rfl⟩,nfp,nfl,hfo0,Px,Kx,Lx,Ax,hle,hlen⟩
  have hl18:les.length<=18:=by omega
  clear hlen A7 L7 K7 P7 d0 d1 P8 K8' H8 H7 r4
  refine⟨_,rfl,_,rfl,_,_,rfl,rfl,p,_,rfl,Px,by decide,by decide,fun r6 H9 f0 f1 P9 K9'=>⟨_,rfl,by omega,by omega,?_⟩⟩
  refine gx (fun i σ Hx=>∃(les:List Le),(∃g g8 g9,σ=[some (.ref p),some (.int 5),some (.int 2),some (.int 4),some (.ref pl),some (.str root),some (.ref fo),g,g8,g9,none])/\Pot Hx p/\Kp [p] H Hx/\Hx pl=some (.lst (ps.map V.str))/\bF Hx fo les/\LeP ps les/\les.length<=18 + i)
   ⟨les,⟨_,_,_,rfl⟩,P9,Kx.trans K9',K9'.at npl Lx,Ax.kp Px nfp K9',hle,by omega⟩ ?_ ?_
  ·rintro i σ Hy hi ⟨les',⟨g,g8,g9,rfl⟩,Py,Ky,Ly,Ay,hle,hlen⟩
   refine⟨_,rfl,_,rfl,_,rfl,pl,_,rfl,.inl (SqL.of Ly),p,_,rfl,Py,by omega,by omega,fun ra H10 a0 a1 P10 K10=>?_⟩
   have A10:=Ay.kp Py nfp K10
   have L10:=K10.at npl Ly
   have hra:ra.toNat < ps.length:=by omega
   refine ay (j:=ra.toNat) (.inl (SqL.of L10)) (by omega) (strAt hra) ?_
   have hma:=List.getElem_mem hra
   generalize ps[ra.toNat]=sa at hma ⊢
   refine⟨_,rfl,_,rfl,_,rfl,pl,_,rfl,.inl (SqL.of L10),p,_,rfl,P10,by omega,by omega,fun rb H11 b0 b1 P11 K11=>?_⟩
   have A11:=A10.kp P10 nfp K11
   have L11:=K11.at npl L10
   have hrb:rb.toNat < ps.length:=by omega
   refine ay (j:=rb.toNat) (.inl (SqL.of L11)) (by omega) (strAt hrb) ?_
   have hmb:=List.getElem_mem hrb
   generalize ps[rb.toNat]=sbb at hmb ⊢
   have K011:=Ky.trans (K10.trans K11)
   refine⟨_,rfl,_,rfl,rfl,_,rfl,bj (fun c=>?_) (fun c=>⟨les',⟨_,_,_,rfl⟩,P11,K011,L11,A11,hle,by omega⟩)⟩
   have hab:sa≠sbb:=fun e=>by subst e;simp at c
   refine⟨_,rfl,.inl ⟨rfl,_,SqL.of A11.l⟩,_,rfl,_,rfl,by show 2<=sizeLine;decide,fun n hn=>?_⟩
   have sz:=am (o:=.tup [.str sa,.str sbb]) (ae.refl H11) hn
   have nz:upd H11 n (.tup [.str sa,.str sbb]) n=some (.tup [.str sa,.str sbb]):=ah
   have P12:=P11.new (o:=.tup [.str sa,.str sbb]) hn
   have K12:=K011.new (o:=.tup [.str sa,.str sbb]) hn
   generalize upd H11 n (.tup [.str sa,.str sbb])=H12 at sz nz P12 K12 ⊢
   have A12:=A11.same sz
   have L12:=sz _ _ L11
   refine⟨fo,aR les',.ref n,rfl,rfl,A12.l,fits (by simp;omega),?_⟩
   refine⟨les'++[(n,sa,sbb)],⟨_,_,_,rfl⟩,P12.upd nfp,K12.upd0 hfo0,by rw [aj nfl.symm];exact L12,⟨by rw [ah];simp [aR],fun x hx=>?_⟩,fun x hx=>?_,by simp;omega⟩
   ·rcases List.mem_append.mp hx with q | q
    ·rw [aj (tup_ne (A12.e x q) A12.l)];exact A12.e x q
    ·have e:x=(n,sa,sbb):=by simpa using q
     subst e
     show upd H12 fo _ n=_
     rw [aj (tup_ne nz A12.l)];exact nz
   ·rcases List.mem_append.mp hx with q | q
    ·exact hle x q
    ·have e:x=(n,sa,sbb):=by simpa using q
     subst e;exact⟨hma,hmb,hab⟩
  rintro σ H9 ⟨les,⟨g,g8,g9,rfl⟩,P9,K9,L9,A9,hle9,hl9⟩
  refine⟨_,rfl,_,rfl,fo,aR les,rfl,SqL.of A9.l,fun c hc=>?_⟩
  rw [uS]
  have sc:=am (o:=.lst ((aR les).take 26)) (ae.refl H9) hc
  have P10:=P9.new (o:=.lst ((aR les).take 26)) hc
  have K10:=K9.new (o:=.lst ((aR les).take 26)) hc
  have ncp:=P9.ne_new hc
  have c10:upd H9 c (.lst ((aR les).take 26)) c=some (.lst (aR (les.take 26))):=by rw [ah];unfold aR;rw [List.map_take]
  generalize upd H9 c (.lst ((aR les).take 26))=H10 at sc P10 K10 c10 ⊢
  have A10:=A9.same sc
  have L10:=sc _ _ L9
  have hle10:∀x∈les.take 26,x∈les:=fun x hx=>List.mem_of_mem_take hx
  have ht26:(les.take 26).length<=26:=by rw [List.length_take];omega
  have Ac:bF H10 c (les.take 26):=⟨c10,fun x hx=>A10.e x (hle10 x hx)⟩
  have hlc:LeP ps (les.take 26):=fun x hx=>hle9 x (hle10 x hx)
  clear hle10 hle9 A9 A10 hl9
  generalize les.take 26=lc at c10 ht26 Ac hlc
  refine⟨c,_,rfl,SqL.of Ac.l,?_⟩
  refine qg (K:=K) (xs:=aR lc) (fits (by simp;omega)) (fun i zs σ H2=>(∃rr:List (Addr×Row),zs=aq rr/\rr.length=i/\(∀r∈rr,bh H2 r.1 r.2)/\Nms (nms rr)/\(∀r∈rr,r.2.2.1∈ps/\r.2.2.2∈ps/\r.2.2.1≠r.2.2.2))/\Pot H2 p/\Kp [p] H10 H2/\∃g1 g2,σ=[g1,g2,some (.ref p)])
   ⟨⟨[],rfl,rfl,by simp,fun j x hj=>by simp at hj,by simp⟩,P10,Kp.refl _ _,_,_,rfl⟩ (fun i zs σ H2 hi q=>?_) ?_ ?_
  ·obtain⟨⟨rr,rfl,e,_⟩,P2,K2,_⟩:=q
   exact⟨by simp [e],SqL.of (K2.at ncp c10)⟩
  ·rintro i x zs σ H2 T hx ⟨⟨rr,rfl,el,Ra,D,Ro⟩,P2,K2,g1,g2,rfl⟩ hT
   obtain⟨pr,hpr,rfl⟩:=lK hx
   have hil:i < lc.length:=(List.getElem?_eq_some_iff.mp hpr).1
   have hpm':=List.mem_of_getElem? hpr
   obtain⟨o1,o2,o3⟩:=hlc pr hpm'
   have sT:=am (o:=.tup [.int i,.ref pr.1]) (ae.refl H2) hT
   have PT:=P2.new (o:=.tup [.int i,.ref pr.1]) hT
   have KT:=K2.new (o:=.tup [.int i,.ref pr.1]) hT
   have T3:upd H2 T (.tup [.int i,.ref pr.1]) T=some (.tup [.int i,.ref pr.1]):=ah
   generalize upd H2 T (.tup [.int i,.ref pr.1])=H3 at sT PT KT T3 ⊢
   refine⟨T,_,rfl,SqT.of T3,rfl,_,_,rfl,_,_,rfl,rfl,?_⟩
   refine⟨_,rfl,_,rfl,p,i,rfl,PT,by omega,fun x H4 hx4 P4 K4=>?_⟩
   have K04:=KT.trans K4
   have pr4:H4 pr.1=some (.tup [.str pr.2.1,.str pr.2.2]):=K04.tup P10 (Ac.e pr hpm')
   refine⟨_,rfl,ay (j:=0) (.inr (SqT.of pr4)) rfl rfl ⟨_,rfl,ay (j:=1) (.inr (SqT.of pr4)) rfl rfl ⟨by show 3<=sizeLine;decide,fun n hn=>?_⟩⟩⟩
   have s5:=am (o:=.tup [.str x,.str pr.2.1,.str pr.2.2]) (ae.refl H4) hn
   refine⟨⟨rr++[(n,(x,pr.2.1,pr.2.2))],by simp [aq],by simp [el],fun r hr=>?_,?_,fun r hr=>?_⟩,P4.new hn,K04.new hn,_,_,rfl⟩
   ·rcases List.mem_append.mp hr with z | z
    ·exact s5 _ _ (K4.tup PT (sT _ _ (Ra r z)))
    ·have e':r=(n,(x,pr.2.1,pr.2.2)):=by simpa using z
     subst e';exact ah
   ·rw [nms,List.map_append]
    refine Nms.add D ?_
    rw [List.length_map,el];exact hx4
   ·rcases List.mem_append.mp hr with z | z
    ·exact Ro r z
    ·have e':r=(n,(x,pr.2.1,pr.2.2)):=by simpa using z
     subst e';exact⟨o1,o2,o3⟩
  rintro zs σ H11 ⟨⟨rr,rfl,el,Ra,D',Ro⟩,P11,K11,g1,g2,rfl⟩ rw hrw
  rw [List.length_map] at el
  have s10:=am (o:=.lst (aq rr)) (ae.refl H11) hrw
  have Ra10:∀r∈rr,bh (upd H11 rw (.lst (aq rr))) r.1 r.2:=fun r hr=>s10 _ _ (Ra r hr)
  have w10:upd H11 rw (.lst (aq rr)) rw=some (.lst (aq rr)):=ah
  have P12:=P11.new (o:=.lst (aq rr)) hrw
  have K12:=(K10.trans K11).new (o:=.lst (aq rr)) hrw
  have L12:upd H11 rw (.lst (aq rr)) pl=some (.lst (ps.map V.str)):=s10 _ _ (K11.at npl L10)
  generalize upd H11 rw (.lst (aq rr))=H12 at s10 Ra10 w10 P12 K12 L12 ⊢
  refine⟨rw,rr.map fun r=>(r.1,r.2.1),rfl,.inl (SqL.of (by rw [jW];exact w10)),fun y hy=>?_,by rw [List.length_map];omega,?_,fun rs1 q2 hpm2 hpw hq2=>?_⟩
  ·obtain⟨x,hx,rfl⟩:=List.mem_map.mp hy
   exact⟨_,Ra10 x hx⟩
  ·rw [List.map_map]
   exact D'.nodup
  obtain⟨rs',hp2,e2'⟩:=jm (fun r:Addr×Row=>(r.1,r.2.1)) rs1 _ hpm2
  subst e2'
  rw [jW]
  have u0:=am (o:=.lst (aq rs')) (ae.refl H12) hq2
  have q13:upd H12 q2 (.lst (aq rs')) q2=some (.lst (aq rs')):=ah
  generalize upd H12 q2 (.lst (aq rs'))=H13 at u0 q13 ⊢
  refine⟨_,rfl,pl,_,rfl,.inl ⟨SqL.of (u0 _ _ L12),fun pa hpa=>?_⟩⟩
  have u1:=am (o:=.tup (ps.map V.str)) (ae.refl H13) hpa
  have a14:upd H13 pa (.tup (ps.map V.str)) pa=some (.tup (ps.map V.str)):=ah
  generalize upd H13 pa (.tup (ps.map V.str))=H14 at u1 a14 ⊢
  refine⟨_,rfl,q2,_,rfl,.inl ⟨SqL.of (u1 _ _ q13),fun ra hra=>?_⟩⟩
  have u2:=am (o:=.tup (aq rs')) (ae.refl H14) hra
  have a15:upd H14 ra (.tup (aq rs')) ra=some (.tup (aq rs')):=ah
  generalize upd H14 ra (.tup (aq rs'))=H15 at u2 a15 ⊢
  refine⟨by show 2<=sizeLine;decide,fun u hu=>?_⟩
  have u3:=am (o:=.tup [.ref pa,.ref ra]) (ae.refl H15) hu
  have a16:upd H15 u (.tup [.ref pa,.ref ra]) u=some (.tup [.ref pa,.ref ra]):=ah
  generalize upd H15 u (.tup [.ref pa,.ref ra])=H16 at u3 a16 ⊢
  refine⟨_,rfl,by show 2<=sizeLine;decide,fun v hv=>?_⟩
  have u4:=am (o:=.tup [.ref u,.str root]) (ae.refl H16) hv
  have s8v:=u0.trans (u1.trans (u2.trans (u3.trans u4)))
  refine k v u pa ra root ps rs' _ (P12.keep fun o e=>s8v _ _ e) ah ⟨u4 _ _ a16,u4 _ _ (u3 _ _ (u2 _ _ a14)),u4 _ _ (u3 _ _ a15),fun x hx=>s8v _ _ (Ra10 x (hp2.mem_iff.mp hx))⟩ ⟨?_,pnm,psw,fun r hr=>?_,?_,by omega,?_⟩ (by omega) (by rw [hp2.length_eq];omega) hroot (K12.of_same s8v)
  ·intro z;rw [z] at plen;simp at plen;omega
  ·obtain⟨x,hx,rfl⟩:=List.mem_map.mp hr
   have hxr:=hp2.mem_iff.mp hx
   obtain⟨y1,y2,y3⟩:=Ro x hxr
   exact⟨D'.name (by rw [nms,List.length_map];omega) _ (List.mem_map_of_mem (f:=fun z:Addr×Row=>z.2.1) hxr),y1,y2,y3⟩
  ·rw [List.map_map] at hpw ⊢;exact hpw
  ·rw [List.length_map,hp2.length_eq];omega
end
end K83
namespace L2
open PySem PyProof.Rows
section
variable {X:Cx}
noncomputable def uP (K:PySem.W.Frag):V->V->Hp->VK->Prop:=fun x y H Q=>∃p xs i v,x=.ref p/\y=.int i/\SqL K H p xs/\0<=i/\xs[i.toNat]?=some v/\Q v H
theorem kj:m8 X (uP X.K):=by
 intro pins s σ H x y v u Q I rx ry h
 obtain⟨p,xs,i,z,rfl,rfl,hq,h0,he,q⟩:=h
 cases rx
 obtain⟨t,rfl⟩:=ry
 obtain⟨its,r,pl,hz⟩:=I.list hq
 obtain⟨w,ew,rw'⟩:=r.get he
 have hl:=r.length
 have hlt:i.toNat < xs.length:=(List.getElem?_eq_some_iff.mp he).1
 have hn:=c9
 exact wpAny_getItem_list pl.isList h0 (by omega) (by simpa using ew) ⟨z,H,I,rw',q⟩
theorem oy:bo X (.builtin "len") (fun xs H Q=>∃a kvs,xs=[V.ref a]/\Rd H a (.dK kvs)/\Q (.int kvs.length) H):=by
 intro pins s σ H xs us Q I r h
 obtain⟨a,kvs,rfl,ha,q⟩:=h
 obtain⟨u,rfl,ru⟩:=vals1 r
 cases ru
 exact mE I ha fun t s' I'=>⟨.int kvs.length,H,I',⟨t,rfl⟩,q⟩
theorem kP {x:Int}{n:Nat} (h:x.natAbs < 2 ^ n):Builtin.Int.intBits x<=n:=by
 unfold Builtin.Int.intBits
 split
 ·exact Nat.zero_le _
 ·rename_i h0
  have:x.natAbs≠0:=fun z=>h0 (by simpa using Int.natAbs_eq_zero.mp z)
  have:=(Nat.log2_lt this).mpr h
  omega
noncomputable def vV (i j:Int):Prop:=i.natAbs < 2 ^ 3000/\j.natAbs < 2 ^ 3000
theorem hU:OpR X (binaryOp .Mult) (rI vV fun i j=>.int (i * j)):=opI fun _ _ _ _ _ _ _ hc q=>mul_int q (IntMulOk.of_bits (Nat.le_trans (kP hc.1) (by decide)) (Nat.le_trans (kP hc.2) (by decide)))
noncomputable def vm (i j:Int):Prop:=j≠0/\j.natAbs < 2 ^ 3000
theorem qy:OpR X (binaryOp .FloorDiv) (rI vm fun i j=>.int (i.fdiv j)):=opI fun i j _ _ _ _ _ hc q=>by
 have h2:j.natAbs < 2 ^ 9000:=Nat.lt_of_lt_of_le hc.2 (Nat.pow_le_pow_right (by decide) (by decide))
 exact floordiv_int hc.1 q (.inl (PyProof.noPylong_of_log2 ((Nat.log2_lt (by have:=hc.1;omega)).mpr h2)))
end
theorem ph {K:PySem.W.Frag}{D:Addr}{g:TG}{tk tv:TE}{σ':St}{fin:Hp->Prop}{H1:Hp}{a:Addr}{xs:List V} (Pv:Nat->St->Hp->Prop) (h0:Pv 0 σ' H1) (hl:∀i σ H,i<=xs.length->Pv i σ H->SqL K H a xs)
  (hs:∀i x σ H T,xs[i]?=some x->Pv i σ H->H T=none->g (.ref T) σ (upd H T (.tup [.int i,x])) fun σ2 H2=>tk σ2 H2 (fun y H4=>tv σ2 H4 fun v H5=>∃H6,iH H5 D y v H6/\Pv (i + 1) σ2 H6))
  (hd:∀σ H,Pv xs.length σ H->fin H):iP D (Ite K a) g bq tk tv σ' fin H1:=by
 refine⟨fun i m σ H=>m=xs.length - i/\i<=xs.length/\Pv i σ H,⟨xs.length,by simp,Nat.zero_le _,h0⟩,?_⟩
 rintro i m σ H ⟨rfl,hi,p⟩
 have q1:=hl i σ H hi p
 by_cases h:i < xs.length
 ·refine .inr ⟨⟨xs,xs[i],q1,by simp [h]⟩,fun σ' H'=>Pv (i + 1) σ' H',fun σ' H' z=>⟨xs.length - (i + 1),by omega,rfl,h,z⟩,?_⟩
  rintro v H' ⟨T,x,rfl,hT,rfl,e1⟩
  simpa [bq] using hs i x σ H T (e1 xs q1) p hT
 ·have e:i=xs.length:=by omega
  subst e
  exact .inl ⟨⟨xs,q1,Nat.le_refl _⟩,hd σ H p⟩
theorem jv {K:PySem.W.Frag}{g:TG}{tt:TT}{te:TE}{σ':St}{fin:List V->Hp->Prop}{H1:Hp}{a:Addr}{xs:List V} (hn:xs.length < sizeLine) (Pv:Nat->List V->St->Hp->Prop) (h0:Pv 0 [] σ' H1)
  (hl:∀i zs σ H,i<=xs.length->Pv i zs σ H->zs.length<=i/\SqL K H a xs)
  (hs:∀i x zs σ H T,xs[i]?=some x->Pv i zs σ H->H T=none->g (.ref T) σ (upd H T (.tup [.int i,x])) fun σ2 H2=>tt σ2 H2 fun b H3=>if b=true then te σ2 H3 (fun v H4=>Pv (i + 1) (zs++[v]) σ2 H4) else Pv (i + 1) zs σ2 H3)
  (hd:∀zs σ H,Pv xs.length zs σ H->fin zs H):LcW (Ite K a) g tt te σ' fin H1:=by
 refine⟨fun i m zs σ H=>m=xs.length - i/\i<=xs.length/\Pv i zs σ H,⟨xs.length,by simp,Nat.zero_le _,h0⟩,?_⟩
 rintro i m zs σ H ⟨rfl,hi,p⟩
 obtain⟨q0,q1⟩:=hl i zs σ H hi p
 by_cases hlt:i < xs.length
 ·refine .inr ⟨⟨xs,xs[i],q1,by simp [hlt]⟩,by omega,fun zs' σ2 H2=>Pv (i + 1) zs' σ2 H2,fun zs' σ2 H2 q=>⟨xs.length - (i + 1),by omega,rfl,hlt,q⟩,fun v H' y=>?_⟩
  obtain⟨T,x,rfl,hT,rfl,e1⟩:=y
  exact hs i x zs σ H T (e1 xs q1) p hT
 ·have e:i=xs.length:=by omega
  subst e
  exact .inl ⟨⟨xs,q1,Nat.le_refl _⟩,by omega,hd zs σ H p⟩
theorem rg {K:PySem.W.Frag}{g:TG}{te:TE}{σ':St}{fin:List V->Hp->Prop}{H1:Hp}{a b:Addr}{xs ys:List V} (he:xs.length=ys.length) (hn:xs.length < sizeLine) (Pv:Nat->List V->St->Hp->Prop) (h0:Pv 0 [] σ' H1)
  (hl:∀i zs σ H,i<=xs.length->Pv i zs σ H->zs.length<=i/\SqT K H a xs/\SqT K H b ys)
  (hs:∀i x y zs σ H T,xs[i]?=some x->ys[i]?=some y->Pv i zs σ H->H T=none->g (.ref T) σ (upd H T (.tup [x,y])) fun σ2 H2=>te σ2 H2 (fun v H4=>Pv (i + 1) (zs++[v]) σ2 H4))
  (hd:∀zs σ H,Pv xs.length zs σ H->fin zs H):LcW (Ity K a b) g bq te σ' fin H1:=by
 refine⟨fun i m zs σ H=>m=xs.length - i/\i<=xs.length/\Pv i zs σ H,⟨xs.length,by simp,Nat.zero_le _,h0⟩,?_⟩
 rintro i m zs σ H ⟨rfl,hi,p⟩
 obtain⟨q0,q1,q2⟩:=hl i zs σ H hi p
 by_cases h:i < xs.length
 ·refine .inr ⟨⟨xs,ys,xs[i],ys[i],q1,q2,List.getElem?_eq_getElem h,List.getElem?_eq_getElem (by omega)⟩,by omega,fun zs' σ' H'=>Pv (i + 1) zs' σ' H',fun zs' σ' H' z=>⟨xs.length - (i + 1),by omega,rfl,h,z⟩,?_⟩
  rintro v H' ⟨T,x,y,rfl,hT,rfl,hx,hy⟩
  simpa [bq] using hs i x y zs σ H T (hx xs q1) (hy ys q2) p hT
 ·have e:i=xs.length:=by omega
  subst e
  exact .inl ⟨⟨xs,q1,Nat.le_refl _⟩,by omega,hd zs σ H p⟩
theorem qE {K:PySem.W.Frag}{g:TG}{te:TE}{σ':St}{fin:List V->Hp->Prop}{H1:Hp}{a b:Addr}{xs ys:List V} (he:xs.length=ys.length) (hn:xs.length < sizeLine) (Pv:Nat->List V->St->Hp->Prop) (h0:Pv 0 [] σ' H1)
  (hl:∀i zs σ H,i<=xs.length->Pv i zs σ H->zs.length<=i/\SqL K H a xs/\SqL K H b ys)
  (hs:∀i x y zs σ H T,xs[i]?=some x->ys[i]?=some y->Pv i zs σ H->H T=none->g (.ref T) σ (upd H T (.tup [x,y])) fun σ2 H2=>te σ2 H2 (fun v H4=>Pv (i + 1) (zs++[v]) σ2 H4))
  (hd:∀zs σ H,Pv xs.length zs σ H->fin zs H):LcW (Itz K a b) g bq te σ' fin H1:=by
 have hm:min xs.length ys.length=xs.length:=by omega
 exact qQ (by omega) Pv h0 (fun i zs σ H hi p=>hl i zs σ H (by omega) p) (fun i x y zs σ H T e1 e2 p hT=>by simpa [bq] using hs i x y zs σ H T e1 e2 p hT) (fun zs σ H p=>hd zs σ H (hm ▸ p))
theorem dO (xs:List V):bD xs (some 1) none=xs.drop 1:=by
 unfold bD
 rw [HT.wc,show (1:Int)=((1:Nat):Int) from rfl,HT.wj]
 rcases Nat.le_total 1 xs.length with h | h
 ·rw [Nat.min_eq_left h,List.take_of_length_le (by simp)]
 ·rw [Nat.min_eq_right h,List.drop_length,List.drop_of_length_le h];simp
theorem oF {g:TG}{te:TE}{σ':St}{fin:List V->Hp->Prop}{H1:Hp}{a:Addr}{o:Obj}{kvs:List (Key×V)} (hn:kvs.length < sizeLine) (Pv:Nat->List V->St->Hp->Prop) (h0:Pv 0 [] σ' H1) (hl:∀i ys σ H,i<=kvs.length->Pv i ys σ H->ys.length<=i/\H a=some (.frz o (.dK kvs)))
  (hs:∀i p ys σ H,kvs[i]?=some p->Pv i ys σ H->g (kV p.1) σ H fun σ2 H2=>te σ2 H2 (fun v H4=>Pv (i + 1) (ys++[v]) σ2 H4)) (hd:∀ys σ H,Pv kvs.length ys σ H->fin ys H):LcW (Itk a o) g bq te σ' fin H1 :=
 oY hn Pv h0 hl (fun i p ys σ H e q=>by simpa [bq] using hs i p ys σ H e q) hd
end L2
namespace DT
noncomputable def sm:Nat->(Nat->Int)->Int
 | 0,_=>0
 | n + 1,f=>sm n f + f n
noncomputable def sg (i:Nat):Int:=if i % 2=0 then 1 else -1
noncomputable def skip (i r:Nat):Nat:=if r < i then r else r + 1
noncomputable abbrev Mx:=Nat->Nat->Int
noncomputable def dt:Nat->Mx->Int
 | 0,_=>1
 | n + 1,M=>sm (n + 1) fun i=>sg i * M i 0 * dt n (fun r c=>M (skip i r) (c + 1))
theorem c7 (i:Nat):sg (i + 1)=- sg i:=by
 unfold sg
 rcases Nat.mod_two_eq_zero_or_one i with h | h
 ·rw [if_neg (by omega),if_pos h]
 ·rw [if_pos (by omega),if_neg (by omega)];rfl
theorem vh (i:Nat):sg i * sg i=1:=by
 unfold sg
 split <;> rfl
theorem dA {n:Nat}{f g:Nat->Int} (h:∀i,i < n->f i=g i):sm n f=sm n g:=by
 induction n with
 | zero=>rfl
 | succ n ih=>rw [sm,sm,ih fun i hi=>h i (by omega),h n (by omega)]
theorem dC {n:Nat}{f:Nat->Int} (h:∀i,i < n->f i=0):sm n f=0:=by
 induction n with
 | zero=>rfl
 | succ n ih=>rw [sm,ih fun i hi=>h i (by omega),h n (by omega)];rfl
theorem ip (n:Nat) (f g:Nat->Int) (a b:Int):sm n (fun i=>a * f i + b * g i)=a * sm n f + b * sm n g:=by
 induction n with
 | zero=>simp [sm]
 | succ n ih=>simp only [sm];rw [ih];grind
theorem lP (n:Nat) (f:Nat->Int) (a:Int):sm n (fun i=>a * f i)=a * sm n f:=by
 induction n with
 | zero=>simp [sm]
 | succ n ih=>simp only [sm];rw [ih];grind
theorem dH {n k:Nat} (hk:k<=n) (f:Nat->Int):sm (n + 1) f=f k + sm n (fun i=>f (skip k i)):=by
 induction n with
 | zero =>
  have:k=0:=by omega
  subst this
  simp [sm]
 | succ n ih =>
  by_cases c:k=n + 1
  ·subst c
   have e:sm (n + 1) (fun i=>f (skip (n + 1) i))=sm (n + 1) f:=dA fun i hi=>by simp [skip,hi]
   rw [e,sm];omega
  ·have e:=ih (by omega)
   rw [sm,e,sm]
   have:skip k n=n + 1:=by unfold skip;rw [if_neg (by omega)]
   rw [this];omega
theorem aZ {n:Nat}{M N:Mx} (h:∀r c,r < n->c < n->M r c=N r c):dt n M=dt n N:=by
 induction n generalizing M N with
 | zero=>rfl
 | succ n ih =>
  rw [dt,dt]
  refine dA fun i hi=>?_
  rw [h i 0 hi (by omega),ih fun r c hr hc=>h _ _ (by unfold skip;split <;> omega) (by omega)]
theorem lL {n k:Nat} (hk:k < n) {M A B:Mx} (a b:Int) (hA:∀r c,r < n->c < n->r≠k->A r c=M r c) (hB:∀r c,r < n->c < n->r≠k->B r c=M r c) (h:∀c,c < n->M k c=a * A k c + b * B k c) :
  dt n M=a * dt n A + b * dt n B:=by
 induction n generalizing M A B k with
 | zero=>omega
 | succ n ih =>
  rw [dt,dt,dt,<- ip]
  refine dA fun i hi=>?_
  by_cases c:i=k
  ·subst c
   have e1:dt n (fun r c=>A (skip i r) (c + 1))=dt n (fun r c=>M (skip i r) (c + 1)):=aZ fun r c hr hc=>hA _ _ (by unfold skip;split <;> omega) (by omega) (by unfold skip;split <;> omega)
   have e2:dt n (fun r c=>B (skip i r) (c + 1))=dt n (fun r c=>M (skip i r) (c + 1)):=aZ fun r c hr hc=>hB _ _ (by unfold skip;split <;> omega) (by omega) (by unfold skip;split <;> omega)
   rw [e1,e2,h 0 (by omega)]
   grind
  ·obtain⟨k',hk',e⟩:∃k',k' < n/\skip i k'=k:=by
    by_cases d:k < i
    ·exact⟨k,by omega,by simp [skip,d]⟩
    ·exact⟨k - 1,by omega,by unfold skip;rw [if_neg (by omega)];omega⟩
   have hne:∀r,r≠k'->skip i r≠k:=fun r hr z=>hr (by rw [<- e] at z;unfold skip at z;split at z <;> split at z <;> omega)
   have q:=ih (k:=k') hk' (M:=fun r c=>M (skip i r) (c + 1)) (A:=fun r c=>A (skip i r) (c + 1)) (B:=fun r c=>B (skip i r) (c + 1))
    (fun r c hr hc hne'=>hA _ _ (by unfold skip;split <;> omega) (by omega) (hne r hne')) (fun r c hr hc hne'=>hB _ _ (by unfold skip;split <;> omega) (by omega) (hne r hne')) (fun c hc=>by simp only [e];exact h _ (by omega))
   rw [q,hA i 0 hi (by omega) c,hB i 0 hi (by omega) c]
   grind
theorem lQ {n k:Nat} (hk:k + 1 < n) {M:Mx} (h:∀c,c < n->M k c=M (k + 1) c):dt n M=0:=by
 induction n generalizing M k with
 | zero=>omega
 | succ n ih =>
  rw [dt,dH (k:=k) (by omega)]
  obtain⟨m,rfl⟩:∃m,n=m + 1:=⟨n - 1,by omega⟩
  rw [dH (k:=k) (by omega)]
  have e1:skip k k=k + 1:=by simp [skip]
  rw [e1]
  have e2:dt (m + 1) (fun r c=>M (skip (k + 1) r) (c + 1))=dt (m + 1) (fun r c=>M (skip k r) (c + 1)):=aZ fun r c hr hc=>by
   by_cases d:r=k
   ·subst d
    rw [show skip (r + 1) r=r by simp [skip],show skip r r=r + 1 by simp [skip]]
    exact h _ (by omega)
   ·have:skip (k + 1) r=skip k r:=by unfold skip;split <;> split <;> omega
    rw [this]
  rw [e2,c7,<- h 0 (by omega)]
  have z:sm m (fun i=>sg (skip k (skip k i)) * M (skip k (skip k i)) 0 * dt (m + 1) (fun r c=>M (skip (skip k (skip k i)) r) (c + 1)))=0:=dC fun i hi=>by
   generalize hj:skip k (skip k i)=j
   have hj':j < m + 2/\j≠k/\j≠k + 1:=by
    unfold skip at hj
    grind
   obtain⟨k',hk',e1,e2⟩:∃k',k' + 1 < m + 1/\skip j k'=k/\skip j (k' + 1)=k + 1:=by
    by_cases d:k < j
    ·exact⟨k,by omega,by simp [skip,d],by unfold skip;rw [if_pos (by omega)]⟩
    ·exact⟨k - 1,by omega,by unfold skip;rw [if_neg (by omega)];omega,by unfold skip;rw [if_neg (by omega)];omega⟩
   rw [ih (k:=k') hk' fun c hc=>by simp only [e1,e2];exact h _ (by omega)]
   exact Int.mul_zero _
  rw [z]
  grind
noncomputable def aK (M:Mx) (k:Nat) (u:Nat->Int):Mx:=fun r c=>if r=k then u c else M r c
theorem eI {n k:Nat} (hk:k < n) (M:Mx) (u v:Nat->Int) (a b:Int):dt n (aK M k fun c=>a * u c + b * v c)=a * dt n (aK M k u) + b * dt n (aK M k v) :=
 lL hk a b (fun r c _ _ h=>by simp [aK,h]) (fun r c _ _ h=>by simp [aK,h]) fun c _=>by simp [aK]
noncomputable def swp (k l r:Nat):Nat:=if r=k then l else if r=l then k else r
theorem je {n k l:Nat} (hk:k < n) (hl:l < n) (hkl:k≠l) (al:∀N:Mx,(∀c,c < n->N k c=N l c)->dt n N=0) (M:Mx):dt n (fun r c=>M (swp k l r) c)=- dt n M:=by
 have h0:=al (aK (aK M k fun c=>1 * M k c + 1 * M l c) l fun c=>1 * M k c + 1 * M l c) fun c _=>by simp [aK,hkl]
 rw [eI hl] at h0
 have sw:∀(u v:Nat->Int),aK (aK M k u) l v=aK (aK M l v) k u:=fun u v=>by
  funext r c
  unfold aK
  by_cases a:r=k
  ·subst a;simp [hkl]
  ·simp [a]
 rw [sw,sw,eI hk,eI hk] at h0
 have z1:dt n (aK (aK M l fun c=>M k c) k fun c=>M k c)=0:=al _ fun c _=>by simp [aK,Ne.symm hkl]
 have z2:dt n (aK (aK M l fun c=>M l c) k fun c=>M l c)=0:=al _ fun c _=>by simp [aK,Ne.symm hkl]
 have e1:aK (aK M l fun c=>M k c) k (fun c=>M l c)=fun r c=>M (swp k l r) c:=by
  funext r c
  unfold aK swp
  by_cases a:r=k
  ·simp [a]
  ·by_cases b:r=l
   ·subst b;simp [a]
   ·simp [a,b]
 have e2:aK (aK M l fun c=>M l c) k (fun c=>M k c)=M:=by
  funext r c
  unfold aK
  by_cases a:r=k
  ·simp [a]
  ·by_cases b:r=l
   ·subst b;simp [a]
   ·simp [a,b]
 rw [z1,z2,e1,e2] at h0
 grind
theorem lD {n k l:Nat} (hkl:k < l) (hl:l < n) {M:Mx} (h:∀c,c < n->M k c=M l c):dt n M=0:=by
 obtain⟨d,rfl⟩:∃d,l=k + 1 + d:=⟨l - k - 1,by omega⟩
 clear hkl
 induction d generalizing M with
 | zero=>exact lQ hl h
 | succ d ih =>
  have sw:=je (n:=n) (k:=k + 1 + d) (l:=k + 1 + (d + 1)) (by omega) hl (by omega) (fun N hN=>lQ (k:=k + 1 + d) hl hN) M
  have z:=ih (M:=fun r c=>M (swp (k + 1 + d) (k + 1 + (d + 1)) r) c) (by omega) fun c hc=>by
   have e1:swp (k + 1 + d) (k + 1 + (d + 1)) k=k:=by unfold swp;rw [if_neg (by omega),if_neg (by omega)]
   have e2:swp (k + 1 + d) (k + 1 + (d + 1)) (k + 1 + d)=k + 1 + (d + 1):=by simp [swp]
   simp only [e1,e2]
   exact h c hc
  omega
theorem gU {n k l:Nat} (hkl:k≠l) (hk:k < n) (hl:l < n) {M:Mx} (h:∀c,c < n->M k c=M l c):dt n M=0:=by
 rcases Nat.lt_or_gt_of_ne hkl with c | c
 ·exact lD c hl h
 ·exact lD c hk fun x hx=>(h x hx).symm
theorem qK {n k l:Nat} (hk:k < n) (hl:l < n) (hkl:k≠l) (M:Mx):dt n (fun r c=>M (swp k l r) c)=- dt n M :=
 je hk hl hkl (fun N hN=>gU hkl hk hl hN) M
theorem jR (n:Nat) (a:Int) (M:Mx):dt n (fun r c=>a * M r c)=a ^ n * dt n M:=by
 induction n generalizing M with
 | zero=>simp [dt]
 | succ n ih =>
  rw [dt,dt,<- lP]
  refine dA fun i hi=>?_
  rw [ih,Int.pow_succ]
  grind
theorem lr {n:Nat}{M:Mx} (h:∀r,r < n + 1->M r 0=0):dt (n + 1) M=0:=by
 rw [dt]
 exact dC fun i hi=>by rw [h i hi];simp
noncomputable def cond (M:Mx):Mx:=fun r c=>M 0 0 * M (r + 1) (c + 1) - M (r + 1) 0 * M 0 (c + 1)
noncomputable def bt (M:Mx) (k:Nat):Mx:=fun r c=>if 0 < r/\r<=k then M 0 0 * M r c - M r 0 * M 0 c else M r c
theorem jT (n:Nat) (M:Mx):∀k,k<=n->dt (n + 1) (bt M k)=M 0 0 ^ k * dt (n + 1) M
 | 0,_=>by
  rw [show bt M 0=M by funext r c;unfold bt;rw [if_neg (by omega)]];simp
 | k + 1,hk=>by
  have ih:=jT n M k (by omega)
  have z:dt (n + 1) (aK (bt M k) (k + 1) fun c=>M 0 c)=0:=gU (k:=0) (l:=k + 1) (by omega) (by omega) (by omega) fun c _=>by simp [aK,bt]
  rw [lL (k:=k + 1) (by omega) (A:=bt M k) (B:=aK (bt M k) (k + 1) fun c=>M 0 c) (M 0 0) (- M (k + 1) 0),ih,z,Int.pow_succ]
  ·grind
  ·intro r c _ _ hr
   unfold bt
   by_cases a:0 < r/\r<=k
   ·rw [if_pos a,if_pos (by omega)]
   ·rw [if_neg a,if_neg (by omega)]
  ·intro r c _ _ hr
   unfold aK
   rw [if_neg hr]
   unfold bt
   by_cases a:0 < r/\r<=k
   ·rw [if_pos a,if_pos (by omega)]
   ·rw [if_neg a,if_neg (by omega)]
  ·intro c _
   unfold aK bt
   rw [if_pos (by omega),if_neg (by omega),if_pos rfl]
   grind
theorem mX (n:Nat) (M:Mx):M 0 0 ^ n * dt (n + 1) M=M 0 0 * dt n (cond M):=by
 rw [<- jT n M n (Nat.le_refl _),dt,dH (k:=0) (by omega)]
 have z:sm n (fun i=>sg (skip 0 i) * bt M n (skip 0 i) 0 * dt n (fun r c=>bt M n (skip (skip 0 i) r) (c + 1)))=0:=dC fun i hi=>by
  have:bt M n (skip 0 i) 0=0:=by
   rw [show skip 0 i=i + 1 by simp [skip]]
   unfold bt
   rw [if_pos (by omega)]
   grind
  rw [this];simp
 have e:bt M n 0 0=M 0 0:=by simp [bt]
 have g:dt n (fun r c=>bt M n (skip 0 r) (c + 1))=dt n (cond M):=aZ fun r c hr hc=>by
  rw [show skip 0 r=r + 1 by simp [skip]]
  unfold bt cond
  rw [if_pos (by omega)]
 rw [z,e,g]
 simp [sg]
noncomputable def bd (k i j:Nat) (M:Mx):Mx:=fun r c=>M (if r < k then r else i) (if c < k then c else j)
theorem rP {k i j:Nat} (M:Mx):∀r c,cond (bd (k + 1) (i + 1) (j + 1) M) r c=bd k i j (cond M) r c:=fun r c=>by
 unfold cond bd
 have e1:∀r,(if r + 1 < k + 1 then r + 1 else i + 1)=(if r < k then r else i) + 1:=fun r=>by split <;> split <;> omega
 have e2:∀r,(if r + 1 < k + 1 then r + 1 else j + 1)=(if r < k then r else j) + 1:=fun r=>by split <;> split <;> omega
 rw [e1,e2]
 simp
theorem iO (n:Nat):∀(k:Nat) (M:Mx),(∀j,j<=k->dt j M≠0)->dt k M ^ n * dt (k + (n + 1)) M=dt (n + 1) (fun i j=>dt (k + 1) (bd k (k + i) (k + j) M))
 | 0,M,_=>by
  have:dt 0 M=1:=rfl
  rw [this]
  simp only [Int.one_pow,Int.one_mul,Nat.zero_add]
  refine aZ fun r c _ _=>?_
  simp [dt,sm,sg,bd]
 | k + 1,M,h=>by
  have hp:M 0 0≠0:=by
   have:=h 1 (by omega)
   simpa [dt,sm,sg] using this
  generalize hp':M 0 0=p at hp
  have c1:∀m,p ^ m * dt (m + 1) M=p * dt m (cond M):=fun m=>by rw [<- hp'];exact mX m M
  have hpm:∀m:Nat,p ^ m≠0:=fun m=>Int.pow_ne_zero hp
  have ih:=iO n k (cond M) fun j hj z=>by
   have:=c1 j
   rw [z,Int.mul_zero] at this
   rcases Int.mul_eq_zero.mp this with q | q
   ·exact hpm _ q
   ·exact h (j + 1) (by omega) q
  have e1:dt (n + 1) (fun i j=>p * dt (k + 1) (bd k (k + i) (k + j) (cond M)))=p ^ (n + 1) * dt (n + 1) (fun i j=>dt (k + 1) (bd k (k + i) (k + j) (cond M))):=jR _ _ _
  have e2:dt (n + 1) (fun i j=>p * dt (k + 1) (bd k (k + i) (k + j) (cond M)))=dt (n + 1) (fun i j=>p ^ (k + 1) * dt (k + 1 + 1) (bd (k + 1) (k + 1 + i) (k + 1 + j) M)):=aZ fun r c _ _=>by
   have q:=mX (k + 1) (bd (k + 1) (k + r + 1) (k + c + 1) M)
   have e:bd (k + 1) (k + r + 1) (k + c + 1) M 0 0=p:=by simp [bd,hp']
   rw [e,aZ fun r' c' _ _=>rP M r' c'] at q
   rw [<- q,show k + 1 + r=k + r + 1 by omega,show k + 1 + c=k + c + 1 by omega]
  rw [e2,jR,<- ih] at e1
  have c2:=c1 k
  have c3:=c1 (k + (n + 1))
  rw [show k + 1 + (n + 1)=k + (n + 1) + 1 by omega]
  have key:p ^ ((k + 1) * (n + 1)) * (dt (k + 1) M ^ n * dt (k + (n + 1) + 1) M)=p ^ ((k + 1) * (n + 1)) * dt (n + 1) (fun i j=>dt (k + 1 + 1) (bd (k + 1) (k + 1 + i) (k + 1 + j) M)):=by
   rw [Int.pow_mul,e1]
   have a1:p ^ (n + 1) * (dt k (cond M) ^ n * dt (k + (n + 1)) (cond M))=(p * dt k (cond M)) ^ n * (p * dt (k + (n + 1)) (cond M)):=by
    rw [Int.mul_pow,Int.pow_succ];grind
   rw [a1,<- c2,<- c3,Int.mul_pow,<- Int.pow_mul,<- Int.pow_mul]
   have a2:(k + 1) * (n + 1)=k * n + (k + (n + 1)):=by grind
   rw [a2,Int.pow_add]
   grind
  exact Int.eq_of_mul_eq_mul_left (hpm _) key
noncomputable def at2 (L:List (List Int)):Mx:=fun r c=>(((L[r]?).getD [])[c]?).getD 0
noncomputable def clr (last:Int):List (List Int)->List (List Int)
 | []=>[]
 | f::R=>R.map fun row=>List.zipWith (fun a b=>Int.fdiv (a * f.headD 0 - row.headD 0 * b) last) row.tail f.tail
noncomputable def swL (L:List (List Int)) (f:Nat):List (List Int):=(L.set 0 ((L[f]?).getD [])).set f ((L[0]?).getD [])
theorem um {n:Nat}{f:Nat->Int}{b:Nat} (h:∀i,i < n->(f i).natAbs<=b):(sm n f).natAbs<=n * b:=by
 induction n with
 | zero=>simp [sm]
 | succ n ih =>
  have h1:=ih fun i hi=>h i (by omega)
  have h2:=h n (by omega)
  rw [sm,Nat.succ_mul]
  have:=Int.natAbs_add_le (sm n f) (f n)
  omega
noncomputable def fac:Nat->Nat
 | 0=>1
 | n + 1=>(n + 1) * fac n
theorem ie {b:Nat}:∀{n:Nat}{M:Mx},(∀r c,r < n->c < n->(M r c).natAbs<=b)->(dt n M).natAbs<=fac n * b ^ n
 | 0,M,_=>by simp [dt,fac]
 | n + 1,M,h=>by
  rw [dt]
  refine Nat.le_trans (um (b:=b * (fac n * b ^ n)) fun i hi=>?_) (Nat.le_of_eq ?_)
  ·rw [Int.natAbs_mul,Int.natAbs_mul]
   have h1:(sg i).natAbs=1:=by unfold sg;split <;> rfl
   rw [h1,Nat.one_mul]
   exact Nat.mul_le_mul (h i 0 hi (by omega)) (ie fun r c hr hc=>h _ _ (by unfold skip;split <;> omega) (by omega))
  ·rw [fac,Nat.pow_succ,Nat.mul_assoc]
   congr 1
   rw [Nat.mul_comm b,Nat.mul_assoc]
noncomputable def Bar (N:Nat) (M0:Mx) (L:List (List Int)) (sign last:Int):Prop :=
 ∃(Mc:Mx) (k:Nat),k + L.length=N/\(∀row∈L,row.length=L.length)/\(sign=1\/sign=-1)/\sign * dt N Mc=dt N M0/\last=dt k Mc/\(∀j,j<=k->dt j Mc≠0) /\
  (∀r,r < N->∃r',r' < N/\∀c,Mc r c=M0 r' c)/\∀i j,i < L.length->j < L.length->at2 L i j=dt (k + 1) (bd k (k + i) (k + j) Mc)
theorem Bar.start {L:List (List Int)} (h:∀row∈L,row.length=L.length):Bar L.length (at2 L) L 1 1 :=
 ⟨at2 L,0,by omega,h,.inl rfl,by omega,rfl,fun j hj=>by
  cases j with
  | zero=>show (1:Int)≠0;decide
  | succ j=>omega,fun r hr=>⟨r,hr,fun _=>rfl⟩,fun i j _ _=>by simp [dt,sm,sg,bd]⟩
theorem Bar.done {N:Nat}{M0:Mx}{sign last:Int} (h:Bar N M0 [] sign last):sign * last=dt N M0:=by
 obtain⟨Mc,k,hk,_,hs,e,hl,_⟩:=h
 simp at hk
 subst hk
 rw [hl];exact e
theorem Bar.ne {N:Nat}{M0:Mx}{L:List (List Int)}{sign last:Int} (h:Bar N M0 L sign last):last≠0:=by
 obtain⟨Mc,k,_,_,_,_,rfl,z,_⟩:=h
 exact z k (Nat.le_refl _)
theorem Bar.zero {N:Nat}{M0:Mx}{L:List (List Int)}{sign last:Int} (h:Bar N M0 L sign last) (hne:L≠[]) (hz:∀r,r < L.length->at2 L r 0=0):dt N M0=0:=by
 obtain⟨Mc,k,hk,_,hs,e,hl,hd,_,hm⟩:=h
 obtain⟨n,hn⟩:∃n,L.length=n + 1:=⟨L.length - 1,by have:=List.length_pos_iff.mpr hne;omega⟩
 have s:=iO n k Mc hd
 rw [show dt (n + 1) (fun i j=>dt (k + 1) (bd k (k + i) (k + j) Mc))=dt (n + 1) (at2 L) from aZ fun r c hr hc=>(hm r c (by omega) (by omega)).symm,lr fun r hr=>hz r (by omega),show k + (n + 1)=N by omega] at s
 rcases Int.mul_eq_zero.mp s with q | q
 ·exact absurd q (Int.pow_ne_zero (hd k (Nat.le_refl _)))
 ·rw [<- e,q,Int.mul_zero]
theorem lM {L:List (List Int)}{f:Nat} (hf:f < L.length) (h0:f≠0) {r:Nat} (hr:r < L.length) (c:Nat):at2 (swL L f) r c=at2 L (swp 0 f r) c:=by
 unfold at2 swL swp
 by_cases a:r=0
 ·subst a
  rw [List.getElem?_set_ne (by omega),List.getElem?_set_self (by omega)]
  simp
 ·by_cases b:r=f
  ·subst b
   rw [List.getElem?_set_self (by simp;omega)]
   simp [a]
  ·rw [List.getElem?_set_ne (by omega),List.getElem?_set_ne (by omega)]
   simp [a,b]
theorem Bar.swap {N:Nat}{M0:Mx}{L:List (List Int)}{sign last:Int} (h:Bar N M0 L sign last) {f:Nat} (hf:f < L.length) (h0:f≠0):Bar N M0 (swL L f) (-sign) last:=by
 obtain⟨Mc,k,hk,hr,hs,e,hl,hd,hp,hm⟩:=h
 have hlen:(swL L f).length=L.length:=by simp [swL]
 have low:∀r,r < k->swp k (k + f) r=r:=fun r hr=>by unfold swp;rw [if_neg (by omega),if_neg (by omega)]
 have hdt:∀j,j<=k->dt j (fun r c=>Mc (swp k (k + f) r) c)=dt j Mc:=fun j hj=>aZ fun r c hr _=>by rw [low r (by omega)]
 refine⟨fun r c=>Mc (swp k (k + f) r) c,k,by omega,fun row hrow=>?_,by rcases hs with rfl | rfl;exact .inr rfl;exact .inl rfl,?_,?_,fun j hj=>by rw [hdt j hj];exact hd j hj,fun r hr=>?_,fun i j hi hj=>?_⟩
 ·rw [hlen]
  rcases List.mem_or_eq_of_mem_set hrow with q | q
  ·rcases List.mem_or_eq_of_mem_set q with q | q
   ·exact hr row q
   ·rw [q,List.getElem?_eq_getElem hf]
    exact hr _ (List.getElem_mem hf)
  ·rw [q,List.getElem?_eq_getElem (by omega:0 < L.length)]
   exact hr _ (List.getElem_mem _)
 ·rw [qK (k:=k) (l:=k + f) (by omega) (by omega) (by omega),<- e]
  grind
 ·rw [hl,hdt k (Nat.le_refl _)]
 ·refine hp _ ?_
  unfold swp
  split
  ·omega
  ·split <;> omega
 ·rw [hlen] at hi hj
  rw [lM hf h0 hi,hm _ j (by unfold swp;split;omega;split <;> omega) hj]
  refine aZ fun r c _ _=>?_
  unfold bd
  by_cases a:r < k
  ·simp only [if_pos a,low r a]
  ·simp only [if_neg a]
   rw [show swp k (k + f) (k + i)=k + swp 0 f i by unfold swp;grind]
theorem sh {f:List Int}{R:List (List Int)}{last:Int}{n:Nat} (h:∀row∈f::R,row.length=n + 1) {i j:Nat} (hi:i < R.length) (hj:j < n) :
  at2 (clr last (f::R)) i j=Int.fdiv (at2 (f::R) (i + 1) (j + 1) * at2 (f::R) 0 0 - at2 (f::R) (i + 1) 0 * at2 (f::R) 0 (j + 1)) last:=by
 have h1:=h f List.mem_cons_self
 have h2:=h R[i] (List.mem_cons_of_mem _ (List.getElem_mem hi))
 unfold at2 clr
 simp only [List.getElem?_cons_succ,List.getElem?_cons_zero,List.getElem?_map,List.getElem?_eq_getElem hi,Option.map_some,Option.getD_some]
 generalize R[i]=row at h2
 match f,row,h1,h2 with
 | a::f',b::r',h1,h2 =>
  simp at h1 h2
  simp [List.getElem?_zipWith,List.getElem?_eq_getElem (show j < f'.length by omega),List.getElem?_eq_getElem (show j < r'.length by omega)]
theorem uf (X:Mx):dt 2 X=X 0 0 * X 1 1 - X 1 0 * X 0 1:=by
 simp [dt,sm,sg,skip]
 grind
theorem Bar.clear {N:Nat}{M0:Mx}{L:List (List Int)}{sign last:Int} (h:Bar N M0 L sign last) (hne:L≠[]) (hp:at2 L 0 0≠0):Bar N M0 (clr last L) sign (at2 L 0 0):=by
 obtain⟨Mc,k,hk,hr,hs,e,hl,hd,hq,hm⟩:=h
 cases L with
 | nil=>exact absurd rfl hne
 | cons f R =>
  have hlen:(clr last (f::R)).length=R.length:=by simp [clr]
  have h00:at2 (f::R) 0 0=dt (k + 1) Mc:=by
   rw [hm 0 0 (by simp) (by simp)]
   refine aZ fun r c hr hc=>?_
   unfold bd
   have e1:(if r < k then r else k + 0)=r:=by split <;> omega
   have e2:(if c < k then c else k + 0)=c:=by split <;> omega
   rw [e1,e2]
  refine⟨Mc,k + 1,by rw [hlen];simp at hk;omega,fun row hrow=>?_,hs,e,h00,fun j hj=>?_,hq,fun i j hi hj=>?_⟩
  ·rw [hlen]
   obtain⟨x,hx,rfl⟩:=List.mem_map.mp hrow
   have:=hr x (List.mem_cons_of_mem _ hx)
   have h1:=hr f List.mem_cons_self
   simp at this h1
   simp [this,h1]
  ·rcases Nat.lt_or_ge k j with c | c
   ·have:j=k + 1:=by omega
    subst this
    rw [<- h00];exact hp
   ·exact hd j c
  ·rw [hlen] at hi hj
   rw [sh (n:=R.length) (fun row hrow=>by rw [hr row hrow];simp) hi hj]
   generalize hB:bd (k + 1) (k + 1 + i) (k + 1 + j) Mc=B
   have low:∀r c,r < k + 1->c < k + 1->B r c=Mc r c:=fun r c h1 h2=>by rw [<- hB];simp [bd,h1,h2]
   have s:=iO 1 k B fun j' hj'=>by
    rw [aZ fun r c hr hc=>low r c (by omega) (by omega)]
    exact hd j' hj'
   rw [aZ (n:=k) fun r c hr hc=>low r c (by omega) (by omega),<- hl,uf,Int.pow_succ,Int.pow_zero,Int.one_mul] at s
   have b00:dt (k + 1) (bd k (k + 0) (k + 0) B)=at2 (f::R) 0 0:=by
    rw [hm 0 0 (by simp) (by simp)]
    refine aZ fun r c _ _=>?_
    unfold bd
    exact low _ _ (by split <;> omega) (by split <;> omega)
   have b11:dt (k + 1) (bd k (k + 1) (k + 1) B)=at2 (f::R) (i + 1) (j + 1):=by
    rw [hm (i + 1) (j + 1) (by simp;omega) (by simp;omega)]
    refine aZ fun r c _ _=>?_
    rw [<- hB]
    unfold bd
    have e1:∀r i,(if (if r < k then r else k + 1) < k + 1 then (if r < k then r else k + 1) else k + 1 + i)=(if r < k then r else k + (i + 1)):=fun r i=>by grind
    rw [e1,e1]
   have b10:dt (k + 1) (bd k (k + 1) (k + 0) B)=at2 (f::R) (i + 1) 0:=by
    rw [hm (i + 1) 0 (by simp;omega) (by simp)]
    refine aZ fun r c _ _=>?_
    rw [<- hB]
    unfold bd
    have e1:∀r i,(if (if r < k then r else k + 1) < k + 1 then (if r < k then r else k + 1) else k + 1 + i)=(if r < k then r else k + (i + 1)):=fun r i=>by grind
    have e2:∀r i,(if (if r < k then r else k + 0) < k + 1 then (if r < k then r else k + 0) else k + 1 + i)=(if r < k then r else k + 0):=fun r i=>by grind
    rw [e1,e2]
   have b01:dt (k + 1) (bd k (k + 0) (k + 1) B)=at2 (f::R) 0 (j + 1):=by
    rw [hm 0 (j + 1) (by simp) (by simp;omega)]
    refine aZ fun r c _ _=>?_
    rw [<- hB]
    unfold bd
    have e1:∀r i,(if (if r < k then r else k + 1) < k + 1 then (if r < k then r else k + 1) else k + 1 + i)=(if r < k then r else k + (i + 1)):=fun r i=>by grind
    have e2:∀r i,(if (if r < k then r else k + 0) < k + 1 then (if r < k then r else k + 0) else k + 1 + i)=(if r < k then r else k + 0):=fun r i=>by grind
    rw [e1,e2]
   rw [b00,b11,b10,b01] at s
   have hl0:last≠0:=by rw [hl];exact hd k (Nat.le_refl _)
   rw [show at2 (f::R) (i + 1) (j + 1) * at2 (f::R) 0 0 - at2 (f::R) (i + 1) 0 * at2 (f::R) 0 (j + 1)=last * dt (k + 2) B by grind,Int.mul_fdiv_cancel_left _ hl0]
theorem Bar.small {N b:Nat}{M0:Mx}{L:List (List Int)}{sign last:Int} (h:Bar N M0 L sign last) (hb:∀r c,r < N->c < N->(M0 r c).natAbs<=b) (b1:1<=b) (hN:N<=8) :
  last.natAbs<=fac 8 * b ^ 8/\∀i j,i < L.length->j < L.length->(at2 L i j).natAbs<=fac 8 * b ^ 8:=by
 obtain⟨Mc,k,hk,_,hs,e,hl,hd,hp,hm⟩:=h
 have hc:∀r c,r < N->c < N->(Mc r c).natAbs<=b:=fun r c hr hc=>by
  obtain⟨r',h1,h2⟩:=hp r hr
  rw [h2];exact hb r' c h1 hc
 have up:∀n,n<=8->fac n * b ^ n<=fac 8 * b ^ 8:=fun n hn=>by
  refine Nat.mul_le_mul ?_ (Nat.pow_le_pow_right b1 hn)
  have:∀n,n < 9->fac n<=fac 8:=by decide
  exact this n (by omega)
 refine⟨?_,fun i j hi hj=>?_⟩
 ·rw [hl]
  exact Nat.le_trans (ie fun r c hr hc'=>hc r c (by omega) (by omega)) (up k (by omega))
 ·rw [hm i j hi hj]
  refine Nat.le_trans (ie fun r c hr hc'=>?_) (up (k + 1) (by omega))
  unfold bd
  exact hc _ _ (by split <;> omega) (by split <;> omega)
theorem iE {n b:Nat} (hb:b < n) {M:Mx} (h:∀r,r < n->M r b=0):dt n M=0:=by
 induction n generalizing M b with
 | zero=>omega
 | succ n ih =>
  cases b with
  | zero=>exact lr h
  | succ b =>
   rw [dt]
   refine dC fun i hi=>?_
   rw [ih (b:=b) (by omega) fun r hr=>h _ (by unfold skip;split <;> omega)]
   exact Int.mul_zero _
theorem ik (a b:Nat):sg (a + b)=sg a * sg b:=by
 induction b with
 | zero=>simp [sg]
 | succ b ih=>rw [Nat.add_succ,c7,ih,c7];grind
theorem vq (b:Nat):∀{n a:Nat}{M:Mx},a<=n->b<=n->(∀r,r < n + 1->M r b=if r=a then 1 else 0)->dt (n + 1) M=sg (a + b) * dt n (fun r c=>M (skip a r) (skip b c)):=by
 induction b with
 | zero =>
  intro n a M ha _ h
  rw [dt,dH (k:=a) ha,h a (by omega),if_pos rfl]
  rw [dC fun i hi=>by
   rw [h _ (by unfold skip;split <;> omega),if_neg (by unfold skip;split <;> omega)];simp]
  have e:(fun r c=>M (skip a r) (skip 0 c))=fun r c=>M (skip a r) (c + 1):=by funext r c;simp [skip]
  rw [e];simp
 | succ b ih =>
  intro n a M ha hb h
  obtain⟨m,rfl⟩:∃m,n=m + 1:=⟨n - 1,by omega⟩
  rw [dt,dH (k:=a) ha,iE (b:=b) (by omega) fun r hr=>by
   show M (skip a r) (b + 1)=0
   rw [h _ (by unfold skip;split <;> omega),if_neg (by unfold skip;split <;> omega)],dt,Int.mul_zero,Int.zero_add,<- lP]
  refine dA fun i hi=>?_
  obtain⟨a',ha',e1,e2,e3⟩:∃a',a'<=m/\skip (skip a i) a'=a/\(∀r,skip (skip a i) (skip a' r)=skip a (skip i r))/\sg (skip a i) * sg (a' + b)=sg (a + (b + 1)) * sg i:=by
   by_cases c:i < a
   ·refine⟨a - 1,by omega,by unfold skip;grind,fun r=>by unfold skip;grind,?_⟩
    obtain⟨x,rfl⟩:∃x,a=x + 1:=⟨a - 1,by omega⟩
    rw [show skip (x + 1) i=i by simp [skip,c],show x + 1 - 1=x by omega,ik,ik,c7,c7];grind
   ·refine⟨a,by omega,by unfold skip;grind,fun r=>by unfold skip;grind,?_⟩
    rw [show skip a i=i + 1 by simp [skip,c],c7,<- Nat.add_assoc,c7];grind
  rw [ih (n:=m) (a:=a') (M:=fun r c=>M (skip (skip a i) r) (c + 1)) ha' (by omega) fun r hr=>by
   show M (skip (skip a i) r) (b + 1)=_
   rw [h _ (by unfold skip;split <;> split <;> omega)]
   by_cases c:r=a'
   ·rw [if_pos c,c,if_pos e1]
   ·rw [if_neg c,if_neg]
    intro z
    rw [<- e1] at z
    revert z;unfold skip;grind]
  have e4:dt m (fun r c=>M (skip (skip a i) (skip a' r)) (skip b c + 1))=dt m (fun r c=>M (skip a (skip i r)) (skip (b + 1) (c + 1))):=aZ fun r c _ _=>by
   rw [e2,show skip (b + 1) (c + 1)=skip b c + 1 by unfold skip;grind]
  rw [e4,show skip (b + 1) 0=0 by simp [skip]]
  grind
theorem qP {n:Nat} (hn:0 < n) {M:Mx} (h:∀c,c < n->sm n (fun r=>M r c)=0):dt n M=0:=by
 have key:∀k,k < n->dt n (aK M 0 fun c=>sm (k + 1) fun r=>M r c)=dt n M:=fun k=>by
  induction k with
  | zero =>
   intro _
   refine aZ fun r c _ _=>?_
   unfold aK
   split
   ·simp [sm];congr 1;omega
   ·rfl
  | succ k ih =>
   intro hk
   have e:(fun c=>sm (k + 1 + 1) fun r=>M r c)=fun c=>1 * (sm (k + 1) fun r=>M r c) + 1 * M (k + 1) c:=by funext c;rw [sm];omega
   rw [e,eI hn,ih (by omega),gU (M:=aK M 0 fun c=>M (k + 1) c) (k:=0) (l:=k + 1) (by omega) hn hk fun c _=>by simp [aK]]
   omega
 obtain⟨m,rfl⟩:∃m,n=m + 1:=⟨n - 1,by omega⟩
 rw [<- key m (by omega)]
 have e:=eI (n:=m + 1) (k:=0) hn M (fun _=>0) (fun _=>0) 0 0
 have z:dt (m + 1) (aK M 0 fun c=>sm (m + 1) fun r=>M r c)=dt (m + 1) (aK M 0 fun c=>0 * (fun _=>(0:Int)) c + 0 * (fun _=>(0:Int)) c):=aZ fun r c _ hc=>by
  unfold aK
  split
  ·show sm (m + 1) (fun r=>M r c)=_
   rw [h c hc];rfl
  ·rfl
 rw [z,e];simp
theorem lB {n a:Nat} (h:a < n):sm n (fun r=>if r=a then 1 else 0)=1:=by
 obtain⟨m,rfl⟩:∃m,n=m + 1:=⟨n - 1,by omega⟩
 rw [dH (k:=a) (by omega),if_pos rfl,dC fun i _=>if_neg (by unfold skip;split <;> omega)];rfl
noncomputable def Cm (f:Nat->Option Nat):Mx:=fun r c=>(if r=c then 1 else 0) - (if f c=some r then 1 else 0)
noncomputable def itr (f:Nat->Option Nat):Nat->Option Nat->Option Nat
 | 0,o=>o
 | k + 1,o=>itr f k (o.bind f)
theorem qa (f:Nat->Option Nat) (k:Nat):itr f k none=none:=by
 induction k with
 | zero=>rfl
 | succ k ih=>exact ih
theorem jN (f:Nat->Option Nat) (k:Nat):∀o,itr f (k + 1) o=(itr f k o).bind f:=by
 induction k with
 | zero=>intro o;rfl
 | succ k ih=>intro o;exact ih (o.bind f)
noncomputable def ce (v u:Nat):Nat:=if u < v then u else u - 1
noncomputable def thr (v:Nat):Option Nat->Option Nat
 | none=>none
 | some u=>if u=v then none else some (ce v u)
noncomputable def less (f:Nat->Option Nat) (v:Nat):Nat->Option Nat:=fun c=>thr v (f (skip v c))
theorem jw {v u:Nat} (h:u≠v):skip v (ce v u)=u:=by unfold skip ce;grind
theorem fg (v u:Nat):ce v (skip v u)=u:=by unfold skip ce;grind
theorem qj {f:Nat->Option Nat}{v:Nat} (hv:f v=none) (o:Option Nat):thr v (o.bind f)=(thr v o).bind (less f v):=by
 cases o with
 | none=>rfl
 | some u =>
  by_cases c:u=v
  ·subst c
   simp [hv,thr]
  ·show thr v (f u)=_
   have:thr v (some u)=some (ce v u):=by simp [thr,c]
   rw [this]
   show _=thr v (f (skip v (ce v u)))
   rw [jw c]
theorem la {f:Nat->Option Nat}{v:Nat} (hv:f v=none) (k:Nat):∀o,thr v (itr f k o)=itr (less f v) k (thr v o):=by
 induction k with
 | zero=>intro o;rfl
 | succ k ih =>
  intro o
  show thr v (itr f k (o.bind f))=itr (less f v) k ((thr v o).bind (less f v))
  rw [ih,qj hv]
theorem pM {v:Nat}{o:Option Nat} (h:thr v o=none):o=none\/o=some v:=by
 cases o with
 | none=>exact .inl rfl
 | some u =>
  by_cases c:u=v
  ·exact .inr (by rw [c])
  ·simp [thr,c] at h
theorem sV (n:Nat):∀f:Nat->Option Nat,(∀v,v < n->∀u,f v=some u->u < n) ->
  (dt n (Cm f)=1/\∀v,v < n->itr f n (some v)=none)\/(dt n (Cm f)=0/\∃v,v < n/\∀k,itr f k (some v)≠none):=by
 induction n with
 | zero=>intro f _;exact .inl ⟨rfl,fun v hv=>by omega⟩
 | succ n ih =>
  intro f hf
  by_cases hc:∃v,v < n + 1/\f v=none
  ·obtain⟨v,hv,fv⟩:=hc
   have e:dt (n + 1) (Cm f)=dt n (Cm (less f v)):=by
    rw [vq v (a:=v) (by omega) (by omega) fun r _=>by simp [Cm,fv],ik,vh,Int.one_mul]
    refine aZ fun r c _ _=>?_
    unfold Cm
    have e1:(skip v r=skip v c) ↔ r=c:=⟨fun z=>by rw [<- fg v r,z,fg],fun z=>by rw [z]⟩
    have e2:f (skip v c)=some (skip v r) ↔ less f v c=some r:=by
     unfold less
     cases hx:f (skip v c) with
     | none=>simp [thr]
     | some u =>
      by_cases q:u=v
      ·subst q
       simp [thr]
       unfold skip;split <;> omega
      ·simp only [thr,if_neg q,Option.some.injEq]
       exact⟨fun z=>by rw [z,fg],fun z=>by rw [<- z,jw q]⟩
    simp only [e1,e2]
   rw [e]
   rcases ih (less f v) fun w hw u hu=>by
    unfold less at hu
    cases hx:f (skip v w) with
    | none=>rw [hx] at hu;cases hu
    | some x =>
     rw [hx] at hu
     have hxl:=hf _ (by unfold skip;split <;> omega) x hx
     by_cases q:x=v
     ·simp [thr,q] at hu
     ·simp only [thr,if_neg q,Option.some.injEq] at hu
      rw [<- hu];unfold ce;split <;> omega with ⟨h1,h2⟩ | ⟨h1,w,hw,h2⟩
   ·refine .inl ⟨h1,fun u hu=>?_⟩
    rw [jN]
    have q:thr v (itr f n (some u))=none:=by
     rw [la fv]
     by_cases c:u=v
     ·subst c
      rw [show thr u (some u)=none by simp [thr]]
      exact qa _ _
     ·rw [show thr v (some u)=some (ce v u) by simp [thr,c]]
      exact h2 _ (by unfold ce;split <;> omega)
    rcases pM q with z | z <;> rw [z]
    ·rfl
    ·exact fv
   ·refine .inr ⟨h1,skip v w,by unfold skip;split <;> omega,fun k z=>?_⟩
    refine h2 k ?_
    have q:=la fv k (some (skip v w))
    rw [z,show thr v (some (skip v w))=some w by
     rw [thr,if_neg (by unfold skip;split <;> omega),fg]] at q
    exact q.symm
  ·have hs:∀v,v < n + 1->∃u,u < n + 1/\f v=some u:=fun v hv=>by
    cases e:f v with
    | none=>exact absurd ⟨v,hv,e⟩ hc
    | some u=>exact⟨u,hf v hv u e,rfl⟩
   refine .inr ⟨qP (by omega) fun c hc'=>?_,0,by omega,fun k=>?_⟩
   ·obtain⟨u,hu,fu⟩:=hs c hc'
    have e:(fun r=>Cm f r c)=fun r=>1 * (if r=c then 1 else 0) + (-1) * (if r=u then 1 else 0):=by
     funext r
     unfold Cm
     rw [fu]
     have:(some u=some r) ↔ r=u:=by simp [eq_comm]
     simp only [this]
     omega
    rw [e,ip,lB hc',lB hu];rfl
   ·have:∀k v,v < n + 1->itr f k (some v)≠none:=fun k=>by
     induction k with
     | zero=>intro v _ z;cases z
     | succ k ih' =>
      intro v hv z
      obtain⟨u,hu,fu⟩:=hs v hv
      exact ih' u hu (by rw [<- fu];exact z)
    exact this k 0 (by omega)
theorem lR {n k:Nat} (hk:k < n) {M A B:Mx} (hA:∀r c,r < n->c < n->c≠k->A r c=M r c) (hB:∀r c,r < n->c < n->c≠k->B r c=M r c) (h:∀r,r < n->M r k=A r k + B r k):dt n M=dt n A + dt n B:=by
 induction n generalizing M A B k with
 | zero=>omega
 | succ n ih =>
  have e:dt (n + 1) A + dt (n + 1) B=1 * dt (n + 1) A + 1 * dt (n + 1) B:=by omega
  rw [e,dt,dt,dt,<- ip]
  refine dA fun i hi=>?_
  cases k with
  | zero =>
   have e1:dt n (fun r c=>A (skip i r) (c + 1))=dt n (fun r c=>M (skip i r) (c + 1)):=aZ fun r c hr hc=>hA _ _ (by unfold skip;split <;> omega) (by omega) (by omega)
   have e2:dt n (fun r c=>B (skip i r) (c + 1))=dt n (fun r c=>M (skip i r) (c + 1)):=aZ fun r c hr hc=>hB _ _ (by unfold skip;split <;> omega) (by omega) (by omega)
   rw [e1,e2,h i hi];grind
  | succ k =>
   rw [ih (k:=k) (by omega) (M:=fun r c=>M (skip i r) (c + 1)) (A:=fun r c=>A (skip i r) (c + 1)) (B:=fun r c=>B (skip i r) (c + 1)) (fun r c hr hc hne=>hA _ _ (by unfold skip;split <;> omega) (by omega) (by omega)) (fun r c hr hc hne=>hB _ _ (by unfold skip;split <;> omega) (by omega) (by omega)) (fun r hr=>h _ (by unfold skip;split <;> omega)),hA i 0 hi (by omega) (by omega),hB i 0 hi (by omega) (by omega)]
   grind
noncomputable def setC (M:Mx) (k:Nat) (u:Nat->Int):Mx:=fun r c=>if c=k then u r else M r c
theorem sI {α:Type}{n k:Nat} (hk:k < n) (M:Mx) (w:α->Nat->Int) (l:List α):dt n (setC M k fun r=>(l.map fun x=>w x r).sum)=(l.map fun x=>dt n (setC M k (w x))).sum:=by
 induction l with
 | nil=>exact iE hk fun r _=>by simp [setC]
 | cons x l ih =>
  rw [List.map_cons,List.sum_cons,<- ih]
  exact lR hk (fun r c _ _ h=>by simp [setC,h]) (fun r c _ _ h=>by simp [setC,h]) fun r _=>by simp [setC]
noncomputable abbrev Ti:=Option Nat×Nat
noncomputable def one (t:Ti) (r:Nat):Int:=(if r=t.2 then 1 else 0) - (if t.1=some r then 1 else 0)
noncomputable def tab (E:List Ti):Mx:=fun r c=>((E.filter fun t=>t.2 == c).map fun t=>one t r).sum
noncomputable def upf (g:Nat->Option Nat) (j:Nat) (o:Option Nat):Nat->Option Nat:=fun c=>if c=j then o else g c
noncomputable def chs (E:List Ti):Nat->List (Nat->Option Nat)
 | 0=>[fun _=>none]
 | j + 1=>(E.filter fun t=>t.2 == j).flatMap fun t=>(chs E j).map fun g=>upf g j t.1
noncomputable def part (E:List Ti) (g:Nat->Option Nat) (j:Nat):Mx:=fun r c=>if c < j then Cm g r c else tab E r c
theorem qv {α β:Type} (l:List α) (m:List β) (h:α->β->Int):(l.map fun x=>(m.map fun y=>h x y).sum).sum=(m.map fun y=>(l.map fun x=>h x y).sum).sum:=by
 induction l with
 | nil =>
  simp
  induction m with
  | nil=>rfl
  | cons y m ih=>simp [ih.symm]
 | cons x l ih =>
  rw [List.map_cons,List.sum_cons,ih]
  clear ih
  induction m with
  | nil=>rfl
  | cons y m ih2 =>
   simp only [List.map_cons,List.sum_cons] at ih2 ⊢
   rw [<- ih2]
   omega
theorem qB {α β:Type} (l:List α) (k:α->List β) (h:β->Int):((l.flatMap k).map h).sum=(l.map fun x=>((k x).map h).sum).sum:=by
 induction l with
 | nil=>rfl
 | cons x l ih=>rw [List.flatMap_cons,List.map_append,List.sum_append,List.map_cons,List.sum_cons,ih]
theorem lN {n:Nat} (E:List Ti):∀j,j<=n->dt n (tab E)=((chs E j).map fun g=>dt n (part E g j)).sum
 | 0,_=>by
  simp only [chs,List.map_cons,List.map_nil,List.sum_cons,List.sum_nil,Int.add_zero]
  exact aZ fun r c _ _=>by simp [part]
 | j + 1,hj=>by
  rw [lN E j (by omega),chs,qB]
  have e:∀g,dt n (part E g j)=((E.filter fun t=>t.2 == j).map fun t=>dt n (part E (upf g j t.1) (j + 1))).sum:=fun g=>by
   have q:=sI (n:=n) (k:=j) (by omega) (part E g j) (fun (t:Ti) r=>one t r) (E.filter fun t=>t.2 == j)
   have e1:setC (part E g j) j (fun r=>((E.filter fun t=>t.2 == j).map fun t=>one t r).sum)=part E g j:=by
    funext r c
    unfold setC
    split
    ·rename_i h;subst h;simp [part,tab]
    ·rfl
   rw [e1] at q
   rw [q]
   congr 1
   refine List.map_congr_left fun t ht=>?_
   have ht2:t.2=j:=by simpa using (List.mem_filter.mp ht).2
   congr 1
   funext r c
   unfold setC part
   by_cases h1:c=j
   ·subst h1
    rw [if_pos rfl,if_pos (by omega)]
    simp [one,Cm,upf,ht2]
   ·rw [if_neg h1]
    by_cases h2:c < j
    ·rw [if_pos h2,if_pos (by omega)]
     simp [Cm,upf,h1]
    ·rw [if_neg h2,if_neg (by omega)]
  have e2:((chs E j).map fun g=>dt n (part E g j))=(chs E j).map fun g=>((E.filter fun t=>t.2 == j).map fun t=>dt n (part E (upf g j t.1) (j + 1))).sum:=List.map_congr_left fun g _=>e g
  rw [e2,qv]
  congr 1
  refine List.map_congr_left fun t _=>?_
  rw [List.map_map]
  rfl
noncomputable def Inb (n:Nat) (g:Nat->Option Nat):Prop:=∀v,v < n->∀u,g v=some u->u < n
theorem k8 {n:Nat}{E:List Ti} (hE:∀t∈E,∀u,t.1=some u->u < n):∀j,∀g∈chs E j,Inb n g
 | 0,g,hg=>by
  simp [chs] at hg
  subst hg
  intro v _ u hu
  cases hu
 | j + 1,g,hg=>by
  simp only [chs,List.mem_flatMap,List.mem_map] at hg
  obtain⟨t,ht,g0,hg0,rfl⟩:=hg
  intro v hv u hu
  unfold upf at hu
  split at hu
  ·exact hE t (List.mem_filter.mp ht).1 u hu
  ·exact k8 hE j g0 hg0 v hv u hu
noncomputable def comes (n:Nat) (g:Nat->Option Nat):Bool:=(List.range n).all fun v=>(itr g n (some v)).isNone
theorem p4 {n:Nat}{E:List Ti} (hE:∀t∈E,∀u,t.1=some u->u < n):dt n (tab E)=(((chs E n).filter (comes n)).length:Int):=by
 rw [lN E n (Nat.le_refl _)]
 have key:∀l:List (Nat->Option Nat),(∀g∈l,Inb n g)->(l.map fun g=>dt n (part E g n)).sum=((l.filter (comes n)).length:Int):=fun l=>by
  induction l with
  | nil=>intro _;rfl
  | cons g l ih =>
   intro h
   have i1:=ih fun x hx=>h x (List.mem_cons_of_mem _ hx)
   have e:dt n (part E g n)=dt n (Cm g):=aZ fun r c _ hc=>by simp [part,hc]
   rw [List.map_cons,List.sum_cons,i1,e]
   rcases sV n g (h g List.mem_cons_self) with ⟨d,k⟩ | ⟨d,v,hv,k⟩
   ·have:comes n g=true:=by
     unfold comes
     rw [List.all_eq_true]
     intro v hv
     rw [k v (List.mem_range.mp hv)];rfl
    rw [d,List.filter_cons,if_pos this,List.length_cons];omega
   ·have:comes n g=false:=by
     unfold comes
     rw [List.all_eq_false]
     refine⟨v,List.mem_range.mpr hv,?_⟩
     cases hx:itr g n (some v) with
     | none=>exact absurd hx (k n)
     | some x=>simp
    rw [d,List.filter_cons,if_neg (by simp [this])];omega
 exact key _ (k8 hE n)
end DT
namespace K83
open PySem L2 DT
noncomputable def sqO (b:Bool) (xs:List V):HO:=if b=true then .lst xs else .tup xs
noncomputable def bp (H:Hp) (b:Bool) (r:Addr×List Int):Prop:=H r.1=some (sqO b (r.2.map V.int))
noncomputable abbrev au (rs:List (Addr×List Int)):List V:=rs.map fun r=>V.ref r.1
theorem bp.same {H H':Hp}{b:Bool}{r:Addr×List Int} (h:bp H b r) (s:ae H H'):bp H' b r:=s _ _ h
theorem bp.sq {K:PySem.W.Frag}{H:Hp}{b:Bool}{r:Addr×List Int} (h:bp H b r):Sq K H r.1 (r.2.map V.int):=by
 cases b
 ·exact .inr (SqT.of h)
 ·exact .inl (SqL.of h)
noncomputable def Sml (x:Int):Prop:=x.natAbs < 2 ^ 3000
theorem nat {ys:List Int}{i:Nat}{x:V} (h:(ys.map V.int)[i]?=some x):∃z,ys[i]?=some z/\x=.int z:=by
 rw [List.getElem?_map] at h
 cases e:ys[i]? with
 | none=>rw [e] at h;cases h
 | some z=>rw [e] at h;cases h;exact⟨z,rfl,rfl⟩
theorem kW (f:Int->Int->Int):∀(i:Nat) (a b:List Int) (x y:Int),a[i]?=some x->b[i]?=some y->List.zipWith f (a.take (i + 1)) (b.take (i + 1))=List.zipWith f (a.take i) (b.take i)++[f x y]
 | 0,a::as,b::bs,x,y,h1,h2=>by cases h1;cases h2;simp
 | i + 1,a::as,b::bs,x,y,h1,h2=>by
  simp only [List.take_succ_cons,List.zipWith_cons_cons,List.cons_append]
  rw [kW f i as bs x y (by simpa using h1) (by simpa using h2)]
 | _,[],_,_,_,h1,_=>by simp at h1
 | _,_::_,[],_,_,_,h2=>by simp at h2
section
variable {P:Program}{w:World}{K:PySem.W.Frag}{mg:Str->Option Value}{base:Heap}
noncomputable abbrev cB (last:Int) (f row:List Int):List Int:=List.zipWith (fun a b=>Int.fdiv (a * f.headD 0 - row.headD 0 * b) last) row.tail f.tail
noncomputable def mC:Sp:=fun vs H Q _=>∃(a:Addr) (last:Int) (b:Bool) (rws:List (Addr×List Int)),vs=[.ref a,.int last]/\H a=some (.lst (au rws))/\(∀r∈rws,bp H b r)/\rws≠[]/\(∀r∈rws,r.2.length=rws.length)/\rws.length<=8/\last≠0/\Sml last /\
 (∀r∈rws,∀x∈r.2,Sml x)/\∀(q:Addr) (rws':List (Addr×List Int)) (H':Hp),ae H H'->H q=none->H' q=some (.lst (au rws'))->(∀r∈rws',bp H' true r)->rws'.map (·.2)=clr last (rws.map (·.2))->Q (.ref q) H'
noncomputable abbrev N17:List Str:=["left","last","first","told","row"]
theorem gq:aQ N17 ["left","last"] (aC (top 17)):=⟨rfl,rfl,rfl,by decide +kernel,rfl,by decide +kernel,by decide +kernel⟩
theorem om {f:Addr}{fd:FuncData} (F:Fun K "cleared" "cleared" (top 17) f fd) (B:Bl mg):aG P w K mg base CX0 1 f fd ["left","last"] mC:=by
 refine F.ok gq (fun vs H Q E h=>?_) (fun cdv A outer s H vs Q E hr h=>?_)
 ·obtain⟨a,last,b,rws,rfl,_⟩:=h
  rfl
 ·obtain⟨a,last,b,rws,rfl,ha,hrw,hne,hlen,h8,hl0,hlB,hB,k⟩:=h
  refine⟨_,ao (aE (i:=2) gq.nd rfl (Or.inr rfl) (ax aP (pv 0) ai (fun _ _=>rfl)))
   (ao (aE (i:=3) gq.nd rfl (Or.inl rfl) (bL ag))
   (ao (b9 PassesOwn.never rfl (cv (cW fL (pv 0) (cZ ai) cX)) (be (i:=4) gq.nd rfl (Or.inr rfl))
    (ar (cw (cy PySem.F.plainAttrs_list PySem.F.slot_list_append PySem.F.type_list_append dn (pv 3) (aa (bC (N:=["one","other","first","row","last"]) (ix:=[none,none,some 2,some 4,some 1]) ⟨rfl,rfl,rfl,by decide⟩ rfl
     (gj (uk rfl B.zip (aa (cW fL (pv 4) (cZ ai) cX) (aa (cW fL (pv 2) (cZ ai) cX) ag)))
      (uX rfl B.zip (aa (cW hV (pv 4) (cZ ai) cX) (aa (cW hV (pv 2) (cZ ai) cX) ag))))
     (fun _ _ _ _=>dB K rfl (n:=2) (aU (aW 0 (by decide) rfl rfl) (aU (aW 1 (by decide) rfl rfl) bO))) (fun _ _ _ _=>bw)
     (fun _ _ _ _=>aH qy (aH ir (aH hU (pv 0) (ax (bK K) (pv 2) ai (fun _ _=>rfl))) (aH hU (ax (bK K) (pv 3) ai (fun _ _=>rfl)) (pv 1))) (pv 4))) ag)))))
   (ar (aO (pv 3))))),?_⟩
  cases rws with
  | nil=>exact absurd rfl hne
  | cons f0 R =>
  have hf0:=hrw f0 List.mem_cons_self
  have hfl:f0.2.length=R.length + 1:=hlen f0 List.mem_cons_self
  have h7:R.length<=7:=by simp at h8;omega
  refine⟨_,rfl,ay (j:=0) (.inl (SqL.of ha)) rfl rfl ?_⟩
  refine⟨Nat.zero_le _,fun q hq=>?_⟩
  have s1:=am (o:=.lst []) (ae.refl H) hq
  have q1:upd H q (.lst []) q=some (.lst []):=ah
  generalize upd H q (.lst [])=H1 at s1 q1 ⊢
  refine⟨_,rfl,_,rfl,a,_,rfl,SqL.of (s1 _ _ ha),fun p hp=>?_⟩
  rw [dO]
  have nqp:q≠p:=aI q1 hp
  have s2:=am (o:=.lst (List.drop 1 (au (f0::R)))) s1 hp
  have q2:upd H1 p (.lst (List.drop 1 (au (f0::R)))) q=some (.lst []):=by rw [aj nqp];exact q1
  have p2:upd H1 p (.lst (List.drop 1 (au (f0::R)))) p=some (.lst (au R)):=by rw [ah];rfl
  generalize upd H1 p (.lst (List.drop 1 (au (f0::R))))=H2 at s2 q2 p2 ⊢
  refine⟨p,rfl,⟨_,SqL.of p2⟩,kg (K:=K) (a:=p) (xs:=au R) (fun i σ H3=>(∃rws':List (Addr×List Int),rws'.map (·.2)=(R.take i).map (fun r=>cB last f0.2 r.2)/\H3 q=some (.lst (au rws'))/\∀r∈rws',bp H3 true r/\r.1≠q)/\ae H H3/\H3 p=some (.lst (au R))/\∃g,σ=[some (.ref a),some (.int last),some (.ref f0.1),some (.ref q),g])
   ⟨⟨[],by simp,q2,by simp⟩,s2,p2,_,rfl⟩ (fun i σ H3 _ z=>SqL.of z.2.2.1) ?_ ?_⟩
  ·rintro i x σ H3 hx ⟨⟨rws',hm,hq3,hr3⟩,s3,p3,g,rfl⟩
   rw [List.getElem?_map] at hx
   obtain⟨row,hrow,rfl⟩:∃row,R[i]?=some row/\x=.ref row.1:=by
    cases e:R[i]? with
    | none=>rw [e] at hx;cases hx
    | some z=>rw [e] at hx;cases hx;exact⟨z,rfl,rfl⟩
   have hil:i < R.length:=(List.getElem?_eq_some_iff.mp hrow).1
   have hrm:row∈f0::R:=List.mem_cons_of_mem _ (List.mem_of_getElem? hrow)
   have hrl:row.2.length=R.length + 1:=hlen row hrm
   have r3:=(hrw row hrm).same s3
   have f3:=hf0.same s3
   refine⟨_,rfl,.inl ⟨rfl,_,SqL.of hq3⟩,?_⟩
   have fin:∀(zs:List V) (H4:Hp),zs=(cB last f0.2 row.2).map V.int->ae H3 H4->∀n,H4 n=none->∃l xs y,V.ref q=.ref l/\[V.ref n]=[y]/\upd H4 n (.lst zs) l=some (.lst xs)/\xs.length < sizeLine /\
     ((fun σ H3=>(∃rws':List (Addr×List Int),rws'.map (·.2)=(R.take (i + 1)).map (fun r=>cB last f0.2 r.2)/\H3 q=some (.lst (au rws'))/\∀r∈rws',bp H3 true r/\r.1≠q)/\ae H H3/\H3 p=some (.lst (au R))/\∃g,σ=[some (.ref a),some (.int last),some (.ref f0.1),some (.ref q),g]):St->Hp->Prop)
      [some (.ref a),some (.int last),some (.ref f0.1),some (.ref q),some (.ref row.1)] (upd (upd H4 n (.lst zs)) l (.lst (xs++[y]))):=by
    rintro zs H4 rfl s4 n hn
    have nnq:n≠q:=(aI (s4 _ _ hq3) hn).symm
    have hl':rws'.length=i:=by have:=congrArg List.length hm;simp at this;omega
    refine⟨q,au rws',_,rfl,rfl,by rw [aj nnq.symm];exact s4 _ _ hq3,fits (by simp;omega),⟨rws'++[(n,cB last f0.2 row.2)],?_,by rw [ah];simp [au],fun r hr=>?_⟩,fun b o e=>?_,?_,_,rfl⟩
    ·rw [List.map_append,hm,List.take_add_one,hrow,List.map_append];rfl
    ·rcases List.mem_append.mp hr with z | z
     ·obtain⟨z1,z2⟩:=hr3 r z
      refine⟨?_,z2⟩
      show upd _ q _ r.1=_
      rw [aj z2,aj (aI (s4 _ _ z1) hn)]
      exact s4 _ _ z1
     ·have e:r=(n,cB last f0.2 row.2):=by simpa using z
      subst e
      refine⟨?_,nnq⟩
      show upd _ q _ n=_
      rw [aj nnq,ah];rfl
    ·rw [aj (aI e hq),aj (aI (s4 _ _ (s3 _ _ e)) hn)]
     exact s4 _ _ (s3 _ _ e)
    ·rw [aj nqp.symm,aj (aI (s4 _ _ p3) hn)]
     exact s4 _ _ p3
   obtain⟨c0,ct,hc⟩:∃c0 ct,f0.2=c0::ct:=by
    cases e:f0.2 with
    | nil=>rw [e] at hfl;simp at hfl
    | cons x l=>exact⟨x,l,rfl⟩
   obtain⟨d0,dt',hd⟩:∃d0 dt',row.2=d0::dt':=by
    cases e:row.2 with
    | nil=>rw [e] at hrl;simp at hrl
    | cons x l=>exact⟨x,l,rfl⟩
   have bc0:Sml c0:=hB f0 List.mem_cons_self c0 (by rw [hc];simp)
   have bd0:Sml d0:=hB row hrm d0 (by rw [hd];simp)
   have bct:∀x∈ct,Sml x:=fun x hx=>hB f0 List.mem_cons_self x (by rw [hc];simp [hx])
   have bdt:∀x∈dt',Sml x:=fun x hx=>hB row hrm x (by rw [hd];simp [hx])
   have hlt:dt'.length=ct.length:=by rw [hc] at hfl;rw [hd] at hrl;simp at hfl hrl;omega
   have hct8:ct.length<=8:=by rw [hc] at hfl;simp at hfl h8;omega
   have er:cB last f0.2 row.2=List.zipWith (fun a b=>Int.fdiv (a * c0 - d0 * b) last) dt' ct:=by unfold cB;rw [hc,hd];rfl
   have step:∀(j:Nat) (x y:V) (zs:List V) (Hx:Hp) (T:Addr) (g1 g2:Option V),(dt'.map V.int)[j]?=some x->(ct.map V.int)[j]?=some y->zs=(List.zipWith (fun a b=>Int.fdiv (a * c0 - d0 * b) last) (dt'.take j) (ct.take j)).map V.int->ae H3 Hx->Hx T=none ->
     ∃xa ya:Int,x=.int xa/\y=.int ya/\Sml xa/\Sml ya/\zs++[.int (Int.fdiv (xa * c0 - d0 * ya) last)]=(List.zipWith (fun a b=>Int.fdiv (a * c0 - d0 * b) last) (dt'.take (j + 1)) (ct.take (j + 1))).map V.int:=by
    intro j x y zs Hx T g1 g2 h1 h2 hz _ _
    obtain⟨xa,e1,rfl⟩:=nat h1
    obtain⟨ya,e2,rfl⟩:=nat h2
    refine⟨xa,ya,rfl,rfl,bdt xa (List.mem_of_getElem? e1),bct ya (List.mem_of_getElem? e2),?_⟩
    rw [kW _ j dt' ct xa ya e1 e2,List.map_append,hz];rfl
   have hfin:(List.zipWith (fun a b=>Int.fdiv (a * c0 - d0 * b) last) (dt'.take dt'.length) (ct.take dt'.length)).map V.int=(cB last f0.2 row.2).map V.int:=by
    rw [er,List.take_length,hlt,List.take_length]
   cases b with
   | true =>
    have r3':H3 row.1=some (.lst (V.int d0::dt'.map V.int)):=by rw [<- List.map_cons,<- hd];exact r3
    have f3':H3 f0.1=some (.lst (V.int c0::ct.map V.int)):=by rw [<- List.map_cons,<- hc];exact f3
    refine .inl ⟨_,rfl,_,rfl,row.1,_,rfl,SqL.of r3',fun p1 hp1=>?_⟩
    rw [dO]
    have s4:=am (o:=.lst ((V.int d0::dt'.map V.int).drop 1)) (ae.refl H3) hp1
    have a4:upd H3 p1 (.lst ((V.int d0::dt'.map V.int).drop 1)) p1=some (.lst (dt'.map V.int)):=by rw [ah];rfl
    generalize upd H3 p1 (.lst ((V.int d0::dt'.map V.int).drop 1))=H4 at s4 a4 ⊢
    refine⟨_,rfl,_,rfl,f0.1,_,rfl,SqL.of (s4 _ _ f3'),fun p2 hp2=>?_⟩
    rw [dO]
    have s5:=am (o:=.lst ((V.int c0::ct.map V.int).drop 1)) (ae.refl H4) hp2
    have a5:=s5 _ _ a4
    have b5:upd H4 p2 (.lst ((V.int c0::ct.map V.int).drop 1)) p2=some (.lst (ct.map V.int)):=by rw [ah];rfl
    have s35:=s4.trans s5
    generalize upd H4 p2 (.lst ((V.int c0::ct.map V.int).drop 1))=H5 at s5 a5 b5 s35 ⊢
    refine⟨p1,p2,_,_,rfl,SqL.of a5,SqL.of b5,?_⟩
    refine qE (K:=K) (a:=p1) (b:=p2) (xs:=dt'.map V.int) (ys:=ct.map V.int) (by simp [hlt]) (fits (by simp;omega)) (fun j zs σ Hx=>zs=(List.zipWith (fun a b=>Int.fdiv (a * c0 - d0 * b) last) (dt'.take j) (ct.take j)).map V.int/\ae H5 Hx/\∃g1 g2,σ=[g1,g2,some (.ref f0.1),some (.ref row.1),some (.int last)])
     ⟨by simp,ae.refl _,_,_,rfl⟩ (fun j zs σ Hx hj z=>⟨by rw [z.1];simp;omega,SqL.of (z.2.1 _ _ a5),SqL.of (z.2.1 _ _ b5)⟩) ?_ ?_
    ·rintro j x y zs σ Hx T h1 h2 ⟨hz,sx,g1,g2,rfl⟩ hT
     obtain⟨xa,ya,rfl,rfl,bx,by',e⟩:=step j x y zs Hx T g1 g2 h1 h2 hz (s35.trans sx) hT
     have sT:=am (o:=.tup [.int xa,.int ya]) (ae.refl Hx) hT
     have T3:upd Hx T (.tup [.int xa,.int ya]) T=some (.tup [.int xa,.int ya]):=ah
     generalize upd Hx T (.tup [.int xa,.int ya])=Hy at sT T3 ⊢
     have sy:=s35.trans (sx.trans sT)
     refine⟨T,_,rfl,SqT.of T3,rfl,_,_,rfl,_,_,rfl,rfl,?_⟩
     exact⟨_,rfl,_,rfl,ay (j:=0) (.inl (SqL.of (sy _ _ f3'))) rfl rfl ⟨_,_,rfl,rfl,⟨bx,bc0⟩,_,rfl,ay (j:=0) (.inl (SqL.of (sy _ _ r3'))) rfl rfl ⟨_,rfl,_,_,rfl,rfl,⟨bd0,by'⟩,_,_,rfl,rfl,_,rfl,_,_,rfl,rfl,⟨hl0,hlB⟩,e,sx.trans sT,_,_,rfl⟩⟩⟩
    ·rintro zs σ Hx ⟨hz,sx,g1,g2,rfl⟩ n hn
     rw [List.length_map] at hz
     exact fin zs Hx (hz.trans hfin) (s35.trans sx) n hn
   | false =>
    have r3':H3 row.1=some (.tup (V.int d0::dt'.map V.int)):=by rw [<- List.map_cons,<- hd];exact r3
    have f3':H3 f0.1=some (.tup (V.int c0::ct.map V.int)):=by rw [<- List.map_cons,<- hc];exact f3
    have ncut:∀(x:V) (l:List V),bD (x::l) (some 1) none≠x::l:=fun x l z=>by
     rw [dO] at z
     have:=congrArg List.length z
     simp at this
    refine .inr ⟨_,rfl,_,rfl,row.1,_,rfl,SqT.of r3',fun z=>absurd z (ncut _ _),fun p1 hp1=>?_⟩
    rw [dO]
    have s4:=am (o:=.tup ((V.int d0::dt'.map V.int).drop 1)) (ae.refl H3) hp1
    have a4:upd H3 p1 (.tup ((V.int d0::dt'.map V.int).drop 1)) p1=some (.tup (dt'.map V.int)):=by rw [ah];rfl
    generalize upd H3 p1 (.tup ((V.int d0::dt'.map V.int).drop 1))=H4 at s4 a4 ⊢
    refine⟨_,rfl,_,rfl,f0.1,_,rfl,SqT.of (s4 _ _ f3'),fun z=>absurd z (ncut _ _),fun p2 hp2=>?_⟩
    rw [dO]
    have s5:=am (o:=.tup ((V.int c0::ct.map V.int).drop 1)) (ae.refl H4) hp2
    have a5:=s5 _ _ a4
    have b5:upd H4 p2 (.tup ((V.int c0::ct.map V.int).drop 1)) p2=some (.tup (ct.map V.int)):=by rw [ah];rfl
    have s35:=s4.trans s5
    generalize upd H4 p2 (.tup ((V.int c0::ct.map V.int).drop 1))=H5 at s5 a5 b5 s35 ⊢
    refine⟨p1,p2,_,_,rfl,SqT.of a5,SqT.of b5,?_⟩
    refine rg (K:=K) (a:=p1) (b:=p2) (xs:=dt'.map V.int) (ys:=ct.map V.int) (by simp [hlt]) (fits (by simp;omega)) (fun j zs σ Hx=>zs=(List.zipWith (fun a b=>Int.fdiv (a * c0 - d0 * b) last) (dt'.take j) (ct.take j)).map V.int/\ae H5 Hx/\∃g1 g2,σ=[g1,g2,some (.ref f0.1),some (.ref row.1),some (.int last)])
     ⟨by simp,ae.refl _,_,_,rfl⟩ (fun j zs σ Hx hj z=>⟨by rw [z.1];simp;omega,SqT.of (z.2.1 _ _ a5),SqT.of (z.2.1 _ _ b5)⟩) ?_ ?_
    ·rintro j x y zs σ Hx T h1 h2 ⟨hz,sx,g1,g2,rfl⟩ hT
     obtain⟨xa,ya,rfl,rfl,bx,by',e⟩:=step j x y zs Hx T g1 g2 h1 h2 hz (s35.trans sx) hT
     have sT:=am (o:=.tup [.int xa,.int ya]) (ae.refl Hx) hT
     have T3:upd Hx T (.tup [.int xa,.int ya]) T=some (.tup [.int xa,.int ya]):=ah
     generalize upd Hx T (.tup [.int xa,.int ya])=Hy at sT T3 ⊢
     have sy:=s35.trans (sx.trans sT)
     refine⟨T,_,rfl,SqT.of T3,rfl,_,_,rfl,_,_,rfl,rfl,?_⟩
     exact⟨_,rfl,_,rfl,ay (j:=0) (.inr (SqT.of (sy _ _ f3'))) rfl rfl ⟨_,_,rfl,rfl,⟨bx,bc0⟩,_,rfl,ay (j:=0) (.inr (SqT.of (sy _ _ r3'))) rfl rfl ⟨_,rfl,_,_,rfl,rfl,⟨bd0,by'⟩,_,_,rfl,rfl,_,rfl,_,_,rfl,rfl,⟨hl0,hlB⟩,e,sx.trans sT,_,_,rfl⟩⟩⟩
    ·rintro zs σ Hx ⟨hz,sx,g1,g2,rfl⟩ n hn
     rw [List.length_map] at hz
     exact fin zs Hx (hz.trans hfin) (s35.trans sx) n hn
  ·rintro σ H3 ⟨⟨rws',hm,hq3,hr3⟩,s3,p3,g,rfl⟩
   refine⟨_,rfl,k q rws' H3 s3 hq hq3 (fun r hr=>(hr3 r hr).1) ?_⟩
   rw [hm,List.length_map,List.take_length]
   simp [clr,cB]
end
theorem fF {n j:Nat} (h:j < n):ixN n (j:Int)=some j:=by
 unfold ixN
 simp
 omega
theorem kM {L:List (List Int)}{n:Nat} (h:∀row∈L,row.length=n) {row:List Int} (hr:row∈L) {x:Int} (hx:x∈row):∃i j,i < L.length/\j < n/\at2 L i j=x:=by
 obtain⟨i,hi,rfl⟩:=List.mem_iff_getElem.mp hr
 obtain⟨j,hj,rfl⟩:=List.mem_iff_getElem.mp hx
 refine⟨i,j,hi,by rw [<- h _ hr];exact hj,?_⟩
 unfold at2
 rw [List.getElem?_eq_getElem hi]
 simp [List.getElem?_eq_getElem hj]
theorem jQ {rws:List (Addr×List Int)}{n:Nat} (h:∀r∈rws,r.2.length=n) (hn:0 < n) {i:Nat}{r:Addr×List Int} (hr:rws[i]?=some r):r.2[0]?=some (at2 (rws.map (·.2)) i 0):=by
 have h1:=h r (List.mem_of_getElem? hr)
 unfold at2
 rw [List.getElem?_map,hr]
 show r.2[0]?=some ((r.2[0]?).getD 0)
 rw [List.getElem?_eq_getElem (show 0 < r.2.length by omega)]
 rfl
noncomputable def flt (L:List (List Int)) (n:Nat):List Nat:=(List.range n).filter fun i=>!decide (at2 L i 0=0)
theorem jL (L:List (List Int)) (n:Nat):flt L (n + 1)=flt L n++if at2 L n 0=0 then [] else [n]:=by
 unfold flt
 rw [List.range_succ,List.filter_append]
 congr 1
 by_cases h:at2 L n 0=0
 ·simp [h]
 ·simp [h]
theorem sM (L:List (List Int)) (n:Nat):(flt L n).length<=n:=by
 have:=List.length_filter_le (fun i=>!decide (at2 L i 0=0)) (List.range n)
 rw [List.length_range] at this
 exact this
section
variable {P:Program}{w:World}{K:PySem.W.Frag}{mg:Str->Option Value}{base:Heap}
noncomputable def mI:Sp:=fun vs H Q _=>∃(a:Addr) (rws:List (Addr×List Int)),vs=[.ref a]/\H a=some (.tup (au rws))/\(∀r∈rws,bp H false r)/\(∀r∈rws,r.2.length=rws.length)/\rws.length<=8/\(∀r∈rws,∀x∈r.2,x.natAbs<=2 ^ 128) /\
 ∀H',ae H H'->Q (.int (dt rws.length (at2 (rws.map (·.2))))) H'
noncomputable abbrev N18:List Str:=["rows","left","sign","last","filled","first"]
theorem cC:aQ N18 ["rows"] (aC (top 18)):=⟨rfl,rfl,rfl,by decide +kernel,rfl,by decide +kernel,by decide +kernel⟩
theorem tE {f:Addr}{fd:FuncData} (F:Fun K "determinant" "determinant" (top 18) f fd) (B:Bl mg) (Fc:Fn P w K mg base 1 "cleared" ["left","last"] mC):aG P w K mg base CX0 2 f fd ["rows"] mI:=by
 refine F.ok cC (fun vs H Q E h=>?_) (fun cdv A outer s H vs Q E hr h=>?_)
 ·obtain⟨a,rws,rfl,_⟩:=h
  rfl
 ·obtain⟨a,rws0,rfl,ha,hrw0,hlen0,h8,hB,k⟩:=h
  refine⟨_,ao (aE (i:=1) cC.nd rfl (Or.inl rfl) (cm nH rfl B.list lX (aa (pv 0) ag)))
   (ao (aE (i:=2) cC.nd rfl (Or.inl rfl) ai)
   (ao (aE (i:=3) cC.nd rfl (Or.inl rfl) ai)
   (ao (jX PassesOwn.never (aV gc (aD bA rfl B.len PySem.boot_len (aa (pv 1) ag)) ai (aN _))
    (ao (dq (i:=4) (N:=["at","row"]) (ix:=[none,none]) cC.nd rfl (Or.inl rfl) ⟨rfl,rfl,rfl,by decide⟩ rfl (fO rfl B.enumerate (aa (pv 1) ag)) (fun _ _ _ _=>dB K rfl (n:=2) (aU (aW 0 (by decide) rfl rfl) (aU (aW 1 (by decide) rfl rfl) bO)))
     (fun _ _ _ _=>dD (aV bI (ax (bK K) (pv 1) ai (fun _ _=>rfl)) ai (aN _))) (fun _ _ _ _=>pv 0))
    (ao (aY (aV cO (aD bA rfl B.len PySem.boot_len (aa (pv 4) ag)) ai (aN _)) (ar (aO ai)) a9)
    (ao (aY (aV bI (ax aP (pv 4) ai (fun _ _=>rfl)) ai (aN _))
     (ao (da (bz (aa (ax aP (pv 1) (ax aP (pv 4) ai (fun _ _=>rfl)) (fun _ _=>rfl)) (aa (ax aP (pv 1) ai (fun _ _=>rfl)) ag))) (cM rfl (n:=2) (aU (fU (pv 1) ai set_list) (aU (fU (pv 1) (ax aP (pv 4) ai (fun _ _=>rfl)) set_list) bO))))
      (ar (aE (i:=2) cC.nd rfl (Or.inl rfl) (vy ud (pv 2))))) a9)
    (ao (aE (i:=5) cC.nd rfl (Or.inl rfl) (ax aP (ax aP (pv 1) ai (fun _ _=>rfl)) ai (fun _ _=>rfl)))
    (ao (aE (i:=1) cC.nd rfl (Or.inl rfl) (av Fc hr (aa (pv 1) (aa (pv 3) ag))))
    (ar (aE (i:=3) cC.nd rfl (Or.inl rfl) (pv 5)))))))))
   (ar (aO (aH hU (pv 2) (pv 3))))))),?_⟩
  have big:fac 8 * (2 ^ 128) ^ 8 < 2 ^ 3000:=by decide +kernel
  have hM0:∀r c,r < rws0.length->c < rws0.length->(at2 (rws0.map (·.2)) r c).natAbs<=2 ^ 128:=fun r c hr hc=>by
   unfold at2
   rw [List.getElem?_map,List.getElem?_eq_getElem hr]
   have h1:=hlen0 rws0[r] (List.getElem_mem hr)
   show ((rws0[r].2[c]?).getD 0).natAbs<=_
   rw [List.getElem?_eq_getElem (by omega)]
   exact hB _ (List.getElem_mem hr) _ (List.getElem_mem _)
  have Ba0:Bar rws0.length (at2 (rws0.map (·.2))) (rws0.map (·.2)) 1 1:=by
   have:=Bar.start (L:=rws0.map (·.2)) (fun row hrow=>by
    obtain⟨r,hr,rfl⟩:=List.mem_map.mp hrow
    rw [List.length_map];exact hlen0 r hr)
   rwa [List.length_map] at this
  generalize rws0.length=N at h8 hM0 Ba0 k
  generalize at2 (rws0.map (·.2))=M0 at hM0 Ba0 k
  refine⟨_,rfl,a,_,rfl,.inr (SqT.of ha),fun l0 hl0=>?_⟩
  have s1:=am (o:=.lst (au rws0)) (ae.refl H) hl0
  have l1:upd H l0 (.lst (au rws0)) l0=some (.lst (au rws0)):=ah
  generalize upd H l0 (.lst (au rws0))=H1 at s1 l1 ⊢
  refine⟨fun m σ H4=>∃(l:Addr) (b:Bool) (rws:List (Addr×List Int)) (sign last:Int) (g4 g5:Option V),σ=[some (.ref a),some (.ref l),some (.int sign),some (.int last),g4,g5]/\rws.length=m/\H l=none/\H4 l=some (.lst (au rws))/\(∀r∈rws,bp H4 b r)/\Bar N M0 (rws.map (·.2)) sign last/\ae H H4,
   ⟨_,l0,false,rws0,1,1,none,none,rfl,rfl,hl0,l1,fun r hr=>(hrw0 r hr).same s1,Ba0,s1⟩,?_⟩
  rintro m σ H4 ⟨l,b,rws,sign,last,g4,g5,rfl,rfl,hl,L4,R4,Ba,s4⟩
  refine⟨_,rfl,l,_,rfl,.inl (SqL.of L4),_,_,rfl,rfl,_,rfl,?_⟩
  have e0:decide (((au rws).length:Int) > 0)=decide (rws≠[]):=by
   cases rws <;> simp <;> omega
  rw [e0]
  have hsq:∀r∈rws,r.2.length=rws.length:=fun r hr=>by
   obtain⟨_,_,_,h,_⟩:=Ba
   have:=h r.2 (List.mem_map.mpr ⟨r,hr,rfl⟩)
   rwa [List.length_map] at this
  have hlN:rws.length<=N:=by
   obtain⟨_,k,h,_⟩:=Ba
   rw [List.length_map] at h
   omega
  obtain⟨sml1,sml2⟩:=Ba.small hM0 Nat.one_le_two_pow h8
  have sgn:Sml sign:=by
   obtain⟨_,_,_,_,h,_⟩:=Ba
   show sign.natAbs < _
   rcases h with rfl | rfl
   ·exact Nat.one_lt_two_pow (by decide)
   ·exact Nat.one_lt_two_pow (by decide)
  have lsm:Sml last:=Nat.lt_of_le_of_lt sml1 big
  refine bj (fun c=>?_) (fun c=>?_)
  ·have hne:rws≠[]:=by simpa using c
   have hpos:0 < rws.length:=List.length_pos_iff.mpr hne
   refine⟨fun σ' H'=>∃(l:Addr) (b:Bool) (rws':List (Addr×List Int)) (sign last:Int) (g4 g5:Option V),σ'=[some (.ref a),some (.ref l),some (.int sign),some (.int last),g4,g5]/\rws'.length + 1=rws.length/\H l=none/\H' l=some (.lst (au rws'))/\(∀r∈rws',bp H' b r)/\Bar N M0 (rws'.map (·.2)) sign last/\ae H H',
    fun σ' H' ⟨l,b,rws',sign,last,g4,g5,h1,h2,h3⟩=>⟨rws'.length,by omega,l,b,rws',sign,last,g4,g5,h1,rfl,h3⟩,?_⟩
   refine⟨_,rfl,l,_,rfl,SqL.of L4,?_⟩
   refine jv (K:=K) (xs:=au rws) (fits (by simp;omega)) (fun j zs σ Hx=>zs=(flt (rws.map (·.2)) j).map (fun i:Nat=>V.int i)/\ae H4 Hx/\∃g1 g2,σ=[g1,g2]) ⟨rfl,ae.refl _,_,_,rfl⟩ (fun j zs σ Hx hj z=>⟨by rw [z.1,List.length_map];exact sM _ _,SqL.of (z.2.1 _ _ L4)⟩) ?_ ?_
   ·rintro j x zs σ Hx T hx ⟨hz,sx,g1,g2,rfl⟩ hT
    rw [List.getElem?_map] at hx
    obtain⟨row,hrow,rfl⟩:∃row,rws[j]?=some row/\x=.ref row.1:=by
     cases e:rws[j]? with
     | none=>rw [e] at hx;cases hx
     | some z=>rw [e] at hx;cases hx;exact⟨z,rfl,rfl⟩
    have sT:=am (o:=.tup [.int j,.ref row.1]) (ae.refl Hx) hT
    have T3:upd Hx T (.tup [.int j,.ref row.1]) T=some (.tup [.int j,.ref row.1]):=ah
    generalize upd Hx T (.tup [.int j,.ref row.1])=Hy at sT T3 ⊢
    have r4:=((R4 row (List.mem_of_getElem? hrow)).same (sx.trans sT)).sq (K:=K)
    have h0:=jQ hsq hpos hrow
    refine⟨T,_,rfl,SqT.of T3,rfl,_,_,rfl,_,_,rfl,rfl,?_⟩
    refine⟨_,rfl,ay (j:=0) r4 rfl (by rw [List.getElem?_map,h0];rfl) ⟨rfl,_,rfl,?_⟩⟩
    have e:(!decide (V.int (at2 (rws.map (·.2)) j 0)=V.int 0))=!decide (at2 (rws.map (·.2)) j 0=0):=by simp
    rw [e]
    refine bj (fun c=>⟨_,rfl,?_,sx.trans sT,_,_,rfl⟩) (fun c=>⟨?_,sx.trans sT,_,_,rfl⟩)
    ·rw [jL,if_neg (by simpa using c),List.map_append,hz];rfl
    ·rw [jL,if_pos (by simpa using c),List.append_nil];exact hz
   rintro zs σ Hx ⟨hz,sx,g1,g2,rfl⟩ fi hfi
   rw [List.length_map] at hz
   have s5:=am (o:=.lst zs) sx hfi
   have f5:upd Hx fi (.lst zs) fi=some (.lst zs):=ah
   have hf0:H4 fi=none:=sx.free hfi
   generalize upd Hx fi (.lst zs)=H5 at s5 f5 ⊢
   subst hz
   have L5:=s5 _ _ L4
   refine⟨_,rfl,fi,_,rfl,.inl (SqL.of f5),rfl,_,rfl,?_⟩
   have e1:decide (V.int (((flt (rws.map (·.2)) rws.length).map (fun i:Nat=>V.int i)).length:Int)=V.int 0)=decide (flt (rws.map (·.2)) rws.length=[]):=by
    cases flt (rws.map (·.2)) rws.length <;> simp <;> omega
   rw [e1]
   refine bj (fun c=>?_) (fun c=>?_)
   ·
    have hz0:dt N M0=0:=Ba.zero (by simpa using hne) fun r hr=>by
     rw [List.length_map] at hr
     have c':flt (rws.map (·.2)) rws.length=[]:=by simpa using c
     cases hd:decide (at2 (rws.map (·.2)) r 0=0) with
     | true=>exact of_decide_eq_true hd
     | false =>
      have:r∈flt (rws.map (·.2)) rws.length:=List.mem_filter.mpr ⟨List.mem_range.mpr hr,by rw [hd];rfl⟩
      rw [c'] at this
      simp at this
    have:=k H5 (s4.trans s5)
    rw [hz0] at this
    exact this
   ·
    have hnf:flt (rws.map (·.2)) rws.length≠[]:=by simpa using c
    obtain⟨ff,ft,hff⟩:∃ff ft,flt (rws.map (·.2)) rws.length=ff::ft:=by
     cases e:flt (rws.map (·.2)) rws.length with
     | nil=>exact absurd e hnf
     | cons x l=>exact⟨x,l,rfl⟩
    have hfm:ff∈flt (rws.map (·.2)) rws.length:=by rw [hff];simp
    obtain⟨hfl,hfn⟩:=List.mem_filter.mp hfm
    have hfl:ff < rws.length:=List.mem_range.mp hfl
    have hfn:at2 (rws.map (·.2)) ff 0≠0:=by simpa using hfn
    rw [hff] at f5
    clear hff e1 c hnf hfm
    unfold mf
    dsimp only
    refine iL (fun σ' H'=>∃(rws':List (Addr×List Int)) (sign':Int) (g5:Option V),σ'=[some (.ref a),some (.ref l),some (.int sign'),some (.int last),some (.ref fi),g5]/\rws'.length=rws.length/\H' l=some (.lst (au rws'))/\(∀r∈rws',bp H' b r)/\Bar N M0 (rws'.map (·.2)) sign' last/\at2 (rws'.map (·.2)) 0 0≠0/\ae H H') (fun Nx key=>?_) ?_
    ·refine⟨_,rfl,ay (j:=0) (.inl (SqL.of f5)) rfl rfl ⟨rfl,_,rfl,?_⟩⟩
     have e2:(!decide (V.int (ff:Int)=V.int 0))=!decide (ff=0):=by simp
     rw [e2]
     refine bj (fun c=>?_) (fun c=>?_)
     ·have hf1:ff≠0:=by simpa using c
      have g1:(au rws)[ff]?=some (.ref rws[ff].1):=by rw [List.getElem?_map,List.getElem?_eq_getElem hfl];rfl
      have g0:(au rws)[0]?=some (.ref rws[0].1):=by rw [List.getElem?_map,List.getElem?_eq_getElem hpos];rfl
      refine⟨_,rfl,_,rfl,ay (j:=0) (.inl (SqL.of f5)) rfl rfl (ay (j:=ff) (.inl (SqL.of L5)) rfl g1 ⟨_,rfl,ay (j:=0) (.inl (SqL.of L5)) rfl g0 ⟨by show 2<=sizeLine;decide,fun T hT=>?_⟩⟩)⟩
      have s6:=am (o:=.tup [.ref rws[ff].1,.ref rws[0].1]) (ae.refl H5) hT
      have T6:upd H5 T (.tup [.ref rws[ff].1,.ref rws[0].1]) T=some (.tup [.ref rws[ff].1,.ref rws[0].1]):=ah
      generalize upd H5 T (.tup [.ref rws[ff].1,.ref rws[0].1])=H6 at s6 T6 ⊢
      have L6:=s6 _ _ L5
      have f6:=s6 _ _ f5
      have nlf:fi≠l:=(aI L4 hf0).symm
      refine⟨T,_,rfl,SqT.of T6,rfl,_,_,rfl,_,rfl,l,_,_,0,rfl,rfl,L6,fF (by simp;omega),?_⟩
      have L7:upd H6 l (.lst ((au rws).set 0 (.ref rws[ff].1))) l=some (.lst ((au rws).set 0 (.ref rws[ff].1))):=ah
      have f7:upd H6 l (.lst ((au rws).set 0 (.ref rws[ff].1))) fi=some (.lst (.int (ff:Int)::ft.map (fun i:Nat=>V.int i))):=by rw [aj nlf];exact f6
      have o7:∀b o,b≠l->H5 b=some o->upd H6 l (.lst ((au rws).set 0 (.ref rws[ff].1))) b=some o:=fun b o hb e=>by rw [aj hb];exact s6 _ _ e
      generalize upd H6 l (.lst ((au rws).set 0 (.ref rws[ff].1)))=H7 at L7 f7 o7 ⊢
      refine⟨_,_,rfl,_,rfl,_,rfl,ay (j:=0) (.inl (SqL.of f7)) rfl rfl ⟨l,_,_,ff,rfl,rfl,L7,fF (by simp;omega),rfl,?_⟩⟩
      refine⟨_,rfl,_,rfl,key _ _ ⟨(rws.set 0 rws[ff]).set ff rws[0],-sign,_,rfl,by simp,?_,fun r hr=>?_,?_,?_,fun b o e=>?_⟩⟩
      ·rw [ah]
       unfold au
       rw [List.map_set,List.map_set]
      ·have hr':r∈rws:=by
        rcases List.mem_or_eq_of_mem_set hr with z | z
        ·rcases List.mem_or_eq_of_mem_set z with z | z
         ·exact z
         ·rw [z];exact List.getElem_mem _
        ·rw [z];exact List.getElem_mem _
       have r5:=(R4 r hr').same s5
       have hrl:r.1≠l:=fun z=>by
        have q:=R4 r hr'
        unfold bp at q
        rw [z,L4] at q
        have q:=Option.some.inj q
        unfold sqO at q
        split at q
        ·have q:=HO.lst.inj q
         have q':=congrArg (fun x:List V=>x[0]?) q
         simp only [g0,List.getElem?_map] at q'
         cases hx:r.2[0]? with
         | none=>rw [hx] at q';cases q'
         | some x=>rw [hx] at q';cases q'
        ·cases q
       unfold bp
       rw [aj hrl]
       exact o7 _ _ hrl r5
      ·have e3:((rws.set 0 rws[ff]).set ff rws[0]).map (·.2)=swL (rws.map (·.2)) ff:=by
        unfold swL
        rw [List.map_set,List.map_set,List.getElem?_map,List.getElem?_map,List.getElem?_eq_getElem hfl,List.getElem?_eq_getElem hpos]
        rfl
       rw [e3]
       exact Ba.swap (by rw [List.length_map];exact hfl) hf1
      ·have e3:((rws.set 0 rws[ff]).set ff rws[0]).map (·.2)=swL (rws.map (·.2)) ff:=by
        unfold swL
        rw [List.map_set,List.map_set,List.getElem?_map,List.getElem?_map,List.getElem?_eq_getElem hfl,List.getElem?_eq_getElem hpos]
        rfl
       rw [e3,lM (by rw [List.length_map];exact hfl) hf1 (by rw [List.length_map];exact hpos)]
       simpa [swp] using hfn
      ·have hbl:=aI e hl
       rw [aj hbl]
       exact o7 _ _ hbl (s5 _ _ (s4 _ _ e))
     ·have hf1:ff=0:=by simpa using c
      subst hf1
      exact key _ _ ⟨rws,sign,_,rfl,rfl,L5,fun r hr=>(R4 r hr).same s5,Ba,hfn,s4.trans s5⟩
    ·rintro σ' H' ⟨rws',sign',g5',rfl,hl',L6,R6,Ba',hp',s6⟩
     have hpos':0 < rws'.length:=hl'.symm ▸ hpos
     have h8':rws'.length<=8:=Nat.le_trans (Nat.le_of_eq hl') (Nat.le_trans hlN h8)
     have hsq':∀r∈rws',r.2.length=rws'.length:=fun r hr=>by
      obtain⟨_,_,_,h,_⟩:=Ba'
      have:=h r.2 (List.mem_map.mpr ⟨r,hr,rfl⟩)
      rwa [List.length_map] at this
     obtain⟨sm1,sm2⟩:=Ba'.small hM0 Nat.one_le_two_pow h8
     have g0:(au rws')[0]?=some (.ref rws'[0].1):=by rw [List.getElem?_map,List.getElem?_eq_getElem hpos'];rfl
     have h0:=jQ hsq' hpos' (List.getElem?_eq_getElem hpos')
     refine⟨_,rfl,ay (j:=0) (.inl (SqL.of L6)) rfl g0 (ay (j:=0) ((R6 _ (List.getElem_mem hpos')).sq) rfl (by rw [List.getElem?_map,h0];rfl) ?_)⟩
     have nn':rws'≠[]:=List.length_pos_iff.mp hpos'
     refine⟨_,rfl,_,rfl,l,last,b,rws',rfl,L6,R6,nn',hsq',h8',Ba'.ne,lsm,fun r hr x hx=>?_,fun q rws2 H2 s2 hq hq2 hr2 hm2=>?_⟩
     ·obtain⟨i,j,hi,hj,rfl⟩:=kM (L:=rws'.map (·.2)) (n:=rws'.length) (fun row hrow=>by
       obtain⟨r,hr,rfl⟩:=List.mem_map.mp hrow
       exact hsq' r hr) (List.mem_map.mpr ⟨r,hr,rfl⟩) hx
      exact Nat.lt_of_le_of_lt (sm2 i j hi (by rw [List.length_map];exact hj)) big
     ·refine⟨_,rfl,q,true,rws2,sign',_,_,_,rfl,?_,s6.free hq,hq2,hr2,?_,s6.trans s2⟩
      ·have:=congrArg List.length hm2
       rw [List.length_map] at this
       cases hc:rws' with
       | nil=>exact absurd hc nn'
       | cons x l =>
        rw [hc] at this hl'
        have e2:rws2.length=l.length:=by simpa [clr] using this
        rw [e2]
        exact hl'
      ·rw [hm2]
       exact Ba'.clear (by simpa using nn') hp'
  ·have hn:rws=[]:=by simpa using c
   subst hn
   have:=Ba.done
   refine⟨_,rfl,_,rfl,_,_,rfl,rfl,⟨sgn,lsm⟩,?_⟩
   have q:=k H4 s4
   rw [<- this] at q
   exact q
end
noncomputable def others (ps:List Str) (root:Str):List Str:=ps.filter fun y=>!decide (y=root)
theorem bG {ps:List Str}{root x:Str}:x∈others ps root ↔ x∈ps/\x≠root:=by
 unfold others
 rw [List.mem_filter]
 simp
noncomputable def ixo (O:List Str) (x:Str):Nat:=O.idxOf x
theorem b8 {O:List Str}{x:Str} (h:x∈O):ixo O x < O.length:=List.idxOf_lt_length_of_mem h
theorem dI {O:List Str}{x:Str} (h:x∈O):O[ixo O x]?=some x:=by
 have h1:=b8 h
 rw [List.getElem?_eq_getElem h1]
 exact congrArg some (List.getElem_idxOf h1)
noncomputable def tis (O:List Str) (root:Str) (rs:List Row):List Ti:=(rs.filter fun r=>!decide (r.2.2=root)).map fun r=>(if r.2.1=root then none else some (ixo O r.2.1),ixo O r.2.2)
noncomputable def KvO (O:List Str) (kvs:List (Key×V)) (i:Nat):Prop:=kvs.length=i/\(∀m x,m < i->O[m]?=some x->bc kvs (.inr x)=some (.int m))/\∀x,x∉O.take i->bc kvs (.inr x)=none
theorem ql {kvs:List (Key×V)}{k:Key}{v:V} (h:bc kvs k=none):putK kvs k v=kvs++[(k,v)]:=by
 unfold putK
 rw [dr,h]
 rfl
theorem KvO.step {O:List Str}{kvs:List (Key×V)}{i:Nat}{x:Str} (h:KvO O kvs i) (nd:O.Nodup) (hx:O[i]?=some x):KvO O (putK kvs (.inr x) (.int i)) (i + 1):=by
 obtain⟨h1,h2,h3⟩:=h
 obtain⟨hi,ei⟩:=List.getElem?_eq_some_iff.mp hx
 have hnew:x∉O.take i:=fun z=>by
  obtain⟨m,hm,em⟩:=List.mem_iff_getElem.mp z
  rw [List.getElem_take,<- ei] at em
  have:=(List.getElem_inj nd).mp em
  simp at hm
  omega
 refine⟨by rw [ql (h3 x hnew)];simp [h1],fun m y hm hy=>?_,fun y hy=>?_⟩
 ·rw [ka]
  by_cases e:m=i
  ·subst e
   rw [hx] at hy
   cases hy
   rw [if_pos rfl]
  ·have hne:¬ (Sum.inr y:Key)=Sum.inr x:=fun q=>by
    have q':y=x:=Sum.inr.inj q
    obtain⟨hm',em⟩:=List.getElem?_eq_some_iff.mp hy
    rw [<- em,<- ei] at q'
    exact e ((List.getElem_inj nd).mp q')
   rw [if_neg hne]
   exact h2 m y (by omega) hy
 ·have hy1:y∉O.take i:=fun z=>hy (by rw [List.take_add_one];exact List.mem_append_left _ z)
  have hy2:y≠x:=fun z=>hy (by rw [List.take_add_one,hx,z];exact List.mem_append_right _ (by simp))
  rw [ka,if_neg (fun q=>hy2 (Sum.inr.inj q))]
  exact h3 y hy1
theorem KvO.get {O:List Str}{kvs:List (Key×V)}{x:Str} (h:KvO O kvs O.length) (hx:x∈O):bc kvs (.inr x)=some (.int (ixo O x)):=h.2.1 _ _ (b8 hx) (dI hx)
structure Tb (H0 H:Hp) (q:Addr) (rws:List (Addr×List Int)):Prop where
 l:H q=some (.lst (au rws))
 r:∀r∈rws,bp H true r/\r.1≠q/\H0 r.1=none
 nd:(rws.map (·.1)).Nodup
 q0:H0 q=none
noncomputable def bmp (rws:List (Addr×List Int)) (x y:Nat) (d:Int):List (Addr×List Int):=rws.modify x fun r=>(r.1,r.2.modify y (· + d))
theorem kc (rws:List (Addr×List Int)) (x y:Nat) (d:Int):(bmp rws x y d).map (·.1)=rws.map (·.1):=by
 refine List.ext_getElem? fun i=>?_
 unfold bmp
 rw [List.getElem?_map,List.getElem?_map,List.getElem?_modify]
 cases rws[i]? with
 | none=>rfl
 | some r=>by_cases e:x=i <;> simp [e]
theorem qo (rws:List (Addr×List Int)) (x y:Nat) (d:Int):au (bmp rws x y d)=au rws:=by
 have h:=congrArg (List.map V.ref) (kc rws x y d)
 rwa [List.map_map,List.map_map] at h
theorem kX (rws:List (Addr×List Int)) (x y:Nat) (d:Int):(bmp rws x y d).length=rws.length:=by simp [bmp]
theorem ma (rws:List (Addr×List Int)) (x y:Nat) (d:Int) (n:Nat) (hn:rws.length=n) (hr:∀r∈rws,r.2.length=n) (i j:Nat) (hi:i < n) (hj:j < n):at2 ((bmp rws x y d).map (·.2)) i j=at2 (rws.map (·.2)) i j + if i=x/\j=y then d else 0:=by
 unfold at2 bmp
 have hi':i < rws.length:=by omega
 have h1:=hr rws[i] (List.getElem_mem hi')
 rw [List.getElem?_map,List.getElem?_map,List.getElem?_modify,List.getElem?_eq_getElem hi']
 by_cases e:x=i
 ·subst e
  simp only [Option.map_eq_map,Option.map_some,if_true,Option.getD_some,List.getElem?_modify,List.getElem?_eq_getElem (show j < rws[x].2.length by omega)]
  by_cases e2:y=j
  ·simp [e2]
  ·simp [e2,Ne.symm e2]
 ·have:¬ (i=x/\j=y):=fun z=>e z.1.symm
  simp [e,this]
theorem lp (rws:List (Addr×List Int)) (x y:Nat) (d:Int) (n:Nat) (hr:∀r∈rws,r.2.length=n):∀r∈bmp rws x y d,r.2.length=n:=fun r h=>by
 obtain⟨i,hi⟩:=List.getElem?_of_mem h
 unfold bmp at hi
 rw [List.getElem?_modify] at hi
 cases e:rws[i]? with
 | none=>rw [e] at hi;cases hi
 | some z =>
  rw [e] at hi
  have:=hr z (List.mem_of_getElem? e)
  by_cases c:x=i
  ·simp [c] at hi
   rw [<- hi]
   simp [this]
  ·simp [c] at hi
   rw [<- hi];exact this
theorem Tb.bump {H0 H:Hp}{q:Addr}{rws:List (Addr×List Int)} (T:Tb H0 H q rws) {x y:Nat}{r:Addr×List Int}{v:Int} (hx:rws[x]?=some r) (hy:r.2[y]?=some v) (d:Int):Tb H0 (upd H r.1 (.lst ((r.2.map V.int).set y (.int (v + d))))) q (bmp rws x y d):=by
 have hrm:=List.mem_of_getElem? hx
 obtain⟨a1,a2,a3⟩:=T.r r hrm
 obtain⟨hx',ex⟩:=List.getElem?_eq_some_iff.mp hx
 refine⟨?_,fun z hz=>?_,by rw [kc];exact T.nd,T.q0⟩
 ·rw [aj a2.symm,qo];exact T.l
 ·obtain⟨i,hi⟩:=List.getElem?_of_mem hz
  unfold bmp at hi
  rw [List.getElem?_modify] at hi
  cases e:rws[i]? with
  | none=>rw [e] at hi;cases hi
  | some u =>
   rw [e] at hi
   obtain⟨b1,b2,b3⟩:=T.r u (List.mem_of_getElem? e)
   by_cases c:x=i
   ·subst c
    rw [hx] at e
    cases e
    simp at hi
    rw [<- hi]
    refine⟨?_,a2,a3⟩
    show upd _ r.1 _ r.1=some (sqO true _)
    rw [ah]
    show some (HO.lst _)=some (HO.lst _)
    congr 2
    refine List.ext_getElem? fun j=>?_
    rw [List.getElem?_map,List.getElem?_modify,List.getElem?_set,List.getElem?_map,List.length_map]
    by_cases c2:y=j
    ·subst c2
     have hyl:=(List.getElem?_eq_some_iff.mp hy).1
     simp [hyl]
     exact ((List.getElem?_eq_some_iff.mp hy).2).symm
    ·simp [c2]
   ·simp [c] at hi
    rw [<- hi]
    refine⟨?_,b2,b3⟩
    have hne:u.1≠r.1:=fun z=>by
     obtain⟨hi',ei⟩:=List.getElem?_eq_some_iff.mp e
     have h1:(rws.map (·.1))[x]'(by simpa using hx')=(rws.map (·.1))[i]'(by simpa using hi'):=by simp [ex,ei,z]
     exact c ((List.getElem_inj T.nd).mp h1)
    show upd _ r.1 _ u.1=_
    rw [aj hne];exact b1
theorem j9 (E:List Ti) (t:Ti) (r c:Nat):tab (E++[t]) r c=tab E r c + if t.2=c then one t r else 0:=by
 unfold tab
 rw [List.filter_append,List.map_append,List.sum_append]
 congr 1
 by_cases h:t.2=c
 ·simp [h]
 ·simp [h]
theorem pS {O:List Str}{root:Str}{rs:List Row}{i:Nat}{r:Row} (h:rs[i]?=some r):tis O root (rs.take (i + 1))=tis O root (rs.take i)++if r.2.2=root then [] else [(if r.2.1=root then none else some (ixo O r.2.1),ixo O r.2.2)]:=by
 unfold tis
 rw [List.take_add_one,h,List.filter_append,List.map_append]
 congr 1
 by_cases c:r.2.2=root
 ·simp [c]
 ·simp [c]
theorem mj {rws:List (Addr×List Int)}{n:Nat} (hn:rws.length=n) (hr:∀r∈rws,r.2.length=n) {x y:Nat} (hx:x < n) (hy:y < n):∃r v,rws[x]?=some r/\r.2[y]?=some v:=by
 have hx':x < rws.length:=by omega
 refine⟨rws[x],rws[x].2[y]'(by rw [hr _ (List.getElem_mem hx')];exact hy),List.getElem?_eq_getElem hx',List.getElem?_eq_getElem _⟩
section
variable {P:Program}{w:World}{K:PySem.W.Frag}{mg:Str->Option Value}{base:Heap}
noncomputable def mL:Sp:=fun vs H Q _=>∃(pa ra:Addr) (root:Str) (ps:List Str) (rs:List (Addr×Row)),vs=[.ref pa,.str root,.ref ra]/\H pa=some (.tup (ps.map V.str))/\(H ra=some (.lst (aq rs))\/H ra=some (.tup (aq rs)))/\(∀r∈rs,bh H r.1 r.2) /\
 ps.Nodup/\ps.length<=8/\rs.length<=60/\(∀r∈rs,r.2.2.1∈ps/\r.2.2.2∈ps) /\
 ∀(q:Addr) (rws:List (Addr×List Int)) (H':Hp),ae H H'->H' q=some (.tup (au rws))->(∀r∈rws,bp H' false r)->rws.length=(others ps root).length->(∀r∈rws,r.2.length=(others ps root).length) ->
  (∀i j,i < (others ps root).length->j < (others ps root).length->at2 (rws.map (·.2)) i j=tab (tis (others ps root) root (rs.map (·.2))) i j)->Q (.ref q) H'
noncomputable abbrev N16:List Str:=["places","root","rows","at","told","name","start","end"]
theorem dR:aQ N16 ["places","root","rows"] (aC (top 16)):=⟨rfl,rfl,rfl,by decide +kernel,rfl,by decide +kernel,by decide +kernel⟩
theorem qA {f:Addr}{fd:FuncData} (F:Fun K "table_of" "table_of" (top 16) f fd) (B:Bl mg):aG P w K mg base CX0 1 f fd ["places","root","rows"] mL:=by
 refine F.ok dR (fun vs H Q E h=>?_) (fun cdv A outer s H vs Q E hr h=>?_)
 ·obtain⟨pa,ra,root,ps,rs,rfl,_⟩:=h
  rfl
 ·obtain⟨pa,ra,root,ps,rs,rfl,hpa,hra,hrow,pnd,p8,r60,hin,k⟩:=h
  refine⟨_,ao (aE (i:=3) dR.nd rfl (Or.inr rfl) (uu (N:=["number","place"]) (ix:=[none,none]) ⟨rfl,rfl,rfl,by decide⟩ rfl
     (fO rfl B.enumerate (aa (bC (N:=["one","root"]) (ix:=[none,some 1]) ⟨rfl,rfl,rfl,by decide⟩ rfl (bP (pv 0)) (fun _ _ _ _=>aW 0 (by decide) rfl rfl) (fun _ _ _ _=>dD (aV bI (pv 0) (pv 1) (aN _))) (fun _ _ _ _=>pv 0)) ag))
     (fun _ _ _ _=>dB K rfl (n:=2) (aU (aW 0 (by decide) rfl rfl) (aU (aW 1 (by decide) rfl rfl) bO))) (fun _ _ _ _=>bw) (fun _ _ _ _=>pv 1) (fun _ _ _ _=>pv 0)))
   (ao (dq (i:=4) (N:=["place","at"]) (ix:=[none,some 3]) dR.nd rfl (Or.inl rfl) ⟨rfl,rfl,rfl,by decide⟩ rfl (pU (pv 3)) (fun _ _ _ _=>aW 0 (by decide) rfl rfl) (fun _ _ _ _=>bw)
     (fun _ _ _ _=>aH eL (bL (aa ai ag)) (aD oy rfl B.len PySem.boot_len (aa (pv 1) ag))))
   (ao (b9 PassesOwn.never rfl (gj (cv (pv 2)) (bP (pv 2))) (cM rfl (n:=3) (aU (be (i:=5) dR.nd rfl (Or.inl rfl)) (aU (be (i:=6) dR.nd rfl (Or.inl rfl)) (aU (be (i:=7) dR.nd rfl (Or.inl rfl)) bO))))
    (ar (aY (aV bI (pv 7) (pv 1) (aN _))
     (ao (kN (ax aP (pv 4) (fK (dX hr) (pv 3) (pv 7) (fun _ _=>rfl)) (fun _ _=>rfl)) (fK (dX hr) (pv 3) (pv 7) (fun _ _=>rfl)) kj ai tF set_list)
     (ar (aY (aV bI (pv 6) (pv 1) (aN _)) (ar (kN (ax aP (pv 4) (fK (dX hr) (pv 3) (pv 6) (fun _ _=>rfl)) (fun _ _=>rfl)) (fK (dX hr) (pv 3) (pv 7) (fun _ _=>rfl)) kj ai lA set_list)) a9))) a9)))
   (ar (aO (cm dj rfl B.tuple bY (aa (bC (N:=["row"]) (ix:=[none]) ⟨rfl,rfl,rfl,by decide⟩ rfl (cv (pv 4)) (fun _ _ _ _=>aW 0 (by decide) rfl rfl) (fun _ _ _ _=>bw) (fun _ _ _ _=>cm (jJ K) rfl B.tuple bY (aa (pv 0) ag))) ag)))))),?_⟩
  have ond:(others ps root).Nodup:=pnd.filter _
  have o8:(others ps root).length<=8:=Nat.le_trans (List.length_filter_le _ _) p8
  have hk2:∀(O:List Str),O=others ps root->∀(q:Addr) (rws:List (Addr×List Int)) (H':Hp),ae H H'->H' q=some (.tup (au rws))->(∀r∈rws,bp H' false r)->rws.length=O.length->(∀r∈rws,r.2.length=O.length) ->
   (∀i j,i < O.length->j < O.length->at2 (rws.map (·.2)) i j=tab (tis O root (rs.map (·.2))) i j)->Q (.ref q) H':=by rintro O rfl;exact k
  have hin2:∀r∈rs,(r.2.2.1≠root->r.2.2.1∈others ps root)/\(r.2.2.2≠root->r.2.2.2∈others ps root):=fun r hr=>⟨fun z=>bG.mpr ⟨(hin r hr).1,z⟩,fun z=>bG.mpr ⟨(hin r hr).2,z⟩⟩
  refine⟨_,rfl,pa,rfl,⟨_,SqT.of hpa⟩,?_⟩
  refine eK (K:=K) (xs:=ps.map V.str) (fits (by simp;omega)) (fun i zs σ H2=>zs=((ps.take i).filter fun y=>!decide (y=root)).map V.str/\H2=H/\∃g,σ=[g,some (.str root)]) ⟨rfl,rfl,_,rfl⟩
   (fun i zs σ H2 hi z=>⟨by rw [z.1,List.length_map];exact Nat.le_trans (List.length_filter_le _ _) (by simp;omega),by rw [z.2.1];exact SqT.of hpa⟩) ?_ ?_
  ·rintro i x zs σ H2 hx ⟨rfl,rfl,g,rfl⟩
   rw [List.getElem?_map] at hx
   obtain⟨z,hz,rfl⟩:∃z,ps[i]?=some z/\x=.str z:=by
    cases e:ps[i]? with
    | none=>rw [e] at hx;cases hx
    | some z=>rw [e] at hx;cases hx;exact⟨z,rfl,rfl⟩
   have tf:=cS (fun y:Str=>!decide (y=root)) ps i z hz
   refine⟨_,rfl,_,rfl,rfl,_,rfl,?_⟩
   have e:(!decide (V.str z=V.str root))=!decide (z=root):=by simp
   rw [e]
   refine bj (fun c=>⟨_,rfl,?_,rfl,_,rfl⟩) (fun c=>⟨?_,rfl,_,rfl⟩)
   ·rw [tf,c];simp
   ·rw [tf];simp only [Bool.not_eq_true] at c;rw [c];simp
  rintro zs σ H2 ⟨rfl,rfl,g,rfl⟩ ol hol
  rw [take_all ps (by simp)]
  rw [show (ps.filter fun y=>!decide (y=root))=others ps root from rfl]
  generalize hO:others ps root=O at ond o8 hin2
  have hk:=hk2 O hO.symm
  clear hk2 k
  have s1:=am (o:=.lst (O.map V.str)) (ae.refl H2) hol
  have o1:upd H2 ol (.lst (O.map V.str)) ol=some (.lst (O.map V.str)):=ah
  generalize upd H2 ol (.lst (O.map V.str))=H3 at s1 o1 ⊢
  refine⟨ol,_,rfl,SqL.of o1,fun D hD=>?_⟩
  have hD2:=s1.free hD
  refine ph (K:=K) (a:=ol) (xs:=O.map V.str) (fun i σ H4=>ae H3 H4/\(∃x y,σ=[x,y])/\∃kvs,H4 D=some (.dK kvs)/\KvO O kvs i)
   ⟨am (ae.refl _) hD,⟨_,_,rfl⟩,[],ah,rfl,fun m x hm=>absurd hm (Nat.not_lt_zero _),fun x _=>rfl⟩ (fun i σ H4 _ q=>SqL.of (q.1 _ _ o1)) ?_ ?_
  ·rintro i x σ H4 T hx ⟨s4,⟨g1,g2,rfl⟩,kvs,d4,kv⟩ hT
   rw [List.getElem?_map] at hx
   obtain⟨z,hz,rfl⟩:∃z,O[i]?=some z/\x=.str z:=by
    cases e:O[i]? with
    | none=>rw [e] at hx;cases hx
    | some z=>rw [e] at hx;cases hx;exact⟨z,rfl,rfl⟩
   have hi:i < O.length:=(List.getElem?_eq_some_iff.mp hz).1
   have u4:=am (o:=.tup [.int i,.str z]) (ae.refl H4) hT
   refine⟨T,_,rfl,SqT.of ah,rfl,_,_,rfl,_,_,rfl,rfl,?_⟩
   exact⟨_,rfl,_,rfl,_,⟨kvs,.inr z,u4 _ _ d4,rfl,by rw [kv.1];exact fits (by omega),rfl⟩,ae.upd0 (s4.trans u4) hD,⟨_,_,rfl⟩,_,ah,kv.step ond hz⟩
  rintro σ H4 ⟨s4,_,kvs,d4,kv⟩
  rw [List.length_map] at kv
  refine⟨_,rfl,D,kvs,rfl,d4,fun o=>?_⟩
  have s5:ae H2 (upd H4 D (.frz o (.dK kvs))):=ae.upd0 (s1.trans s4) hD2
  have d5:upd H4 D (.frz o (.dK kvs)) D=some (.frz o (.dK kvs)):=ah
  generalize upd H4 D (.frz o (.dK kvs))=H5 at s5 d5 ⊢
  have kl:=kv.1
  refine oF (kvs:=kvs) (fits (by omega)) (fun i zs σ H6=>(∃rws:List (Addr×List Int),zs=au rws/\rws.length=i/\(∀r∈rws,r.2=List.replicate O.length 0)/\(∀r∈rws,bp H6 true r/\H5 r.1=none)/\(rws.map (·.1)).Nodup)/\ae H5 H6/\∃g,σ=[g,some (.ref D)])
   ⟨⟨[],rfl,rfl,by simp,by simp,by simp⟩,ae.refl _,_,rfl⟩ (fun i zs σ H6 _ z=>by obtain⟨⟨rws,rfl,e,_⟩,s6,_⟩:=z;exact⟨by simp [e],s6 _ _ d5⟩) ?_ ?_
  ·rintro i p zs σ H6 hp ⟨⟨rws,rfl,rl,rz,rn,rd⟩,s6,g,rfl⟩
   refine⟨by show 1<=sizeLine;decide,fun n hn=>?_⟩
   have u6:=am (o:=.lst [.int 0]) (ae.refl H6) hn
   have n6:upd H6 n (.lst [.int 0]) n=some (.lst [.int 0]):=ah
   generalize upd H6 n (.lst [.int 0])=H7 at u6 n6 ⊢
   refine⟨_,rfl,D,kvs,rfl,.inr ⟨o,u6 _ _ (s6 _ _ d5)⟩,n,_,_,rfl,rfl,n6,by omega,by omega,by simp;rw [sizeLine_eq];omega,fun m hm=>?_⟩
   have e0:(List.replicate ((kvs.length:Int)).toNat [V.int 0]).flatten=(List.replicate O.length (0:Int)).map V.int:=by
    rw [kl,Int.toNat_natCast]
    induction O.length with
    | zero=>rfl
    | succ n ih=>rw [List.replicate_succ,List.flatten_cons,ih,List.replicate_succ];rfl
   rw [e0]
   have u7:=am (o:=.lst ((List.replicate O.length (0:Int)).map V.int)) u6 hm
   have m0:H6 m=none:=u6.free hm
   have m5:H5 m=none:=s6.free m0
   refine⟨⟨rws++[(m,List.replicate O.length 0)],by simp [au],by simp [rl],fun r hr=>?_,fun r hr=>?_,?_⟩,s6.trans u7,_,rfl⟩
   ·rcases List.mem_append.mp hr with z | z
    ·exact rz r z
    ·have e:r=(m,List.replicate O.length 0):=by simpa using z
     rw [e]
   ·rcases List.mem_append.mp hr with z | z
    ·exact⟨(rn r z).1.same u7,(rn r z).2⟩
    ·have e:r=(m,List.replicate O.length 0):=by simpa using z
     rw [e]
     exact⟨ah,m5⟩
   ·rw [List.map_append,List.nodup_append]
    refine⟨rd,by simp,fun a ha b hb e=>?_⟩
    have hb':b=m:=by simpa using hb
    obtain⟨r,hr,rfl⟩:=List.mem_map.mp ha
    have z:=(rn r hr).1
    unfold bp at z
    rw [e,hb',m0] at z
    cases z
  rintro zs σ H6 ⟨⟨rws0,rfl,rl0,rz0,rn0,rd0⟩,s6,g',rfl⟩ q hq
  have hq5:H5 q=none:=s6.free hq
  have s7:=am (o:=.lst (au rws0)) s6 hq
  have T7:Tb H2 (upd H6 q (.lst (au rws0))) q rws0:=⟨ah,fun r hr=>by
   obtain⟨z1,z2⟩:=rn0 r hr
   have hne:r.1≠q:=aI z1 hq
   refine⟨?_,hne,s5.free z2⟩
   show upd _ q _ r.1=_
   rw [aj hne];exact z1,rd0,s5.free hq5⟩
  have d7:=s7 _ _ d5
  have s27:=s5.trans s7
  generalize upd H6 q (.lst (au rws0))=H7 at s7 T7 d7 s27 ⊢
  rw [kl] at rl0
  have at0:∀i j,i < O.length->j < O.length->at2 (rws0.map (·.2)) i j=0:=fun i j hi hj=>by
   unfold at2
   rw [List.getElem?_map,List.getElem?_eq_getElem (show i < rws0.length by omega),Option.map_some,Option.getD_some,rz0 _ (List.getElem_mem _),List.getElem?_replicate,if_pos hj];rfl
  have len0:∀r∈rws0,r.2.length=O.length:=fun r hr=>by rw [rz0 r hr];simp
  have rb:H2 ra=some (.lst (aq rs))\/H2 ra=some (.tup (aq rs)):=hra
  refine pY (K:=K) (Hb:=H2) (a:=ra) (xs:=aq rs) (fun Q q=>⟨_,rfl,q⟩) rb s27 (fun i σ Hx=>∃rws:List (Addr×List Int),ae H2 Hx/\Tb H2 Hx q rws/\Hx D=some (.frz o (.dK kvs))/\rws.length=O.length/\(∀r∈rws,r.2.length=O.length) /\
    (∀x y,x < O.length->y < O.length->at2 (rws.map (·.2)) x y=tab (tis O root ((rs.map (·.2)).take i)) x y)/\∃g5 g6 g7,σ=[some (.ref pa),some (.str root),some (.ref ra),some (.ref D),some (.ref q),g5,g6,g7])
   ⟨rws0,s27,T7,d7,rl0,len0,fun x y hx hy=>by rw [at0 x y hx hy];rfl,_,_,_,rfl⟩ (fun i σ Hx _ z=>by obtain⟨_,z,_⟩:=z;exact z) ?_ ?_
  ·rintro i x σ Hx hx ⟨rws,sx,T,dx,rl,hl,hat,g5,g6,g7,rfl⟩
   obtain⟨r,hr',rfl⟩:=cq hx
   have hrm:=List.mem_of_getElem? hr'
   have r3:=sx _ _ (hrow r hrm)
   obtain⟨in1,in2⟩:=hin2 r hrm
   have hsucc:=pS (O:=O) (root:=root) (rs:=rs.map (·.2)) (i:=i) (r:=r.2) (by rw [List.getElem?_map,hr'];rfl)
   refine⟨r.1,_,rfl,SqT.of r3,rfl,_,_,rfl,_,_,rfl,_,_,rfl,rfl,?_⟩
   refine⟨_,rfl,_,rfl,rfl,_,rfl,?_⟩
   have e:(!decide (V.str r.2.2.2=V.str root))=!decide (r.2.2.2=root):=by simp
   rw [e]
   refine bj (fun c=>?_) (fun c=>?_)
   ·have c':r.2.2.2≠root:=by simpa using c
    have me:=in2 c'
    rw [if_neg c'] at hsucc
    have ve:=kv.get me
    have le:=b8 me
    obtain⟨re,ve2,hre,hve2⟩:=mj rl hl le le
    have R1:(au rws)[ixo O r.2.2.2]?=some (.ref re.1):=by rw [List.getElem?_map,hre];rfl
    have gd:∀{Hz:Hp}{z:Str},Hz D=some (.frz o (.dK kvs))->z∈O->ed Hz D (.str z) (some (.int (ixo O z))):=fun hz hm=>.inl ⟨kvs,.inr _,.inr ⟨o,hz⟩,rfl,(kv.get hm).symm⟩
    refine⟨_,rfl,_,rfl,_,rfl,_,_,rfl,gd dx me,ay (j:=ixo O r.2.2.2) (.inl (SqL.of T.l)) rfl R1 ⟨_,rfl,_,rfl,_,_,rfl,gd dx me,?_⟩⟩
    have N1:=(T.r re (List.mem_of_getElem? hre)).1
    have V1:(re.2.map V.int)[ixo O r.2.2.2]?=some (.int ve2):=by rw [List.getElem?_map,hve2];rfl
    refine⟨re.1,_,_,_,rfl,rfl,SqL.of N1,by omega,by rw [Int.toNat_natCast];exact V1,_,_,rfl,rfl,re.1,_,_,ixo O r.2.2.2,rfl,rfl,N1,fF (by rw [List.length_map,hl re (List.mem_of_getElem? hre)];exact le),?_⟩
    have T2:=T.bump hre hve2 1
    have sx2:ae H2 (upd Hx re.1 (.lst ((re.2.map V.int).set (ixo O r.2.2.2) (.int (ve2 + 1))))):=ae.upd0 sx (T.r re (List.mem_of_getElem? hre)).2.2
    have dx2:upd Hx re.1 (.lst ((re.2.map V.int).set (ixo O r.2.2.2) (.int (ve2 + 1)))) D=some (.frz o (.dK kvs)):=by
     rw [aj (fun z=>by rw [z,N1] at dx;cases dx)];exact dx
    generalize upd Hx re.1 (.lst ((re.2.map V.int).set (ixo O r.2.2.2) (.int (ve2 + 1))))=Hy at T2 sx2 dx2 ⊢
    have rl2:=(kX rws (ixo O r.2.2.2) (ixo O r.2.2.2) 1).trans rl
    have hl2:=lp rws (ixo O r.2.2.2) (ixo O r.2.2.2) 1 _ hl
    have hat2:=ma rws (ixo O r.2.2.2) (ixo O r.2.2.2) 1 _ rl hl
    generalize bmp rws (ixo O r.2.2.2) (ixo O r.2.2.2) 1=rws2 at T2 rl2 hl2 hat2
    refine⟨_,rfl,_,rfl,rfl,_,rfl,?_⟩
    have e:(!decide (V.str r.2.2.1=V.str root))=!decide (r.2.2.1=root):=by simp
    rw [e]
    refine bj (fun d=>?_) (fun d=>?_)
    ·have d':r.2.2.1≠root:=by simpa using d
     have ms:=in1 d'
     rw [if_neg d'] at hsucc
     have ls:=b8 ms
     obtain⟨rt,vt,hrt,hvt⟩:=mj rl2 hl2 ls le
     have R2:(au rws2)[ixo O r.2.2.1]?=some (.ref rt.1):=by rw [List.getElem?_map,hrt];rfl
     refine⟨_,rfl,_,rfl,_,rfl,_,_,rfl,gd dx2 ms,ay (j:=ixo O r.2.2.1) (.inl (SqL.of T2.l)) rfl R2 ⟨_,rfl,_,rfl,_,_,rfl,gd dx2 me,?_⟩⟩
     have N2:=(T2.r rt (List.mem_of_getElem? hrt)).1
     have V2:(rt.2.map V.int)[ixo O r.2.2.2]?=some (.int vt):=by rw [List.getElem?_map,hvt];rfl
     refine⟨rt.1,_,_,_,rfl,rfl,SqL.of N2,by omega,by rw [Int.toNat_natCast];exact V2,_,_,rfl,rfl,rt.1,_,_,ixo O r.2.2.2,rfl,rfl,N2,fF (by rw [List.length_map,hl2 rt (List.mem_of_getElem? hrt)];exact le),?_⟩
     have T3:=T2.bump hrt hvt (-1)
     rw [<- Int.sub_eq_add_neg] at T3
     refine⟨_,ae.upd0 sx2 (T2.r rt (List.mem_of_getElem? hrt)).2.2,T3,by rw [aj (fun z=>by rw [z,N2] at dx2;cases dx2)];exact dx2,(kX _ _ _ _).trans rl2,lp _ _ _ _ _ hl2,fun x y hx hy=>?_,_,_,_,rfl⟩
     rw [ma _ _ _ _ _ rl2 hl2 x y hx hy,hat2 x y hx hy,hat x y hx hy,hsucc,j9]
     unfold one
     by_cases b1:y=ixo O r.2.2.2
     ·subst b1
      simp only [and_true,if_true,Option.some.injEq]
      have:(ixo O r.2.2.1=x) ↔ (x=ixo O r.2.2.1):=eq_comm
      simp only [this]
      split <;> split <;> omega
     ·simp [b1,Ne.symm b1]
    ·have d':r.2.2.1=root:=by simpa using d
     rw [if_pos d'] at hsucc
     refine⟨rws2,sx2,T2,dx2,rl2,hl2,fun x y hx hy=>?_,_,_,_,rfl⟩
     rw [hat2 x y hx hy,hat x y hx hy,hsucc,j9]
     unfold one
     by_cases b1:y=ixo O r.2.2.2
     ·subst b1
      simp
     ·simp [b1,Ne.symm b1]
   ·have c':r.2.2.2=root:=by simpa using c
    rw [if_pos c',List.append_nil] at hsucc
    exact⟨rws,sx,T,dx,rl,hl,fun x y hx hy=>by rw [hsucc];exact hat x y hx hy,_,_,_,rfl⟩
  rintro σ Hx ⟨rws,sx,T,dx,rl,hl,hat,g5,g6,g7,rfl⟩
  rw [List.length_map,take_all _ (by simp)] at hat
  refine⟨_,rfl,q,rfl,⟨_,SqL.of T.l⟩,?_⟩
  refine gz (K:=K) (xs:=au rws) (fits (by simp;omega)) (fun i zs σ Hy=>(∃rt:List (Addr×List Int),zs=au rt/\rt.map (·.2)=(rws.map (·.2)).take i/\∀r∈rt,bp Hy false r)/\ae Hx Hy/\∃g,σ=[g])
   ⟨⟨[],rfl,by simp,by simp⟩,ae.refl _,_,rfl⟩ (fun i zs σ Hy hi z=>by
    obtain⟨⟨rt,rfl,e,_⟩,sy,_⟩:=z
    have:=congrArg List.length e
    simp at this
    exact⟨by simp;omega,SqL.of (sy _ _ T.l)⟩) ?_ ?_
  ·rintro i x zs σ Hy hx ⟨⟨rt,rfl,e,hn⟩,sy,g,rfl⟩
   rw [List.getElem?_map] at hx
   obtain⟨r,hr',rfl⟩:∃r,rws[i]?=some r/\x=.ref r.1:=by
    cases e:rws[i]? with
    | none=>rw [e] at hx;cases hx
    | some z=>rw [e] at hx;cases hx;exact⟨z,rfl,rfl⟩
   have N1:=(T.r r (List.mem_of_getElem? hr')).1.same sy
   refine⟨_,rfl,r.1,_,rfl,.inl ⟨SqL.of N1,fun n hn'=>?_⟩⟩
   have u:=am (o:=.tup (r.2.map V.int)) (ae.refl Hy) hn'
   refine⟨⟨rt++[(n,r.2)],by simp [au],by rw [List.map_append,e,List.take_add_one,List.getElem?_map,hr'];rfl,fun z hz=>?_⟩,sy.trans u,_,rfl⟩
   rcases List.mem_append.mp hz with y | y
   ·exact (hn z y).same u
   ·have e:z=(n,r.2):=by simpa using y
    rw [e];exact ah
  rintro zs σ Hy ⟨⟨rt,rfl,e,hn⟩,sy,g,rfl⟩ l hl'
  rw [List.length_map,take_all _ (by simp)] at e
  have u:=am (o:=.lst (au rt)) (ae.refl Hy) hl'
  have l8:upd Hy l (.lst (au rt)) l=some (.lst (au rt)):=ah
  generalize upd Hy l (.lst (au rt))=Hz at u l8 ⊢
  refine⟨l,_,rfl,.inl ⟨SqL.of l8,fun n hn'=>?_⟩⟩
  have u2:=am (o:=.tup (au rt)) (ae.refl Hz) hn'
  have el:rt.length=rws.length:=by have:=congrArg List.length e;simpa using this
  refine hk n rt _ (sx.trans (sy.trans (u.trans u2))) ah (fun r hr=>(hn r hr).same (u.trans u2)) (by omega) (fun r hr=>?_) (fun i j hi hj=>by rw [e];exact hat i j hi hj)
  have:r.2∈rws.map (·.2):=by rw [<- e];exact List.mem_map.mpr ⟨r,hr,rfl⟩
  obtain⟨r',h1,h2⟩:=List.mem_map.mp this
  rw [<- h2];exact hl r' h1
end
theorem one_le (t:Ti) (r:Nat):(one t r).natAbs<=1:=by
 unfold one
 split <;> split <;> decide
theorem sC (l:List Int) (h:∀x∈l,x.natAbs<=1):l.sum.natAbs<=l.length:=by
 induction l with
 | nil=>exact Nat.le_refl _
 | cons x l ih =>
  have h1:=ih fun y hy=>h y (List.mem_cons_of_mem _ hy)
  have h2:=h x List.mem_cons_self
  rw [List.sum_cons,List.length_cons]
  have:=Int.natAbs_add_le x l.sum
  omega
theorem rZ (E:List Ti) (i j:Nat):(tab E i j).natAbs<=E.length:=by
 unfold tab
 refine Nat.le_trans (sC _ fun x hx=>?_) (by rw [List.length_map];exact List.length_filter_le _ _)
 obtain⟨t,_,rfl⟩:=List.mem_map.mp hx
 exact one_le t i
theorem rh (O:List Str) (root:Str) (rs:List Row):(tis O root rs).length<=rs.length:=by
 unfold tis
 rw [List.length_map]
 exact List.length_filter_le _ _
section
variable {P:Program}{w:World}{K:PySem.W.Frag}{mg:Str->Option Value}{base:Heap}
noncomputable def aF (ps:List Str) (root:Str) (rs:List Row):Int:=dt (others ps root).length (tab (tis (others ps root) root rs))
noncomputable def gy:Sp:=fun vs H Q _=>∃(pa ra:Addr) (root:Str) (ps:List Str) (rs:List (Addr×Row)),vs=[.ref pa,.str root,.ref ra]/\H pa=some (.tup (ps.map V.str))/\(H ra=some (.lst (aq rs))\/H ra=some (.tup (aq rs)))/\(∀r∈rs,bh H r.1 r.2) /\
 ps.Nodup/\ps.length<=8/\rs.length<=60/\(∀r∈rs,r.2.2.1∈ps/\r.2.2.2∈ps)/\∀H',ae H H'->Q (.int (aF ps root (rs.map (·.2)))) H'
theorem vE:aQ ["places","root","rows"] ["places","root","rows"] (aC (top 21)):=⟨rfl,rfl,rfl,by decide +kernel,rfl,by decide +kernel,by decide +kernel⟩
theorem n0 {f:Addr}{fd:FuncData} (F:Fun K "count_of" "count_of" (top 21) f fd) (F1:Fn P w K mg base 2 "determinant" ["rows"] mI) (F2:Fn P w K mg base 1 "table_of" ["places","root","rows"] mL):aG P w K mg base CX0 3 f fd ["places","root","rows"] gy:=by
 refine F.ok vE (fun vs H Q E h=>?_) (fun cdv A outer s H vs Q E hr h=>?_)
 ·obtain⟨pa,ra,root,ps,rs,rfl,_⟩:=h
  rfl
 ·obtain⟨pa,ra,root,ps,rs,rfl,hpa,hra,hrow,pnd,p8,r60,hin,k⟩:=h
  have hr1:aL 1 _:=hr.mono (by decide)
  refine⟨_,ar (aO (av F1 hr (aa (av F2 hr1 (aa (pv 0) (aa (pv 1) (aa (pv 2) ag)))) ag))),?_⟩
  refine⟨_,rfl,_,rfl,_,rfl,pa,ra,root,ps,rs,rfl,hpa,hra,hrow,pnd,p8,r60,hin,fun q rws H1 s1 hq hr' hl hl2 hat=>?_⟩
  have o8:(others ps root).length<=8:=Nat.le_trans (List.length_filter_le _ _) p8
  refine⟨q,rws,rfl,hq,hr',fun r hr=>by rw [hl2 r hr,hl],by omega,fun r hr x hx=>?_,fun H2 s2=>?_⟩
  ·obtain⟨i,j,hi,hj,rfl⟩:=kM (L:=rws.map (·.2)) (n:=(others ps root).length) (fun row hrow=>by
    obtain⟨r,hr,rfl⟩:=List.mem_map.mp hrow
    exact hl2 r hr) (List.mem_map.mpr ⟨r,hr,rfl⟩) hx
   rw [List.length_map,hl] at hi
   rw [hat i j hi hj]
   refine Nat.le_trans (rZ _ _ _) (Nat.le_trans (rh _ _ _) ?_)
   rw [List.length_map]
   exact Nat.le_trans r60 (by decide)
  ·have e:dt rws.length (at2 (rws.map (·.2)))=aF ps root (rs.map (·.2)):=by
    rw [hl]
    exact aZ fun r c hr hc=>hat r c hr hc
   have q:=k H2 (s1.trans s2)
   rw [<- e] at q
   exact q
noncomputable def lu:Sp:=fun vs H Q _=>∃(v pa ra:Addr) (root:Str) (ps:List Str) (rs:List (Addr×Row)),vs=[.ref v,.str root]/\bH H v pa ra ps rs/\Good ps (rs.map (·.2))/\ps.length<=8/\root∈ps/\∀H',ae H H'->Q (.int (aF ps root (rs.map (·.2)))) H'
theorem vN:aQ ["web","root"] ["web","root"] (aC (top 25)):=⟨rfl,rfl,rfl,by decide +kernel,rfl,by decide +kernel,by decide +kernel⟩
theorem pR {f:Addr}{fd:FuncData} (F:Fun K "count" "count" (top 25) f fd) (F1:Fn P w K mg base 4 "need_web" ["thing"] (gf .non)) (F2:Fn P w K mg base 2 "need_place" ["web","thing"] i9) (F3:Fn P w K mg base 3 "count_of" ["places","root","rows"] gy):aG P w K mg base CX0 5 f fd ["web","root"] lu:=by
 refine F.ok vN (fun vs H Q E h=>?_) (fun cdv A outer s H vs Q E hr h=>?_)
 ·obtain⟨v,pa,ra,root,ps,rs,rfl,_⟩:=h
  rfl
 ·obtain⟨v,pa,ra,root,ps,rs,rfl,W,G,p8,hroot,k⟩:=h
  have hr2:aL 2 _:=hr.mono (by decide)
  have hr3:aL 3 _:=hr.mono (by decide)
  refine⟨_,ao (cw (av F1 hr (aa (pv 0) ag))) (ao (cw (av F2 hr2 (aa (pv 0) (aa (pv 1) ag)))) (ar (aO (av F3 hr3 (aa (ax aP (pv 0) ai (fun _ _=>rfl)) (aa (pv 1) (aa (ax aP (pv 0) ai (fun _ _=>rfl)) ag))))))),?_⟩
  refine⟨_,rfl,v,pa,ra,ps,rs,rfl,W,G,fun H1 s1=>⟨_,rfl,_,rfl,v,pa,ra,ps,rs,root,rfl,W.same s1,hroot,?_⟩⟩
  have W1:=W.same s1
  refine⟨_,rfl,ay (j:=0) (.inr (SqT.of W1.tp)) rfl rfl ⟨_,rfl,_,rfl,ay (j:=1) (.inr (SqT.of W1.tp)) rfl rfl ⟨pa,ra,root,ps,rs,rfl,W1.pl,.inr W1.rl,W1.rows,cF G.so,p8,by have:=G.rz;simpa using this,fun r hr=>?_,fun H2 s2=>k H2 (s1.trans s2)⟩⟩⟩
  obtain⟨_,h2,h3,_⟩:=G.rn r.2 (List.mem_map.mpr ⟨r,hr,rfl⟩)
  exact⟨h2,h3⟩
end
noncomputable def clp (rs:List Row) (O:List Str):List (List Str):=O.foldl (fun acc x=>(rs.filter fun r=>decide (r.2.2=x)).flatMap fun r=>acc.map fun c=>c++[r.2.1]) [[]]
theorem eC (rs:List Row) (O:List Str) (x:Str):clp rs (O++[x])=(rs.filter fun r=>decide (r.2.2=x)).flatMap fun r=>(clp rs O).map fun c=>c++[r.2.1]:=by
 unfold clp
 rw [List.foldl_append]
 rfl
theorem fw {α β:Type} (l:List α) (f:α->List β) (n:Nat) (h:∀x∈l,(f x).length=n):(l.flatMap f).length=l.length * n:=by
 induction l with
 | nil=>simp
 | cons x l ih=>rw [List.flatMap_cons,List.length_append,h x List.mem_cons_self,ih fun y hy=>h y (List.mem_cons_of_mem _ hy),List.length_cons,Nat.succ_mul,Nat.add_comm]
theorem e7 (rs:List Row) (O:List Str):∀j,∀c∈clp rs (O.take j),c.length=(O.take j).length
 | 0,c,h=>by
  have:c=[]:=by simpa [clp] using h
  simp [this]
 | j + 1,c,h=>by
  cases e:O[j]? with
  | none =>
   have hl:O.length<=j:=by simpa using e
   rw [List.take_of_length_le (by omega:O.length<=j + 1)] at h ⊢
   have:=e7 rs O j c (by rw [List.take_of_length_le hl];exact h)
   rwa [List.take_of_length_le hl] at this
  | some x =>
   rw [List.take_add_one,e] at h ⊢
   simp only [Option.toList_some] at h ⊢
   rw [eC,List.mem_flatMap] at h
   obtain⟨r,_,h⟩:=h
   obtain⟨c0,h0,rfl⟩:=List.mem_map.mp h
   have:=e7 rs O j c0 h0
   simp [this]
theorem rO {rs:List Row}{O:List Str}{c:List Str} (h:c∈clp rs O):c.length=O.length:=by
 have:=e7 rs O O.length c (by rw [List.take_length];exact h)
 rwa [List.take_length] at this
noncomputable def gof (O:List Str) (root:Str) (c:List Str):Nat->Option Nat:=fun v=>match c[v]? with
 | none=>none
 | some b=>if b=root then none else some (ixo O b)
theorem pV (O:List Str) (root:Str) (c:List Str) (b:Str) (j:Nat) (hj:c.length=j):upf (gof O root c) j (if b=root then none else some (ixo O b))=gof O root (c++[b]):=by
 subst hj
 funext v
 unfold upf gof
 by_cases e:v=c.length
 ·subst e
  simp
 ·rw [if_neg e]
  by_cases h:v < c.length
  ·rw [List.getElem?_append_left h]
  ·rw [List.getElem?_eq_none (by omega),List.getElem?_eq_none (by simp;omega)]
theorem eG {O:List Str} (nd:O.Nodup) {j:Nat}{x:Str} (h:O[j]?=some x):ixo O x=j:=by
 obtain⟨hj,e⟩:=List.getElem?_eq_some_iff.mp h
 have hm:x∈O:=by rw [<- e];exact List.getElem_mem hj
 have h1:=b8 hm
 have h2:=dI hm
 obtain⟨h3,h4⟩:=List.getElem?_eq_some_iff.mp h2
 exact (List.getElem_inj (h₀:=h3) (h₁:=hj) nd).mp (h4.trans e.symm)
theorem kU {O:List Str}{root:Str}{rs:List Row} (nd:O.Nodup) (hO:root∉O) (hr:∀r∈rs,r.2.2≠root->r.2.2∈O):∀j,j<=O.length->chs (tis O root rs) j=(clp rs (O.take j)).map (gof O root)
 | 0,_=>by
  simp only [chs,List.take_zero]
  show _=[gof O root []]
  congr 1
 | j + 1,hj=>by
  have ih:=kU nd hO hr j (by omega)
  obtain⟨x,hx⟩:∃x,O[j]?=some x:=⟨O[j],List.getElem?_eq_getElem (by omega)⟩
  have hxO:x∈O:=List.mem_of_getElem? hx
  rw [List.take_add_one,hx]
  simp only [Option.toList_some]
  rw [eC,chs,ih]
  have ef:(tis O root rs).filter (fun t=>t.2 == j)=(rs.filter fun r=>decide (r.2.2=x)).map fun r=>(if r.2.1=root then none else some (ixo O r.2.1),ixo O r.2.2):=by
   unfold tis
   rw [List.filter_map,List.filter_filter]
   congr 1
   refine List.filter_congr fun r hr'=>?_
   by_cases c:r.2.2=root
   ·have:r.2.2≠x:=fun z=>hO (by rw [<- c,z];exact hxO)
    simp [c]
    exact fun z=>this (c.trans z)
   ·have hm:=hr r hr' c
    simp [c]
    rw [Bool.eq_iff_iff]
    simp
    constructor
    ·intro z
     have h1:=dI hm
     rw [z,hx] at h1
     exact (Option.some.inj h1).symm
    ·intro z
     rw [z];exact eG nd hx
  rw [ef,List.flatMap_map,List.map_flatMap]
  congr 1
  funext r
  rw [List.map_map,List.map_map]
  refine List.map_congr_left fun c hc=>?_
  have hl:c.length=j:=by rw [e7 rs O j c hc,List.length_take];omega
  exact pV O root c r.2.1 j hl
noncomputable def stp (O:List Str) (root:Str) (c:List Str) (x:Str):Str:=if x=root then x else (c[ixo O x]?).getD x
noncomputable def wlk (O:List Str) (root:Str) (c:List Str):Nat->Str->Str
 | 0,x=>x
 | k + 1,x=>stp O root c (wlk O root c k x)
noncomputable def enc (O:List Str) (root x:Str):Option Nat:=if x=root then none else some (ixo O x)
noncomputable def In (O:List Str) (root x:Str):Prop:=x=root\/x∈O
theorem uG {O:List Str}{root:Str}{c:List Str}{x:Str} (hc:∀b∈c,In O root b) (hx:In O root x):In O root (stp O root c x):=by
 unfold stp
 split
 ·exact hx
 ·cases e:c[ixo O x]? with
  | none=>exact hx
  | some b=>exact hc b (List.mem_of_getElem? e)
theorem lx {O:List Str}{root:Str}{c:List Str}{x:Str} (hc:∀b∈c,In O root b) (hx:In O root x):∀k,In O root (wlk O root c k x)
 | 0=>hx
 | k + 1=>uG hc (lx hc hx k)
theorem rF {O:List Str}{root:Str}{c:List Str}{x:Str} (hl:c.length=O.length) (hx:In O root x):(enc O root x).bind (gof O root c)=enc O root (stp O root c x):=by
 unfold enc stp
 by_cases h:x=root
 ·simp [h]
 ·have hm:x∈O:=by rcases hx with z | z;exact absurd z h;exact z
  have hlt:=b8 hm
  rw [if_neg h,if_neg h]
  show gof O root c (ixo O x)=_
  unfold gof
  rw [List.getElem?_eq_getElem (by omega)]
  simp
theorem gZ {O:List Str}{root:Str}{c:List Str}{x:Str} (hc:∀b∈c,In O root b) (hl:c.length=O.length) (hx:In O root x):∀k,itr (gof O root c) k (enc O root x)=enc O root (wlk O root c k x)
 | 0=>rfl
 | k + 1=>by rw [jN,gZ hc hl hx k,rF hl (lx hc hx k)];rfl
theorem jS (O:List Str) (root:Str) (c:List Str):∀k,wlk O root c k root=root
 | 0=>rfl
 | k + 1=>by rw [wlk,jS O root c k];simp [stp]
theorem j3 {O:List Str}{root x:Str}:(enc O root x).isNone=decide (x=root):=by
 unfold enc
 by_cases h:x=root <;> simp [h]
theorem ui {O:List Str}{root:Str}{rs:List Row} (hr:∀r∈rs,In O root r.2.1):∀(L:List Str),∀c∈clp rs L,∀b∈c,In O root b:=by
 have key:∀(n:Nat) (L:List Str),L.length=n->∀c∈clp rs L,∀b∈c,In O root b:=fun n=>by
  induction n with
  | zero =>
   intro L hL c hc b hb
   have:L=[]:=List.length_eq_zero_iff.mp hL
   subst this
   have:c=[]:=by simpa [clp] using hc
   subst this
   simp at hb
  | succ n ih =>
   intro L hL c hc b hb
   obtain⟨L0,x,rfl⟩:∃L0 x,L=L0++[x]:=⟨L.dropLast,L.getLast (by intro z;simp [z] at hL),(List.dropLast_concat_getLast _).symm⟩
   rw [eC,List.mem_flatMap] at hc
   obtain⟨r,hr',h⟩:=hc
   obtain⟨c0,h0,rfl⟩:=List.mem_map.mp h
   rcases List.mem_append.mp hb with z | z
   ·exact ih L0 (by simpa using hL) c0 h0 b z
   ·have e:b=r.2.1:=by simpa using z
    rw [e];exact hr r (List.mem_filter.mp hr').1
 exact fun L=>key L.length L rfl
noncomputable def di (ps O:List Str) (root:Str) (c:List Str):Bool:=ps.all fun x=>decide (wlk O root c O.length x=root)
theorem uB {ps:List Str}{root:Str}{c:List Str} (hc:∀b∈c,In (others ps root) root b) (hl:c.length=(others ps root).length) (nd:(others ps root).Nodup) :
  comes (others ps root).length (gof (others ps root) root c)=di ps (others ps root) root c:=by
 rw [Bool.eq_iff_iff]
 unfold comes di
 rw [List.all_eq_true,List.all_eq_true]
 generalize hO:others ps root=O at hc hl nd
 constructor
 ·intro h x hx
  by_cases e:x=root
  ·rw [e,jS];simp
  ·have hm:x∈O:=by rw [<- hO];exact bG.mpr ⟨hx,e⟩
   have q:=h (ixo O x) (List.mem_range.mpr (b8 hm))
   have e2:enc O root x=some (ixo O x):=by simp [enc,e]
   rw [<- e2,gZ hc hl (.inr hm),j3] at q
   exact q
 ·intro h v hv
  have hv':=List.mem_range.mp hv
  obtain⟨y,hy⟩:∃y,O[v]?=some y:=⟨O[v],List.getElem?_eq_getElem hv'⟩
  have hm:y∈O:=List.mem_of_getElem? hy
  have hm2:y∈others ps root:=by rw [hO];exact hm
  obtain⟨h1,h2⟩:=bG.mp hm2
  have q:=h y h1
  have e2:enc O root y=some v:=by
   simp only [enc,if_neg h2,Option.some.injEq]
   exact eG nd hy
  rw [<- e2,gZ hc hl (.inr hm),j3]
  exact q
theorem gM {ps:List Str}{root:Str}{rs:List Row} (pnd:ps.Nodup) (hin:∀r∈rs,r.2.1∈ps/\r.2.2∈ps) :
  aF ps root rs=(((clp rs (others ps root)).filter (di ps (others ps root) root)).length:Int):=by
 have nd:(others ps root).Nodup:=pnd.filter _
 have hIn:∀x∈ps,In (others ps root) root x:=fun x hx=>by
  by_cases e:x=root
  ·exact .inl e
  ·exact .inr (bG.mpr ⟨hx,e⟩)
 unfold aF
 rw [p4 fun t ht u hu=>by
  obtain⟨r,hr,rfl⟩:=List.mem_map.mp ht
  obtain⟨hr,_⟩:=List.mem_filter.mp hr
  dsimp only at hu
  split at hu
  ·cases hu
  ·rename_i h
   cases hu
   exact b8 (bG.mpr ⟨(hin r hr).1,h⟩)]
 have e:=kU (O:=others ps root) (root:=root) (rs:=rs) nd (fun z=>(bG.mp z).2 rfl) (fun r hr h=>bG.mpr ⟨(hin r hr).2,h⟩) (others ps root).length (Nat.le_refl _)
 rw [List.take_length] at e
 rw [e,List.filter_map,List.length_map]
 congr 2
 refine List.filter_congr fun c hc=>?_
 exact uB (ui (fun r hr=>hIn _ (hin r hr).1) _ c hc) (rO hc) nd
end K83
namespace L2
open PySem PySem.Spec PyProof.Rows PySem.W PySem.Calls
open Builtin
end L2
namespace K83
open PySem L2 PySem.Spec PyProof.Rows PySem.W PySem.Calls
noncomputable abbrev aX (tss:List (Addr×List Str)):List V:=tss.map fun x=>V.ref x.1
noncomputable def cc (H:Hp) (lts:List (Addr×List Str)):Prop:=∀x∈lts,H x.1=some (.tup (x.2.map V.str))
noncomputable def aM:List Str->List Str->Bool
 | x::xs,y::ys=>if x=y then aM xs ys else decide (x.cps.toList < y.cps.toList)
 | [],_::_=>true
 | _,[]=>false
noncomputable def cg (fin:Bool):List Str->List Str->Bool
 | x::xs,y::ys=>if x=y then cg fin xs ys else decide (x.cps.toList < y.cps.toList)
 | _,_=>fin
theorem kQ:∀ss ts:List Str,cg (decide (ss.length < ts.length)) ss ts=aM ss ts
 | [],[]=>rfl
 | [],_::_=>by simp [cg,aM]
 | _::_,[]=>by simp [cg,aM]
 | x::xs,y::ys=>by
  have ih:=kQ xs ys
  simp only [cg,aM,List.length_cons]
  have e:decide (xs.length + 1 < ys.length + 1)=decide (xs.length < ys.length):=by simp
  rw [e,ih]
theorem dF:∀a:List Str,aM a a=false
 | []=>rfl
 | x::xs=>by simp [aM,dF xs]
theorem kA:∀a b:List Str,a≠b->aM a b=true\/aM b a=true
 | [],[],h=>absurd rfl h
 | [],_::_,_=>.inl rfl
 | _::_,[],_=>.inr rfl
 | x::xs,y::ys,h=>by
  by_cases e:x=y
  ·subst e
   have:=kA xs ys (fun z=>h (by rw [z]))
   simpa [aM] using this
  ·have e':y≠x:=fun z=>e z.symm
   simp only [aM,if_neg e,if_neg e']
   exact (gO e).imp decide_eq_true decide_eq_true
theorem gS (b:List Str):aM b []=false:=by cases b <;> rfl
theorem lU:∀a b c:List Str,aM a b=true->aM b c=true->aM a c=true:=by
 intro a
 induction a with
 | nil =>
  intro b c _ h2
  cases c with
  | nil=>rw [gS] at h2;cases h2
  | cons z zs=>rfl
 | cons x xs ih =>
  intro b c h1 h2
  cases b with
  | nil=>rw [gS] at h1;cases h1
  | cons y ys =>
   cases c with
   | nil=>rw [gS] at h2;cases h2
   | cons z zs =>
    by_cases e:x=y
    ·subst e
     by_cases e2:x=z
     ·subst e2
      simp only [aM,if_pos] at h1 h2 ⊢
      exact ih ys zs h1 h2
     ·simp only [aM,if_neg e2] at h2 ⊢
      exact h2
    ·simp only [aM,if_neg e] at h1
     by_cases e2:y=z
     ·subst e2
      simp only [aM,if_neg e]
      exact h1
     ·simp only [aM,if_neg e2] at h2
      have l:=List.lt_trans (of_decide_eq_true h1) (of_decide_eq_true h2)
      have e3:x≠z:=fun q=>by subst q;exact absurd l (List.lt_irrefl _)
      simp only [aM,if_neg e3]
      exact decide_eq_true l
theorem lY {prog:Program}{w:World}{A:Around}{s:Shared}{fin:Bool}{C:Bool->Shared->Prop}:∀{us vs:List Value}{ss ts:List Str} (i:Nat),StrsAre us ss->StrsAre vs ts->C (cg fin ss ts) s->KatLex prog w A true fin C (us.zip vs) i s
 | _,_,_,_,i,.nil,_,h=>by
  rw [List.zip_nil_left]
  simp only [cg] at h
  exact kat_nil h
 | _,_,_,_,i,.cons x t hs,.nil,h=>by
  rw [List.zip_nil_right]
  simp only [cg] at h
  exact kat_nil h
 | _,_,_,_,i,.cons x t hs,.cons y u ht,h=>by
  rw [List.zip_cons_cons]
  refine kat_cons (wpAny_eqBool_str ?_)
  by_cases e:x=y
  ·subst e
   rw [decide_eq_true rfl]
   simp only [cg,if_pos] at h
   exact kat_yes (lY (i + 1) hs ht h)
  ·rw [decide_eq_false e]
   simp only [cg,if_neg e] at h
   refine kat_no ?_
   cases i with
   | zero =>
    show wpAny _ A (oneLt' true _ _) C _ s
    exact strKind_oneLt prog w A _ s _ _ _ _ rfl rfl h
   | succ i =>
    show wpAny _ A (oneLt' false _ _) C _ s
    exact kat_one _ _ (PySem.P.lt_str (show PySem.W.BoolBack C (Value.bool (decide (x.cps.toList < y.cps.toList))) s from h))
theorem j8 {P:Program}{w:World}{H:Hp}{h:Heap} (ok:HOk P w H h) {lts:List (Addr×List Str)} (hL:cc H lts) {us:List Value} (r:ak (aX lts) us) (i:Nat) (hi:i < us.length) :
  ∃a o its n,us.getD i Value.none=.ref a/\h.get? a=some o/\o.cls=.type "tuple"/\o.data=.seq its.toArray n/\StrsAre its ((lts.map (·.2)).getD i [])/\∃x∈lts,x.2=(lts.map (·.2)).getD i []:=by
 have hl:=r.length
 rw [List.length_map] at hl
 have hi':i < lts.length:=by omega
 have e1:(aX lts)[i]?=some (V.ref lts[i].1):=by rw [List.getElem?_map,List.getElem?_eq_getElem hi'];rfl
 obtain⟨u,e2,ru⟩:=r.get e1
 cases ru
 have em:(lts.map (·.2)).getD i []=lts[i].2:=by rw [List.getD_eq_getElem?_getD,List.getElem?_map,List.getElem?_eq_getElem hi'];rfl
 obtain⟨_,its,rv,o,ho,hc,n,hd⟩:=(show aA P w H h lts[i].1 (.tup (lts[i].2.map V.str)) from ok _ _ (hL lts[i] (List.getElem_mem hi')))
 exact⟨lts[i].1,o,its,n,by rw [List.getD_eq_getElem?_getD,e2];rfl,ho,hc,hd,by rw [em];exact gw rv,lts[i],List.getElem_mem hi',em.symm⟩
theorem lF {P:Program}{w:World}{H:Hp}{h:Heap} (ok:HOk P w H h):∀{lts:List (Addr×List Str)}{us:List Value},cc H lts->(∀x∈lts,x.2≠[])->ak (aX lts) us->∃fs ss,KatTups h us fs/\StrsAre fs ss
 | [],_,_,_,.nil=>⟨[],[],.nil,.nil⟩
 | x::t,_,hL,hn,.cons rx rt=>by
  obtain⟨fs,ss,k,q⟩:=lF ok (lts:=t) (fun y hy=>hL y (List.mem_cons_of_mem _ hy)) (fun y hy=>hn y (List.mem_cons_of_mem _ hy)) rt
  cases rx
  obtain⟨_,its,rv,o,ho,hc,n,hd⟩:=(show aA P w H h x.1 (.tup (x.2.map V.str)) from ok _ _ (hL x List.mem_cons_self))
  have hne:=hn x List.mem_cons_self
  cases hx:x.2 with
  | nil=>exact absurd hx hne
  | cons y r =>
   rw [hx] at rv
   cases rv with
   | @cons _ f _ its' rf _ =>
    obtain⟨tk,rfl⟩:=rf
    exact⟨_,_,KatTups.cons ho hc hd (by simp) k,.cons y tk q⟩
theorem ko {h:Heap}:∀{us fs:List Value},KatTups h us fs->us.length=fs.length
 | [],[],_=>rfl
 | _::_,_::_,⟨_,r⟩=>by rw [List.length_cons,List.length_cons,ko r]
 | [],_::_,z=>z.elim
 | _::_,[],z=>z.elim
theorem nO {X:Cx}:bo X (.builtin "sorted") (fun xs H Q=>∃(p:Addr) (lts:List (Addr×List Str)),xs=[.ref p]/\SqL X.K H p (aX lts)/\cc H lts/\lts.length < 64/\(lts.map (·.2)).Nodup/\(2<=lts.length->∀x∈lts,x.2≠[]) /\
  ∀(lts':List (Addr×List Str)) (q:Addr),lts'.Perm lts->(lts'.map (·.2)).Pairwise (fun a b=>aM a b=true)->H q=none->Q (.ref q) (upd H q (.lst (aX lts')))):=by
 intro pins s σ H xs us Q I r h
 obtain⟨p,lts,rfl,hq,hL,h64,hnd,hne,q⟩:=h
 obtain⟨u,rfl,rx⟩:=vals1 r
 cases rx
 obtain⟨its,r',pl,hz⟩:=I.list hq
 obtain⟨o,ho,hc,n,hd⟩:=pl.isList
 have hl:=r'.length
 have hl':its.length=lts.length:=by rw [<- hl];simp
 have O:Ord its.length (fun i j=>aM ((lts.map (·.2)).getD i []) ((lts.map (·.2)).getD j [])):=by
  refine⟨fun i j k h1 h2=>lU _ _ _ h1 h2,fun i=>dF _,fun i j hi hj hij=>kA _ _ ?_⟩
  have hil:i < (lts.map (·.2)).length:=by simpa [<- hl'] using hi
  have hjl:j < (lts.map (·.2)).length:=by simpa [<- hl'] using hj
  rw [List.getD_eq_getElem?_getD,List.getD_eq_getElem?_getD,List.getElem?_eq_getElem hil,List.getElem?_eq_getElem hjl]
  show (lts.map (·.2))[i]≠(lts.map (·.2))[j]
  rcases Nat.lt_or_gt_of_ne hij with y | y
  ·exact List.pairwise_iff_getElem.mp hnd i j hil hjl y
  ·exact fun z=>List.pairwise_iff_getElem.mp hnd j i hjl hil y z.symm
 refine kS (.inl rfl) ho hc hd (by omega) O (fun h2 s' hs'=>?_) fun pm hp ha=>?_
 ·have ok:=I.hok.kept hs'
  obtain⟨fs,ss,t,hS⟩:=lF ok hL (hne (by omega)) r'
  have hfl:0 < fs.length:=by
   have e1:=ko t
   omega
  refine⟨tuples' (Value.type "str" != Value.type "tuple"),fun Q q=>kat_kind (T:=Value.type "str") t hfl (fun v hv=>?_) (by decide) q,fun i j C hi hj hij q=>?_⟩
  ·obtain⟨x,u,rfl⟩:=hS.all v hv
   exact Looks.now
  ·obtain⟨a,o1,i1,n1,a1,a2,a3,a4,a5,_⟩:=j8 ok hL r' i hi
   obtain⟨b,o2,i2,n2,b1,b2,b3,b4,b5,_⟩:=j8 ok hL r' j hj
   unfold kas_ask
   rw [a1,b1]
   refine kat_lt a2 a4 b2 b4 ?_
   show KatLex _ _ _ true (decide (i1.toArray.size < i2.toArray.size)) C (i1.zip i2) 0 s'
   refine lY 0 a5 b5 ?_
   rw [List.size_toArray,List.size_toArray,a5.length,b5.length,kQ]
   exact q
 ·obtain⟨e,he⟩:=sortedAll_at s.heap its (cb its pm).toArray
  have hpm:Pm lts.length pm:=by rw [<- hl'];exact hp
  have hlt:∀i∈pm.toList,i < lts.length:=fun i hi=>by
   have:i∈(List.toArray (List.range lts.length)):=hpm.mem_iff.mp (by simpa using hi)
   simpa using this
  have hv:ak ((pm.toList.map fun i=>(aX lts).getD i .non)) (cb its pm):=gD r' fun i hi=>by simpa using hlt i hi
  have he2:(pm.toList.map fun i=>(aX lts).getD i .non)=aX (pm.toList.map fun i=>lts.getD i (0,[])):=by
   unfold aX
   rw [List.map_map]
   exact List.map_congr_left fun i hi=>by simp [hlt i hi]
  rw [he2] at hv
  have hfr:H (s.heap.objs.size + 1)=none:=I.hok.fresh (Nat.le_succ _)
  have hpe:=jy (0,([]:List Str)) lts hpm
  refine⟨.ref (s.heap.objs.size + 1),_,I.laid (t':=s.toks) (o:=.lst (aX (pm.toList.map fun i=>lts.getD i (0,[])))) (fun b o z=>sortedAll_old z) (Nat.le_succ _) ⟨?_,cb its pm,e,hv,?_⟩,rfl,q _ _ hpe ?_ hfr⟩
  ·rw [List.length_map,hpe.length_eq,sizeLine_eq];omega
  ·simpa [seqObj] using he
  ·rw [List.map_map,List.pairwise_map]
   refine List.pairwise_iff_getElem.mpr fun i j hi hj hij=>?_
   have hps:=hp.size
   have hi':i < pm.size:=by simpa using hi
   have hj':j < pm.size:=by simpa using hj
   have z:=ha i j hij (by omega)
   rw [de hi',de hj'] at z
   have b1:=hlt pm.toList[i] (List.getElem_mem _)
   have b2:=hlt pm.toList[j] (List.getElem_mem _)
   simp only [Array.getElem_toList] at b1 b2 ⊢
   simpa [b1,b2] using z
end K83
namespace DT
noncomputable def ins (c:Nat) (S:List Nat):List Nat:=S.filter (fun x=>decide (x < c))++c::S.filter (fun x=>decide (c < x))
theorem qe {l m:List Int} (h:l.Perm m):l.sum=m.sum:=by
 induction h with
 | nil=>rfl
 | cons x _ ih=>simp [ih]
 | swap x y l=>simp;omega
 | trans _ _ h1 h2=>exact h1.trans h2
end DT
namespace K83
open PySem L2 DT
noncomputable def fR (O:List Str) (root:Str) (q:Row):Ti:=(if q.2.1=root then none else some (ixo O q.2.1),ixo O q.2.2)
theorem oB {O:List Str}{root:Str}{rs:List Row} (nd:O.Nodup) (hO:root∉O) (hr:∀r∈rs,r.2.2≠root->r.2.2∈O) {j:Nat}{x:Str} (hx:O[j]?=some x) :
  (tis O root rs).filter (fun t=>t.2 == j)=(rs.filter fun r=>decide (r.2.2=x)).map (fR O root):=by
 have hxO:x∈O:=List.mem_of_getElem? hx
 unfold tis
 rw [List.filter_map,List.filter_filter]
 unfold fR
 congr 1
 refine List.filter_congr fun r hr'=>?_
 by_cases c:r.2.2=root
 ·have:r.2.2≠x:=fun z=>hO (by rw [<- c,z];exact hxO)
  simp [c]
  exact fun z=>this (c.trans z)
 ·have hm:=hr r hr' c
  simp [c]
  rw [Bool.eq_iff_iff]
  simp
  constructor
  ·intro z
   have h1:=dI hm
   rw [z,hx] at h1
   exact (Option.some.inj h1).symm
  ·intro z
   rw [z];exact eG nd hx
noncomputable def only (R:List Row) (w:Row):List Row:=R.filter fun r=>decide (r=w) || !decide (r.2.2=w.2.2)
noncomputable def wo (R:List Row) (w:Row):List Row:=R.filter fun r=>!decide (r=w)
noncomputable def Ins (ps:List Str) (R:List Row):Prop:=∀r∈R,r.2.1∈ps/\r.2.2∈ps
theorem Ins.sub {ps:List Str}{R R':List Row} (h:Ins ps R) (s:∀r∈R',r∈R):Ins ps R':=fun r hr=>h r (s r hr)
theorem fA {R:List Row}{w:Row}:∀r∈only R w,r∈R:=fun r hr=>(List.mem_filter.mp hr).1
theorem fW {R:List Row}{w:Row}:∀r∈wo R w,r∈R:=fun r hr=>(List.mem_filter.mp hr).1
theorem eD {R:List Row}{w r:Row}:r∈only R w ↔ r∈R/\(r=w\/r.2.2≠w.2.2):=by
 unfold only
 rw [List.mem_filter]
 simp
theorem iu {R:List Row}{w r:Row}:r∈wo R w ↔ r∈R/\r≠w:=by
 unfold wo
 rw [List.mem_filter]
 simp
section
variable {ps:List Str}{root:Str}
theorem cG (pnd:ps.Nodup) {R:List Row} (h:Ins ps R) {j:Nat}{x:Str} (hx:(others ps root)[j]?=some x) (r:Nat) :
  tab (tis (others ps root) root R) r j=((R.filter fun q=>decide (q.2.2=x)).map fun q=>one (fR (others ps root) root q) r).sum:=by
 unfold tab
 rw [oB (O:=others ps root) (pnd.filter _) (fun z=>(bG.mp z).2 rfl) (fun q hq hn=>bG.mpr ⟨(h q hq).2,hn⟩) hx,List.map_map]
 rfl
theorem kR {α:Type} [DecidableEq α] (f:α->Int) (w:α):∀l:List α,l.Nodup->w∈l->(l.map f).sum=f w + ((l.filter fun x=>!decide (x=w)).map f).sum
 | [],_,h=>by simp at h
 | x::l,nd,h=>by
  obtain⟨h1,h2⟩:=List.nodup_cons.mp nd
  by_cases e:x=w
  ·subst e
   have:l.filter (fun y=>!decide (y=x))=l:=List.filter_eq_self.mpr fun y hy=>by simp;exact fun z=>h1 (z ▸ hy)
   rw [List.map_cons,List.sum_cons,List.filter_cons,if_neg (by simp),this]
  ·rw [List.map_cons,List.sum_cons,List.filter_cons,if_pos (by simp [e]),List.map_cons,List.sum_cons,kR f w l h2 (by simpa [Ne.symm e] using h)]
   omega
theorem sum_in {α:Type} [DecidableEq α] (f:α->Int) (w:α):∀l:List α,l.Nodup->w∈l->((l.filter fun x=>decide (x=w)).map f).sum=f w
 | [],_,h=>by simp at h
 | x::l,nd,h=>by
  obtain⟨h1,h2⟩:=List.nodup_cons.mp nd
  by_cases e:x=w
  ·subst e
   have:l.filter (fun y=>decide (y=x))=[]:=List.filter_eq_nil_iff.mpr fun y hy=>by simp;exact fun z=>h1 (z ▸ hy)
   rw [List.filter_cons,if_pos (by simp),this]
   simp
  ·rw [List.filter_cons,if_neg (by simp [e])]
   exact sum_in f w l h2 (by simpa [Ne.symm e] using h)
theorem ku (pnd:ps.Nodup) {R:List Row}{w:Row} (h:Ins ps R) (nd:R.Nodup) (hw:w∈R) (hr:w.2.2≠root):aF ps root R=aF ps root (only R w) + aF ps root (wo R w):=by
 have hm:w.2.2∈others ps root:=bG.mpr ⟨(h w hw).2,hr⟩
 have hk:=dI hm
 have ond:(others ps root).Nodup:=pnd.filter _
 unfold aF
 have other:∀(c:Nat) (R':List Row),(∀r∈R',r∈R)->(∀x,x≠w.2.2->(R'.filter fun q=>decide (q.2.2=x))=R.filter fun q=>decide (q.2.2=x))->∀r,c < (others ps root).length->c≠ixo (others ps root) w.2.2 ->
   tab (tis (others ps root) root R') r c=tab (tis (others ps root) root R) r c:=fun c R' hs hf r hc hne=>by
  have hx:(others ps root)[c]?=some (others ps root)[c]:=List.getElem?_eq_getElem hc
  rw [cG pnd (h.sub hs) hx,cG pnd h hx,hf _ fun z=>hne (by rw [<- z];exact (eG ond hx).symm)]
 refine lR (k:=ixo (others ps root) w.2.2) (b8 hm) (fun r c _ hc hne=>other c _ fA (fun x hx=>?_) r hc hne) (fun r c _ hc hne=>other c _ fW (fun x hx=>?_) r hc hne) fun r _=>?_
 ·unfold only
  rw [List.filter_filter]
  refine List.filter_congr fun q _=>?_
  by_cases z:q.2.2=x
  ·have:¬ q.2.2=w.2.2:=fun y=>hx (z ▸ y)
   simp [z,this]
   exact .inr fun y=>hx y
  ·simp [z]
 ·unfold wo
  rw [List.filter_filter]
  refine List.filter_congr fun q _=>?_
  by_cases z:q.2.2=x
  ·have:¬ q=w:=fun y=>hx (by rw [<- z,y])
   simp [z,this]
  ·simp [z]
 ·rw [cG pnd h hk,cG pnd (h.sub fA) hk,cG pnd (h.sub fW) hk]
  have e1:((only R w).filter fun q=>decide (q.2.2=w.2.2))=(R.filter fun q=>decide (q.2.2=w.2.2)).filter fun q=>decide (q=w):=by
   unfold only
   rw [List.filter_filter,List.filter_filter]
   refine List.filter_congr fun q _=>?_
   by_cases z:q=w
   ·simp [z]
   ·by_cases y:q.2.2=w.2.2 <;> simp [z,y]
  have e2:((wo R w).filter fun q=>decide (q.2.2=w.2.2))=(R.filter fun q=>decide (q.2.2=w.2.2)).filter fun q=>!decide (q=w):=by
   unfold wo
   rw [List.filter_filter,List.filter_filter]
   exact List.filter_congr fun q _=>Bool.and_comm _ _
  have hmw:w∈R.filter fun q=>decide (q.2.2=w.2.2):=List.mem_filter.mpr ⟨hw,by simp⟩
  rw [e1,e2,sum_in _ w _ (nd.filter _) hmw]
  exact kR _ w _ (nd.filter _) hmw
theorem kz {R:List Row}{w:Row} (hr:w.2.2=root):aF ps root (wo R w)=aF ps root R:=by
 unfold aF
 have:tis (others ps root) root (wo R w)=tis (others ps root) root R:=by
  unfold tis wo
  rw [List.filter_filter]
  congr 1
  refine List.filter_congr fun q _=>?_
  by_cases z:q.2.2=root
  ·simp [z]
  ·have:¬ q=w:=fun y=>z (by rw [y];exact hr)
   simp [z,this]
 rw [this]
theorem qY (pnd:ps.Nodup) {R R':List Row} (h:Ins ps R) (p:R.Perm R'):aF ps root R=aF ps root R':=by
 unfold aF
 refine aZ fun r c _ hc=>?_
 have hx:(others ps root)[c]?=some (others ps root)[c]:=List.getElem?_eq_getElem hc
 rw [cG pnd h hx,cG pnd (h.sub fun q hq=>p.mem_iff.mpr hq) hx]
 exact qe ((p.filter _).map _)
theorem sj (pnd:ps.Nodup) {R:List Row} (h:Ins ps R) {x:Str} (hx:x∈others ps root) (hn:∀r∈R,r.2.2≠x):aF ps root R=0:=by
 unfold aF
 refine iE (b:=ixo (others ps root) x) (b8 hx) fun r _=>?_
 rw [cG pnd h (dI hx),List.filter_eq_nil_iff.mpr fun q hq=>by simpa using hn q hq]
 rfl
theorem mH (pnd:ps.Nodup) {R:List Row} (h:Ins ps R):0<=aF ps root R:=by
 rw [gM pnd h];omega
theorem rK {R:List Row} (h:∀x,(R.filter fun r=>decide (r.2.2=x)).length<=1):∀(m:Nat) (O:List Str),O.length=m->(clp R O).length<=1:=fun m=>by
 induction m with
 | zero =>
  intro O hO
  have:O=[]:=List.length_eq_zero_iff.mp hO
  subst this
  exact Nat.le_refl _
 | succ m ih =>
  intro L hL
  obtain⟨L0,x,rfl⟩:∃L0 x,L=L0++[x]:=⟨L.dropLast,L.getLast (by intro z;simp [z] at hL),(List.dropLast_concat_getLast _).symm⟩
  rw [eC,fw _ _ (clp R L0).length (fun x _=>by simp)]
  have h1:=ih L0 (by simpa using hL)
  have h2:=h x
  exact Nat.le_trans (Nat.mul_le_mul h2 h1) (Nat.le_refl _)
theorem lV (pnd:ps.Nodup) {R:List Row} (h:Ins ps R) (nd:R.Nodup) (hu:∀r∈R,∀q∈R,r.2.2=q.2.2->r=q):aF ps root R=0\/aF ps root R=1:=by
 have h1:(clp R (others ps root)).length<=1:=rK (fun x=>by
  match e:R.filter fun r=>decide (r.2.2=x) with
  | []=>rw [e];simp
  | [a]=>rw [e];simp
  | a::b::l =>
   exfalso
   have ha:a∈R.filter fun r=>decide (r.2.2=x):=by rw [e];simp
   have hb:b∈R.filter fun r=>decide (r.2.2=x):=by rw [e];simp
   obtain⟨a1,a2⟩:=List.mem_filter.mp ha
   obtain⟨b1,b2⟩:=List.mem_filter.mp hb
   have ab:=hu a a1 b b1 ((of_decide_eq_true a2).trans (of_decide_eq_true b2).symm)
   have:=nd.filter fun r:Row=>decide (r.2.2=x)
   rw [e] at this
   simp [ab] at this) _ _ rfl
 have h2:=mH pnd h (root:=root)
 rw [gM pnd h] at h2 ⊢
 have h3:=List.length_filter_le (di ps (others ps root) root) (clp R (others ps root))
 omega
noncomputable def TL (ps:List Str) (root:Str):List Row->List Row->List Row->List (List Row)
 | [],R,C=>if aF ps root R=0 then [] else [C]
 | w::ws,R,C=>if w∈R then (if w.2.2=root then TL ps root ws (wo R w) C else TL ps root ws (only R w) (C++[w])++TL ps root ws (wo R w) C) else TL ps root ws R C
structure Iv (ps:List Str) (root:Str) (ws R C:List Row):Prop where
 wn:ws.Nodup
 nd:R.Nodup
 ins:Ins ps R
 cov:∀r∈R,r∈C\/r∈ws
 ch:∀c∈C,c∈R/\c.2.2≠root/\(∀r∈R,r.2.2=c.2.2->r=c)/\c∉ws
 cn:C.Nodup
theorem Iv.take {w:Row}{ws R C:List Row} (I:Iv ps root (w::ws) R C) (hw:w∈R) (hr:w.2.2≠root):Iv ps root ws (only R w) (C++[w]):=by
 obtain⟨w1,w2⟩:=List.nodup_cons.mp I.wn
 have hwC:w∉C:=fun z=>(I.ch w z).2.2.2 List.mem_cons_self
 refine⟨w2,I.nd.filter _,I.ins.sub fA,fun r hr'=>?_,fun c hc=>?_,?_⟩
 ·obtain⟨h1,h2⟩:=eD.mp hr'
  rcases I.cov r h1 with z | z
  ·exact .inl (List.mem_append_left _ z)
  ·rcases List.mem_cons.mp z with y | y
   ·exact .inl (by rw [y];simp)
   ·exact .inr y
 ·rcases List.mem_append.mp hc with z | z
  ·obtain⟨a,b,d,e⟩:=I.ch c z
   refine⟨eD.mpr ⟨a,.inr fun y=>?_⟩,b,fun r hr'=>d r (fA r hr'),fun y=>e (List.mem_cons_of_mem _ y)⟩
   exact hwC (d w hw y.symm ▸ z)
  ·have e:c=w:=by simpa using z
   subst e
   refine⟨eD.mpr ⟨hw,.inl rfl⟩,hr,fun r hr' he=>?_,w1⟩
   rcases (eD.mp hr').2 with y | y
   ·exact y
   ·exact absurd he y
 ·rw [List.nodup_append]
  exact⟨I.cn,by simp,fun a ha b hb z=>hwC (by rw [show w=b by simpa using (by simpa using hb:b=w).symm,<- z];exact ha)⟩
theorem Iv.drop {w:Row}{ws R C:List Row} (I:Iv ps root (w::ws) R C):Iv ps root ws (wo R w) C:=by
 obtain⟨w1,w2⟩:=List.nodup_cons.mp I.wn
 refine⟨w2,I.nd.filter _,I.ins.sub fW,fun r hr'=>?_,fun c hc=>?_,I.cn⟩
 ·obtain⟨h1,h2⟩:=iu.mp hr'
  rcases I.cov r h1 with z | z
  ·exact .inl z
  ·rcases List.mem_cons.mp z with y | y
   ·exact absurd y h2
   ·exact .inr y
 ·obtain⟨a,b,d,e⟩:=I.ch c hc
  exact⟨iu.mpr ⟨a,fun y=>e (by rw [y];simp)⟩,b,fun r hr'=>d r (fW r hr'),fun y=>e (List.mem_cons_of_mem _ y)⟩
theorem Iv.skip {w:Row}{ws R C:List Row} (I:Iv ps root (w::ws) R C) (hw:w∉R):Iv ps root ws R C:=by
 obtain⟨w1,w2⟩:=List.nodup_cons.mp I.wn
 refine⟨w2,I.nd,I.ins,fun r hr'=>?_,fun c hc=>?_,I.cn⟩
 ·rcases I.cov r hr' with z | z
  ·exact .inl z
  ·rcases List.mem_cons.mp z with y | y
   ·exact absurd (y ▸ hr') hw
   ·exact .inr y
 ·obtain⟨a,b,d,e⟩:=I.ch c hc
  exact⟨a,b,d,fun y=>e (List.mem_cons_of_mem _ y)⟩
theorem Iv.end {R C:List Row} (I:Iv ps root [] R C):∀r,r∈R ↔ r∈C:=fun r=>⟨fun h=>(I.cov r h).elim id (by simp),fun h=>(I.ch r h).1⟩
theorem cJ (pnd:ps.Nodup):∀(ws R C:List Row),Iv ps root ws R C->((TL ps root ws R C).length:Int)=aF ps root R
 | [],R,C,I=>by
  have h01:=lV pnd I.ins I.nd (root:=root) fun r hr q hq e=>((I.ch q ((I.end q).mp hq)).2.2.1 r hr e)
  unfold TL
  rcases h01 with h | h
  ·rw [if_pos h,h];rfl
  ·rw [if_neg (by omega),h];rfl
 | w::ws,R,C,I=>by
  unfold TL
  by_cases hw:w∈R
  ·rw [if_pos hw]
   by_cases hr:w.2.2=root
   ·rw [if_pos hr,cJ pnd ws _ C I.drop,kz hr]
   ·rw [if_neg hr,List.length_append,ku pnd I.ins I.nd hw hr,<- cJ pnd ws _ _ (I.take hw hr),<- cJ pnd ws _ _ I.drop]
    omega
  ·rw [if_neg hw,cJ pnd ws R C (I.skip hw)]
noncomputable def bN (ps:List Str) (root:Str) (R:List Row) (w:Row):Int:=if w.2.2=root then 0 else aF ps root (only R w)
noncomputable def tn (ps:List Str) (root:Str):List Row->List Row->Int->List Row->List Row
 | [],_,_,C=>C
 | w::ws,R,b,C=>if w∈R then (if b < bN ps root R w then tn ps root ws (only R w) b (C++[w]) else tn ps root ws (wo R w) (b - bN ps root R w) C) else tn ps root ws R b C
theorem eV (pnd:ps.Nodup):∀(ws R C:List Row) (b:Int),Iv ps root ws R C->0<=b->b < aF ps root R->(TL ps root ws R C)[b.toNat]?=some (tn ps root ws R b C)
 | [],R,C,b,I,h0,h1=>by
  have h01:=lV pnd I.ins I.nd (root:=root) fun r hr q hq e=>((I.ch q ((I.end q).mp hq)).2.2.1 r hr e)
  have e:aF ps root R=1:=by omega
  unfold TL tn
  rw [if_neg (by omega),show b.toNat=0 by omega]
  rfl
 | w::ws,R,C,b,I,h0,h1=>by
  unfold TL tn
  by_cases hw:w∈R
  ·rw [if_pos hw,if_pos hw]
   by_cases hr:w.2.2=root
   ·have e:bN ps root R w=0:=by simp [bN,hr]
    rw [if_pos hr,e,if_neg (by omega),Int.sub_zero]
    exact eV pnd ws _ C b I.drop h0 (by rw [kz hr];exact h1)
   ·have e:bN ps root R w=aF ps root (only R w):=by simp [bN,hr]
    have l1:=cJ pnd ws _ _ (I.take hw hr)
    rw [if_neg hr,e]
    rw [ku pnd I.ins I.nd hw hr] at h1
    by_cases hb:b < aF ps root (only R w)
    ·rw [if_pos hb,List.getElem?_append_left (by omega)]
     exact eV pnd ws _ _ b (I.take hw hr) h0 hb
    ·rw [if_neg hb,List.getElem?_append_right (by omega)]
     have:=eV pnd ws _ C (b - aF ps root (only R w)) I.drop (by omega) (by omega)
     rw [<- this]
     congr 1
     omega
  ·rw [if_neg hw,if_neg hw]
   exact eV pnd ws R C b (I.skip hw) h0 h1
end
theorem fE {x:Str}:¬ nlt x x:=List.lt_irrefl _
theorem pF {x y:Str} (h:nlt x y) (h':nlt y x):False:=fE (List.lt_trans h h')
theorem gC:∀{l m:List Str},l.Pairwise nlt->m.Pairwise nlt->(∀x,x∈l ↔ x∈m)->l=m
 | [],[],_,_,_=>rfl
 | [],y::m,_,_,h=>by have:=(h y).mpr List.mem_cons_self;cases this
 | x::l,[],_,_,h=>by have:=(h x).mp List.mem_cons_self;cases this
 | x::l,y::m,hl,hm,h=>by
  obtain⟨l1,l2⟩:=List.pairwise_cons.mp hl
  obtain⟨m1,m2⟩:=List.pairwise_cons.mp hm
  have e:x=y:=by
   rcases List.mem_cons.mp ((h x).mp List.mem_cons_self) with e | hx
   ·exact e
   ·rcases List.mem_cons.mp ((h y).mpr List.mem_cons_self) with e | hy
    ·exact e.symm
    ·exact (pF (m1 x hx) (l1 y hy)).elim
  subst e
  rw [gC l2 m2 fun z=>by
   have q:=h z
   rw [List.mem_cons,List.mem_cons] at q
   constructor
   ·intro hz
    rcases q.mp (.inr hz) with e | y
    ·subst e;exact (fE (l1 z hz)).elim
    ·exact y
   ·intro hz
    rcases q.mpr (.inr hz) with e | y
    ·subst e;exact (fE (m1 z hz)).elim
    ·exact y]
section
variable {ps:List Str}{root:Str}
theorem fY (pnd:ps.Nodup) {X:List Row} (xn:X.Nodup) (xr:∀x∈X,x.2.2≠root) (xu:∀x∈X,∀y∈X,x.2.2=y.2.2->x=y) (hX:aF ps root X≠0) :
  ∀(ws R C:List Row),Iv ps root ws R C->(∀r∈ws,r∈X->r∈R)->(∀c∈C,c∈X)->(∀x∈X,x∈C\/x∈ws)->C++ws.filter (fun r=>decide (r∈X))∈TL ps root ws R C
 | [],R,C,I,h1,h2,h3=>by
  have hp:R.Perm X:=(List.perm_ext_iff_of_nodup I.nd xn).mpr fun r=>by
   rw [I.end r]
   exact⟨h2 r,fun z=>(h3 r z).elim id (by simp)⟩
  unfold TL
  rw [if_neg (by rw [qY pnd I.ins hp];exact hX)]
  simp
 | w::ws,R,C,I,h1,h2,h3=>by
  obtain⟨w1,w2⟩:=List.nodup_cons.mp I.wn
  unfold TL
  by_cases hwX:w∈X
  ·have hw:w∈R:=h1 w List.mem_cons_self hwX
   rw [if_pos hw,if_neg (xr w hwX),List.filter_cons,if_pos (by simpa using hwX)]
   refine List.mem_append_left _ ?_
   have:=fY pnd xn xr xu hX ws (only R w) (C++[w]) (I.take hw (xr w hwX)) (fun r hr hx=>eD.mpr ⟨h1 r (List.mem_cons_of_mem _ hr) hx,?_⟩) (fun c hc=>?_) (fun x hx=>?_)
   ·simpa using this
   ·by_cases e:r=w
    ·exact .inl e
    ·exact .inr fun z=>e (xu r hx w hwX z)
   ·rcases List.mem_append.mp hc with z | z
    ·exact h2 c z
    ·rw [show c=w by simpa using z];exact hwX
   ·rcases h3 x hx with z | z
    ·exact .inl (List.mem_append_left _ z)
    ·rcases List.mem_cons.mp z with y | y
     ·exact .inl (by rw [y];simp)
     ·exact .inr y
  ·have h3':∀x∈X,x∈C\/x∈ws:=fun x hx=>by
    rcases h3 x hx with z | z
    ·exact .inl z
    ·rcases List.mem_cons.mp z with y | y
     ·exact absurd (y ▸ hx) hwX
     ·exact .inr y
   rw [show (w::ws).filter (fun r=>decide (r∈X))=ws.filter (fun r=>decide (r∈X)) by rw [List.filter_cons,if_neg (by simpa using hwX)]]
   by_cases hw:w∈R
   ·have q:=fY pnd xn xr xu hX ws (wo R w) C I.drop (fun r hr hx=>iu.mpr ⟨h1 r (List.mem_cons_of_mem _ hr) hx,fun z=>hwX (z ▸ hx)⟩) h2 h3'
    rw [if_pos hw]
    split
    ·exact q
    ·exact List.mem_append_right _ q
   ·rw [if_neg hw]
    exact fY pnd xn xr xu hX ws R C (I.skip hw) (fun r hr hx=>h1 r (List.mem_cons_of_mem _ hr) hx) h2 h3'
theorem c8:∀(ws R C X:List Row),X∈TL ps root ws R C->∃Z,X=C++Z/\Z.Sublist ws
 | [],R,C,X,h=>by
  unfold TL at h
  split at h
  ·simp at h
  ·exact⟨[],by simpa using h,List.Sublist.refl _⟩
 | w::ws,R,C,X,h=>by
  unfold TL at h
  split at h
  ·split at h
   ·obtain⟨Z,e,s⟩:=c8 ws _ C X h
    exact⟨Z,e,s.cons _⟩
   ·rcases List.mem_append.mp h with h | h
    ·obtain⟨Z,e,s⟩:=c8 ws _ _ X h
     exact⟨w::Z,by rw [e];simp,s.cons_cons _⟩
    ·obtain⟨Z,e,s⟩:=c8 ws _ C X h
     exact⟨Z,e,s.cons _⟩
  ·obtain⟨Z,e,s⟩:=c8 ws _ C X h
   exact⟨Z,e,s.cons _⟩
theorem dS (pnd:ps.Nodup):∀(ws R C X:List Row),Iv ps root ws R C->X∈TL ps root ws R C->X.length=(others ps root).length
 | [],R,C,X,I,h=>by
  unfold TL at h
  split at h
  ·simp at h
  ·rename_i hc
   have e:X=C:=by simpa using h
   subst e
   have hp:(X.map (·.2.2)).Perm (others ps root):=(List.perm_ext_iff_of_nodup (by
    rw [List.nodup_iff_pairwise_ne,List.pairwise_map]
    exact List.Pairwise.imp_of_mem (fun {a b} ha hb hab z=>hab ((I.ch b hb).2.2.1 a (I.ch a ha).1 z)) I.cn) (pnd.filter _)).mpr fun x=>by
    constructor
    ·intro hx
     obtain⟨r,hr,rfl⟩:=List.mem_map.mp hx
     exact bG.mpr ⟨(I.ins r (I.ch r hr).1).2,(I.ch r hr).2.1⟩
    ·intro hx
     apply Classical.byContradiction
     intro hn
     exact hc (sj pnd I.ins hx fun r hr z=>hn (List.mem_map.mpr ⟨r,(I.end r).mp hr,z⟩))
   have:=hp.length_eq
   rwa [List.length_map] at this
 | w::ws,R,C,X,I,h=>by
  unfold TL at h
  split at h
  ·rename_i hw
   split at h
   ·exact dS pnd ws _ C X I.drop h
   ·rename_i hr
    rcases List.mem_append.mp h with h | h
    ·exact dS pnd ws _ _ X (I.take hw hr) h
    ·exact dS pnd ws _ C X I.drop h
  ·rename_i hw
   exact dS pnd ws _ C X (I.skip hw) h
noncomputable abbrev aw (X:List Row):List Str:=X.map (·.1)
theorem k7:∀(p a b:List Str),aM (p++a) (p++b)=aM a b
 | [],a,b=>rfl
 | x::p,a,b=>by simp [aM,k7 p a b]
theorem qi {x y:Str}{a b:List Str} (h:nlt x y):aM (x::a) (y::b)=true:=by
 have e:x≠y:=fun z=>fE (z ▸ h)
 simp only [aM,if_neg e]
 exact decide_eq_true h
theorem ez (pnd:ps.Nodup):∀(ws R C:List Row),(aw ws).Pairwise nlt->Iv ps root ws R C->((TL ps root ws R C).map aw).Pairwise (fun a b=>aM a b=true)
 | [],R,C,_,I=>by
  unfold TL
  split <;> simp
 | w::ws,R,C,hs,I=>by
  unfold aw at hs
  rw [List.map_cons] at hs
  obtain⟨s1,s2⟩:=List.pairwise_cons.mp hs
  unfold TL
  by_cases hw:w∈R
  ·rw [if_pos hw]
   by_cases hr:w.2.2=root
   ·rw [if_pos hr];exact ez pnd ws _ C s2 I.drop
   ·rw [if_neg hr,List.map_append,List.pairwise_append]
    refine⟨ez pnd ws _ _ s2 (I.take hw hr),ez pnd ws _ C s2 I.drop,fun a ha b hb=>?_⟩
    obtain⟨X,hX,rfl⟩:=List.mem_map.mp ha
    obtain⟨Y,hY,rfl⟩:=List.mem_map.mp hb
    have l1:=dS pnd ws _ _ X (I.take hw hr) hX
    have l2:=dS pnd ws _ _ Y I.drop hY
    obtain⟨Z,rfl,_⟩:=c8 ws _ _ X hX
    obtain⟨Z',rfl,s'⟩:=c8 ws _ _ Y hY
    cases Z' with
    | nil=>simp at l1 l2;omega
    | cons y Z' =>
     have hy:y∈ws:=s'.subset List.mem_cons_self
     unfold aw
     rw [List.append_assoc,List.map_append (l₁:=C),List.map_append (l₁:=C),k7]
     exact qi (s1 y.1 (List.mem_map.mpr ⟨y,hy,rfl⟩))
  ·rw [if_neg hw];exact ez pnd ws R C s2 (I.skip hw)
noncomputable def chl (rs:List Row) (O:List Str):List (List Row):=O.foldl (fun acc x=>(rs.filter fun r=>decide (r.2.2=x)).flatMap fun r=>acc.map fun c=>c++[r]) [[]]
theorem dw (rs:List Row) (O:List Str) (x:Str):chl rs (O++[x])=(rs.filter fun r=>decide (r.2.2=x)).flatMap fun r=>(chl rs O).map fun c=>c++[r]:=by
 unfold chl
 rw [List.foldl_append]
 rfl
theorem snoc_ind {P:List Str->Prop} (h0:P []) (hs:∀O x,P O->P (O++[x])):∀O,P O:=by
 have key:∀(m:Nat) (O:List Str),O.length=m->P O:=fun m=>by
  induction m with
  | zero=>intro O h;rw [List.length_eq_zero_iff.mp h];exact h0
  | succ m ih =>
   intro L hL
   obtain⟨L0,x,rfl⟩:∃L0 x,L=L0++[x]:=⟨L.dropLast,L.getLast (by intro z;simp [z] at hL),(List.dropLast_concat_getLast _).symm⟩
   exact hs L0 x (ih L0 (by simpa using hL))
 exact fun O=>key O.length O rfl
theorem sH (rs:List Row):∀O,(chl rs O).map (fun c=>c.map (·.2.1))=clp rs O:=by
 refine snoc_ind rfl fun O x ih=>?_
 rw [dw,eC,<- ih,List.map_flatMap]
 congr 1
 funext r
 rw [List.map_map,List.map_map]
 refine List.map_congr_left fun c _=>?_
 simp
theorem cH (rs:List Row):∀O,∀c∈chl rs O,(∀r∈c,r∈rs)/\c.map (·.2.2)=O:=by
 refine snoc_ind (fun c hc=>?_) fun O x ih c hc=>?_
 ·have:c=[]:=by simpa [chl] using hc
  simp [this]
 ·rw [dw,List.mem_flatMap] at hc
  obtain⟨r,hr,h⟩:=hc
  obtain⟨c0,h0,rfl⟩:=List.mem_map.mp h
  obtain⟨h1,h2⟩:=List.mem_filter.mp hr
  obtain⟨i1,i2⟩:=ih c0 h0
  refine⟨fun q hq=>?_,?_⟩
  ·rcases List.mem_append.mp hq with z | z
   ·exact i1 q z
   ·rw [show q=r by simpa using z];exact h1
  ·rw [List.map_append,i2,List.map_singleton,show r.2.2=x by simpa using h2]
theorem tH {rs:List Row}:∀(O:List Str) (c:List Row),(∀r∈c,r∈rs)->c.map (·.2.2)=O->c∈chl rs O:=by
 refine snoc_ind (fun c _ h=>?_) fun O x ih c hs h=>?_
 ·have:c=[]:=by simpa using h
  simp [this,chl]
 ·obtain⟨c0,r,rfl⟩:∃c0 r,c=c0++[r]:=by
   have hl:c.length=O.length + 1:=by have:=congrArg List.length h;simpa using this
   exact⟨c.dropLast,c.getLast (by intro z;simp [z] at hl),(List.dropLast_concat_getLast _).symm⟩
  rw [List.map_append,List.map_singleton] at h
  obtain⟨h1,h2⟩:=List.append_inj' h rfl
  rw [dw,List.mem_flatMap]
  exact⟨r,List.mem_filter.mpr ⟨hs r (by simp),by simpa using h2⟩,List.mem_map.mpr ⟨c0,ih c0 (fun q hq=>hs q (by simp [hq])) h1,rfl⟩⟩
theorem tK {rs:List Row} (nd:rs.Nodup):∀O,(chl rs O).Nodup:=by
 refine snoc_ind (by simp [chl]) fun O x ih=>?_
 rw [dw,List.nodup_iff_pairwise_ne,List.pairwise_flatMap]
 refine⟨fun r _=>?_,(nd.filter _).imp fun {a b} hab y hy z hz e=>?_⟩
 ·rw [List.pairwise_map]
  exact ih.imp fun h e=>h (List.append_cancel_right e)
 ·obtain⟨c,_,rfl⟩:=List.mem_map.mp hy
  obtain⟨d,_,rfl⟩:=List.mem_map.mp hz
  have:=(List.append_inj' e rfl).2
  exact hab (by simpa using this)
noncomputable def trC (ps:List Str) (root:Str) (c:List Row):Bool:=di ps (others ps root) root (c.map (·.2.1))
theorem gW (pnd:ps.Nodup) {rs:List Row} (h:Ins ps rs):aF ps root rs=(((chl rs (others ps root)).filter (trC ps root)).length:Int):=by
 rw [gM pnd h,<- sH,List.filter_map,List.length_map]
 rfl
theorem rE (pnd:ps.Nodup) {rs:List Row} (h:Ins ps rs) {c:List Row} (hc:c∈chl rs (others ps root)) (ht:trC ps root c=true):aF ps root c≠0:=by
 obtain⟨h1,h2⟩:=cH rs _ c hc
 rw [gW pnd (h.sub h1)]
 have:c∈(chl c (others ps root)).filter (trC ps root):=List.mem_filter.mpr ⟨tH _ c (fun r hr=>hr) h2,ht⟩
 have:=List.length_pos_of_mem this
 omega
theorem Iv.all {rs:List Row} (nd:rs.Nodup) (h:Ins ps rs):Iv ps root rs rs []:=⟨nd,nd,h,fun r hr=>.inr hr,by simp,by simp⟩
theorem fI {rs:List Row} (h:(aw rs).Pairwise nlt):rs.Nodup:=by
 have:=cF h
 unfold aw at this
 rw [List.nodup_iff_pairwise_ne,List.pairwise_map] at this
 exact this.imp fun h z=>h (by rw [z])
theorem j6 {rs:List Row} (h:(aw rs).Pairwise nlt) {a b:Row} (ha:a∈rs) (hb:b∈rs) (e:a.1=b.1):a=b:=by
 obtain⟨i,hi,rfl⟩:=List.mem_iff_getElem.mp ha
 obtain⟨j,hj,rfl⟩:=List.mem_iff_getElem.mp hb
 have h1:(aw rs)[i]'(by simpa using hi)=(aw rs)[j]'(by simpa using hj):=by simpa using e
 have:=(List.getElem_inj (cF h)).mp h1
 subst this
 rfl
theorem qr (pnd:ps.Nodup) {rs:List Row} (hs:(aw rs).Pairwise nlt) (h:Ins ps rs) {B:List (List Str)}{f:List Row->List Str} (hf:∀c∈chl rs (others ps root),(f c).Pairwise nlt/\∀x,x∈f c ↔ x∈aw c)
  (hB:B.Perm (((chl rs (others ps root)).filter (trC ps root)).map f)) (hsB:B.Pairwise (fun a b=>aM a b=true)):B=(TL ps root rs rs []).map aw:=by
 have rnd:=fI hs
 have I:Iv ps root rs rs []:=Iv.all rnd h
 have sA:=ez pnd rs rs [] hs I
 have ndl:∀{l:List (List Str)},l.Pairwise (fun a b=>aM a b=true)->l.Nodup:=fun h=>h.imp fun {a b} hab e=>by rw [e,dF] at hab;cases hab
 have fe:∀c∈chl rs (others ps root),f c=aw (rs.filter fun r=>decide (r∈c)):=fun c hc=>by
  obtain⟨c1,c2⟩:=cH rs _ c hc
  obtain⟨f1,f2⟩:=hf c hc
  refine gC f1 ((List.filter_sublist).map _ |> fun s=>hs.sublist s) fun x=>?_
  rw [f2 x]
  unfold aw
  constructor
  ·intro hx
   obtain⟨r,hr,rfl⟩:=List.mem_map.mp hx
   exact List.mem_map.mpr ⟨r,List.mem_filter.mpr ⟨c1 r hr,by simpa using hr⟩,rfl⟩
  ·intro hx
   obtain⟨r,hr,rfl⟩:=List.mem_map.mp hx
   exact List.mem_map.mpr ⟨r,by simpa using (List.mem_filter.mp hr).2,rfl⟩
 have sub:∀x∈B,x∈(TL ps root rs rs []).map aw:=fun x hx=>by
  obtain⟨c,hc,rfl⟩:=List.mem_map.mp (hB.mem_iff.mp hx)
  obtain⟨hc1,hc2⟩:=List.mem_filter.mp hc
  obtain⟨c1,c2⟩:=cH rs _ c hc1
  rw [fe c hc1]
  have ond:(others ps root).Nodup:=pnd.filter _
  have cn:(c.map (·.2.2)).Nodup:=by rw [c2];exact ond
  have xu:∀a∈c,∀b∈c,a.2.2=b.2.2->a=b:=fun a ha b hb e=>by
   obtain⟨i,hi,rfl⟩:=List.mem_iff_getElem.mp ha
   obtain⟨j,hj,rfl⟩:=List.mem_iff_getElem.mp hb
   have h1:(c.map (·.2.2))[i]'(by simpa using hi)=(c.map (·.2.2))[j]'(by simpa using hj):=by simpa using e
   have:=(List.getElem_inj cn).mp h1
   subst this
   rfl
  have q:=fY pnd (X:=c) (by
   rw [List.nodup_iff_pairwise_ne] at cn ⊢
   rw [List.pairwise_map] at cn
   exact cn.imp fun h z=>h (by rw [z])) (fun a ha z=>((bG (ps:=ps) (root:=root)).mp (by rw [<- c2];exact List.mem_map.mpr ⟨a,ha,rfl⟩:a.2.2∈others ps root)).2 z) xu (rE pnd h hc1 hc2) rs rs [] I (fun r hr _=>hr) (by simp) (fun a ha=>.inr (c1 a ha))
  exact List.mem_map.mpr ⟨_,q,by simp⟩
 have len:B.length=((TL ps root rs rs []).map aw).length:=by
  have l1:=cJ pnd rs rs [] I
  rw [gW pnd h] at l1
  have l2:=hB.length_eq
  rw [List.length_map] at l2 ⊢
  omega
 have inc:∀(l m:List (List Str)),l.Nodup->(∀x∈l,x∈m)->m.Nodup->l.length=m.length->∀x∈m,x∈l:=fun l=>by
  induction l with
  | nil=>intro m _ _ _ hl x hx;rw [List.length_eq_zero_iff.mp hl.symm] at hx;exact hx
  | cons a l ih =>
   intro m hn hs hm hl x hx
   obtain⟨h1,h2⟩:=List.nodup_cons.mp hn
   have ha:=hs a List.mem_cons_self
   by_cases e:x=a
   ·rw [e];simp
   ·refine List.mem_cons_of_mem _ (ih (m.erase a) h2 (fun y hy=>(List.mem_erase_of_ne (fun z:y=a=>h1 (z ▸ hy))).mpr (hs y (List.mem_cons_of_mem _ hy))) (hm.erase _) ?_ x ((List.mem_erase_of_ne e).mpr hx))
    rw [List.length_erase_of_mem ha]
    simp at hl
    omega
 have lex_asym:∀a b,aM a b=true->aM b a=true->False:=fun a b h1 h2=>by
  have:=lU _ _ _ h1 h2
  rw [dF] at this
  cases this
 have ext:∀(l m:List (List Str)),l.Pairwise (fun a b=>aM a b=true)->m.Pairwise (fun a b=>aM a b=true)->(∀x,x∈l ↔ x∈m)->l=m:=fun l=>by
  induction l with
  | nil =>
   intro m _ _ h
   cases m with
   | nil=>rfl
   | cons y m=>have:=(h y).mpr List.mem_cons_self;simp at this
  | cons x l ih =>
   intro m hl hm h
   cases m with
   | nil=>have:=(h x).mp List.mem_cons_self;simp at this
   | cons y m =>
    obtain⟨l1,l2⟩:=List.pairwise_cons.mp hl
    obtain⟨m1,m2⟩:=List.pairwise_cons.mp hm
    have e:x=y:=by
     rcases List.mem_cons.mp ((h x).mp List.mem_cons_self) with e | hx
     ·exact e
     ·rcases List.mem_cons.mp ((h y).mpr List.mem_cons_self) with e | hy
      ·exact e.symm
      ·exact (lex_asym _ _ (m1 x hx) (l1 y hy)).elim
    subst e
    rw [ih m l2 m2 fun z=>by
     have q:=h z
     rw [List.mem_cons,List.mem_cons] at q
     constructor
     ·intro hz
      rcases q.mp (.inr hz) with e | y
      ·subst e;have:=l1 z hz;rw [dF] at this;cases this
      ·exact y
     ·intro hz
      rcases q.mpr (.inr hz) with e | y
      ·subst e;have:=m1 z hz;rw [dF] at this;cases this
      ·exact y]
 exact ext B _ hsB sA fun x=>⟨sub x,inc B _ (ndl hsB) sub (ndl sA) len x⟩
end
end K83
namespace K83
open PySem L2 PySem.Spec PyProof.Rows
noncomputable abbrev r3 (r:Row):List Str:=[r.1,r.2.1,r.2.2]
theorem uF {r q:Row}:r3 r=r3 q ↔ r=q:=by
 obtain⟨a,b,c⟩:=r
 obtain⟨d,e,f⟩:=q
 simp [r3]
structure RN (r:Row):Prop where
 n:aJ r.1
 a:aJ r.2.1
 b:aJ r.2.2
theorem RN.all {r:Row} (h:RN r):∀x∈r3 r,aJ x:=fun x hx=>by
 rcases List.mem_cons.mp hx with rfl | hx
 ·exact h.n
 rcases List.mem_cons.mp hx with rfl | hx
 ·exact h.a
 rw [List.mem_singleton.mp hx];exact h.b
theorem bh.tu {H:Hp}{a:Addr}{r:Row} (h:bh H a r):H a=some (.tup ((r3 r).map V.str)):=h
theorem bh.dv {H:Hp}{a:Addr}{r:Row} (h:bh H a r):DV H (.ref a) (.tuple ((r3 r).map PyData.str)):=.tup h.tu (DVs.strs _)
theorem ia (r q:Row):PyData.eqv (.tuple ((r3 r).map PyData.str)) (.tuple ((r3 q).map PyData.str))=decide (r=q):=by
 have h:PyData.eqv (.tuple ((r3 r).map PyData.str)) (.tuple ((r3 q).map PyData.str))=decide (r3 r=r3 q):=gu _ _
 rw [h,Bool.eq_iff_iff,decide_eq_true_iff,decide_eq_true_iff,uF]
theorem jU {H:Hp}{a b:Addr}{r q:Row} (h:bh H a r) (h':bh H b q) (e:a=b):r=q:=by
 subst e
 unfold bh at h h'
 rw [h] at h'
 have:=Option.some.inj h'
 obtain⟨x,y,z⟩:=r
 obtain⟨d,e,f⟩:=q
 simpa using this
noncomputable def vU (K:PySem.W.Frag):R2:=fun x y H Q=>∃(a p:Addr) (r:Row) (rs:List (Addr×Row)),x=.ref a/\y=.ref p/\bh H a r/\RN r/\Sq K H p (aq rs)/\(∀q∈rs,bh H q.1 q.2/\RN q.2)/\Q (.bl (decide (r∈rs.map (·.2)))) H
theorem uy {X:Cx}{k:Nat} (hr:aL k X.A):OpR X (compareOp .In) (vU X.K):=by
 intro pins s σ H x y v u Q I rx ry h
 obtain⟨a,p,r,rs,rfl,rfl,ha,hn,hq,hL,q⟩:=h
 cases rx
 cases ry
 have hun:=hr.un
 obtain⟨as,r1⟩:=ha.dv.reads I.hok (show RelV (.ref a) (Value.ref a) from rfl)
 have fin:∀its:List Value,ak (aq rs) its->∃e:Value->Bool,(∀y,y∈its.toArray->SeqAt.EqAt X.A.in1 s y (.ref a) (e y))/\its.toArray.any e=decide (r∈rs.map (·.2)):=fun its r'=>by
  have data:∀y∈its,∃l∈rs,y=Value.ref l.1:=fun y hy=>by
   obtain⟨i,hi⟩:=List.getElem?_of_mem hy
   have hlen:=r'.length
   rw [List.length_map] at hlen
   have hi':i < rs.length:=by rw [hlen];exact (List.getElem?_eq_some_iff.mp hi).1
   have e1:(aq rs)[i]?=some (V.ref rs[i].1):=by rw [List.getElem?_map,List.getElem?_eq_getElem hi'];rfl
   obtain⟨w',e2,rw'⟩:=r'.get e1
   rw [hi] at e2
   cases e2
   exact⟨rs[i],List.getElem_mem _,rw'⟩
  let e:Value->Bool:=fun y=>match y with | .ref c=>rs.any fun l=>decide (l.1=c) && decide (l.2=r) | _=>false
  have ee:∀c,e (.ref c)=true ↔ ∃l∈rs,l.1=c/\l.2=r:=fun c=>by
   show (rs.any fun l=>decide (l.1=c) && decide (l.2=r))=true ↔ _
   rw [List.any_eq_true]
   simp only [Bool.and_eq_true,decide_eq_true_eq]
  refine⟨e,fun y hy=>?_,?_⟩
  ·obtain⟨l,hl,rfl⟩:=data y (by simpa using hy)
   have el:e (.ref l.1)=decide (l.2=r):=by
    rw [Bool.eq_iff_iff,ee,decide_eq_true_iff]
    constructor
    ·rintro⟨m,hm,em,es⟩
     rw [jU (hL l hl).1 (hL m hm).1 em.symm];exact es
    ·exact fun q=>⟨l,hl,rfl,q⟩
   rw [el]
   by_cases hab:l.1=a
   ·rw [decide_eq_true (jU (hL l hl).1 ha hab),hab]
    exact SeqAt.EqAt.same _
   ·refine SeqAt.EqAt.of_refs hab fun prog w E Q hq=>?_
    obtain⟨bs,r2⟩:=(hL l hl).1.dv.reads I.hok (show RelV (.ref l.1) (Value.ref l.1) from rfl)
    refine (eq_dataH (A:=X.A.in1) r2 r1 (cE (hL l hl).2.all).2 (cE hn.all).2 (by show X.A.units + 1 + 64 < cLine;omega) ?_:wpAny (model prog w) X.A.in1 (compareOp .Eq (.ref l.1) (.ref a)) Q E _)
    rw [ia];exact hq
  ·rw [Bool.eq_iff_iff,List.any_toArray,List.any_eq_true,decide_eq_true_iff]
   constructor
   ·rintro⟨y,hy,ey⟩
    obtain⟨m,hm,rfl⟩:=data y hy
    obtain⟨l,hl,_,es⟩:=(ee _).mp ey
    exact es ▸ List.mem_map_of_mem hl
   ·intro hm
    obtain⟨l,hl,es⟩:=List.mem_map.mp hm
    obtain⟨i,hi⟩:=List.getElem?_of_mem hl
    obtain⟨w',e2,rw'⟩:=r'.get (show (aq rs)[i]?=some (V.ref l.1) by rw [List.getElem?_map,hi];rfl)
    cases rw'
    exact⟨_,List.mem_of_getElem? e2,(ee _).mpr ⟨l,hl,rfl,es⟩⟩
 rcases hq with hq | hq
 ·obtain⟨its,r',pl,hz⟩:=I.list hq
  obtain⟨e,h1,h2⟩:=fin its r'
  refine SeqAt.in_listAt e pl.isList h1 ?_
  rw [h2]
  exact⟨V.bl (decide (r∈rs.map (fun z:Addr×Row=>z.2))),H,I,rfl,q⟩
 ·obtain⟨its,r',pl,hz⟩:=I.tuple hq
  obtain⟨e,h1,h2⟩:=fin its r'
  refine SeqAt.in_tupleAt e pl h1 ?_
  rw [h2]
  exact⟨V.bl (decide (r∈rs.map (fun z:Addr×Row=>z.2))),H,I,rfl,q⟩
section
variable {P:Program}{w:World}{K:PySem.W.Frag}{mg:Str->Option Value}{base:Heap}
noncomputable def onA (rs:List (Addr×Row)) (w:Row):List (Addr×Row):=rs.filter fun r=>decide (r.2=w) || !decide (r.2.2.2=w.2.2)
noncomputable def woA (rs:List (Addr×Row)) (w:Row):List (Addr×Row):=rs.filter fun r=>!decide (r.2=w)
theorem kD (rs:List (Addr×Row)) (w:Row):(onA rs w).map (·.2)=only (rs.map (·.2)) w:=by
 unfold onA only
 rw [List.filter_map];rfl
theorem sr (rs:List (Addr×Row)) (w:Row):(woA rs w).map (·.2)=wo (rs.map (·.2)) w:=by
 unfold woA wo
 rw [List.filter_map];rfl
noncomputable def Rws (H:Hp) (a:Addr) (rs:List (Addr×Row)):Prop:=(H a=some (.lst (aq rs))\/H a=some (.tup (aq rs)))/\rs.length<=60/\∀q∈rs,bh H q.1 q.2/\RN q.2
theorem Rws.same {H H':Hp}{a:Addr}{rs:List (Addr×Row)} (h:Rws H a rs) (s:ae H H'):Rws H' a rs:=⟨h.1.imp (s _ _) (s _ _),h.2.1,fun q hq=>⟨s _ _ (h.2.2 q hq).1,(h.2.2 q hq).2⟩⟩
noncomputable def iA:Sp:=fun vs H Q _=>∃(ra wa:Addr) (rs:List (Addr×Row)) (r:Row),vs=[.ref ra,.ref wa]/\Rws H ra rs/\bh H wa r/\RN r/\∀(q:Addr) (H':Hp),ae H H'->H q=none->Rws H' q (onA rs r)->Q (.ref q) H'
theorem vD:aQ ["rows","row"] ["rows","row"] (aC (top 22)):=⟨rfl,rfl,rfl,by decide +kernel,rfl,by decide +kernel,by decide +kernel⟩
theorem sF {f:Addr}{fd:FuncData} (F:Fun K "only" "only" (top 22) f fd):aG P w K mg base CX0 1 f fd ["rows","row"] iA:=by
 refine F.ok vD (fun vs H Q E h=>?_) (fun cdv A outer s H vs Q E hr h=>?_)
 ·obtain⟨ra,wa,rs,r,rfl,_⟩:=h
  rfl
 ·obtain⟨ra,wa,rs,r,rfl,R,hw,hn,k⟩:=h
  refine⟨_,ar (aO (bC (N:=["one","row"]) (ix:=[none,some 1]) ⟨rfl,rfl,rfl,by decide⟩ rfl (gj (cv (pv 0)) (bP (pv 0))) (fun _ _ _ _=>aW 0 (by decide) rfl rfl)
   (fun _ _ _ _=>dD (PW.pt (dg (aV (ur hr) (pv 0) (pv 1) (aN _)) (dM (aV bI (ax (bK K) (pv 0) ai (fun _ _=>rfl)) (ax (bK K) (pv 1) ai (fun _ _=>rfl)) (aN _)))))) (fun _ _ _ _=>pv 0))),?_⟩
  refine rA (K:=K) (Hb:=H) (a:=ra) (xs:=aq rs) (fits (by have:=R.2.1;simp;omega)) (fun Q q=>⟨_,rfl,q⟩) R.1 (ae.refl _) (fun i ys σ H2=>ys=aq (onA (rs.take i) r)/\H2=H/\∃g,σ=[g,some (.ref wa)]) ⟨rfl,rfl,_,rfl⟩
   (fun i ys σ H2 hi z=>⟨by rw [z.1,List.length_map];exact Nat.le_trans (List.length_filter_le _ _) (by simp;omega),by rw [z.2.1];exact ae.refl _⟩) ?_ ?_
  ·rintro i x ys σ H2 hx ⟨rfl,rfl,g,rfl⟩
   obtain⟨q,hq,rfl⟩:=cq hx
   have hm:=List.mem_of_getElem? hq
   obtain⟨q1,q2⟩:=R.2.2 q hm
   have tf:=cS (fun z:Addr×Row=>decide (z.2=r) || !decide (z.2.2.2=r.2.2)) rs i q hq
   refine⟨_,rfl,_,rfl,_,_,q1.dv,hw.dv,(cE q2.all).2,(cE hn.all).2,_,rfl,?_⟩
   rw [ia]
   refine bj (fun c=>?_) (fun c=>?_)
   ·refine (if_pos rfl).mpr ⟨_,rfl,?_,rfl,_,rfl⟩
    unfold onA
    rw [tf,c];simp
   ·refine⟨_,rfl,ay (j:=2) (.inr (SqT.of q1)) rfl rfl ⟨_,rfl,ay (j:=2) (.inr (SqT.of hw)) rfl rfl ⟨rfl,_,rfl,?_⟩⟩⟩
    have e:(!decide (V.str q.2.2.2=V.str r.2.2))=!decide (q.2.2.2=r.2.2):=by simp
    rw [e]
    have c':decide (q.2=r)=false:=by simpa using c
    refine bj (fun d=>⟨_,rfl,?_,rfl,_,rfl⟩) (fun d=>⟨?_,rfl,_,rfl⟩)
    ·unfold onA
     rw [tf,c',d];simp
    ·simp only [Bool.not_eq_true] at d
     unfold onA
     rw [tf,c',d];simp
  ·rintro ys σ H2 ⟨rfl,rfl,g,rfl⟩ p hp
   rw [take_all rs (by simp)]
   have s1:=am (o:=.lst (aq (onA rs r))) (ae.refl H2) hp
   exact k p _ s1 hp ⟨.inl ah,Nat.le_trans (List.length_filter_le _ _) R.2.1,fun q hq=>by
    obtain⟨q1,q2⟩:=R.2.2 q (List.mem_filter.mp hq).1
    exact⟨s1 _ _ q1,q2⟩⟩
end
end K83
namespace L2
open PySem
theorem pG {K:PySem.W.Frag}{tl:TE}{g:TG}{tt:TT}{te:TE}{ix:List (Option Nat)}{n:Nat}{D:Ends}{σ:St}{H Hb:Hp}{a:Addr}{xs:List V} (hn:xs.length < sizeLine) (htl:∀Q:VK,Q (.ref a) H->tl σ H Q) (hb:Hb a=some (.lst xs)\/Hb a=some (.tup xs)) (s0:ae Hb H) (Pv:Nat->List V->St->Hp->Prop) (h0:Pv 0 [] (emb ix σ) H)
  (hl:∀i ys σ' H',i<=xs.length->Pv i ys σ' H'->ys.length<=i/\ae Hb H')
  (hs:∀i x ys σ H,xs[i]?=some x->Pv i ys σ H->g x σ H fun σ2 H2=>tt σ2 H2 fun b H3=>if b=true then te σ2 H3 (fun v H4=>Pv (i + 1) (ys++[v]) σ2 H4) else Pv (i + 1) ys σ2 H3)
  (hd:∀ys σ' H,Pv xs.length ys σ' H->∀p,H p=none->D.nx (σ.set n (some (.ref p))) (upd H p (.lst ys))):lG n (iOr (gh K tl) (eZ K tl)) g tt te ix D σ H:=by
 rcases hb with hb | hb
 ·exact .inl (htl _ ⟨a,rfl,⟨xs,SqL.of (s0 _ _ hb)⟩,eA hn Pv h0 (fun i ys σ H' hi p=>⟨(hl i ys σ H' hi p).1,SqL.of ((hl i ys σ H' hi p).2 _ _ hb)⟩) hs hd⟩)
 ·exact .inr (htl _ ⟨a,rfl,⟨xs,SqT.of (s0 _ _ hb)⟩,eK hn Pv h0 (fun i ys σ H' hi p=>⟨(hl i ys σ H' hi p).1,SqT.of ((hl i ys σ H' hi p).2 _ _ hb)⟩) hs hd⟩)
end L2
namespace K83
open PySem L2
theorem uL {ps:List Str}{root:Str}{R C:List Row}{b:Int}:tn ps root [] R b C=C:=rfl
theorem qH {ps:List Str}{root:Str}{w:Row}{ws R C:List Row}{b:Int}:tn ps root (w::ws) R b C=if w∈R then (if b < bN ps root R w then tn ps root ws (only R w) b (C++[w]) else tn ps root ws (wo R w) (b - bN ps root R w) C) else tn ps root ws R b C:=rfl
section
variable {P:Program}{w:World}{K:PySem.W.Frag}{mg:Str->Option Value}{base:Heap}
noncomputable def jD:Sp:=fun vs H Q _=>∃(pa ra wa:Addr) (root:Str) (ps:List Str) (rs:List (Addr×Row)) (r:Row),vs=[.ref pa,.str root,.ref ra,.ref wa]/\H pa=some (.tup (ps.map V.str))/\Rws H ra rs/\bh H wa r/\RN r /\
 ps.Nodup/\ps.length<=8/\Ins ps (rs.map (·.2))/\∀H',ae H H'->Q (.int (bN ps root (rs.map (·.2)) r)) H'
theorem vR:aQ ["places","root","rows","row"] ["places","root","rows","row"] (aC (top 23)):=⟨rfl,rfl,rfl,by decide +kernel,rfl,by decide +kernel,by decide +kernel⟩
theorem nW {f:Addr}{fd:FuncData} (F:Fun K "count_by" "count_by" (top 23) f fd) (F1:Fn P w K mg base 3 "count_of" ["places","root","rows"] gy) (F2:Fn P w K mg base 1 "only" ["rows","row"] iA):aG P w K mg base CX0 4 f fd ["places","root","rows","row"] jD:=by
 refine F.ok vR (fun vs H Q E h=>?_) (fun cdv A outer s H vs Q E hr h=>?_)
 ·obtain⟨pa,ra,wa,root,ps,rs,r,rfl,_⟩:=h
  rfl
 ·obtain⟨pa,ra,wa,root,ps,rs,r,rfl,hpa,R,hw,hn,pnd,p8,hin,k⟩:=h
  have hr1:aL 1 _:=hr.mono (by decide)
  refine⟨_,ar (aO (qh (aV cO (ax aP (pv 3) ai (fun _ _=>rfl)) (pv 1) (aN _)) ai (av F1 hr (aa (pv 0) (aa (pv 1) (aa (av F2 hr1 (aa (pv 2) (aa (pv 3) ag))) ag)))))),?_⟩
  refine⟨_,rfl,ay (j:=2) (.inr (SqT.of hw)) rfl rfl ⟨_,rfl,rfl,_,rfl,?_⟩⟩
  have e:decide (V.str r.2.2=V.str root)=decide (r.2.2=root):=by simp
  rw [e]
  refine bj (fun c=>?_) (fun c=>?_)
  ·have:=k H (ae.refl _)
   rw [show bN ps root (rs.map (·.2)) r=0 by unfold bN;rw [if_pos (of_decide_eq_true c)]] at this
   exact this
  ·refine⟨_,rfl,_,rfl,_,rfl,_,rfl,ra,wa,rs,r,rfl,R,hw,hn,fun q H1 s1 hq R1=>?_⟩
   refine⟨pa,q,root,ps,onA rs r,rfl,s1 _ _ hpa,R1.1,fun z hz=>(R1.2.2 z hz).1,pnd,p8,R1.2.1,fun z hz=>hin z.2 (List.mem_map_of_mem (List.mem_filter.mp hz).1),fun H2 s2=>?_⟩
   have:=k H2 (s1.trans s2)
   rw [show bN ps root (rs.map (·.2)) r=aF ps root (only (rs.map (·.2)) r) by unfold bN;rw [if_neg (by simpa using c)],<- kD] at this
   exact this
noncomputable def nk:Sp:=fun vs H Q _=>∃(v pa ra:Addr) (root:Str) (b:Int) (ps:List Str) (rs:List (Addr×Row)),vs=[.ref v,.str root,.int b]/\bH H v pa ra ps rs/\Good ps (rs.map (·.2))/\ps.length<=8/\0<=b/\b < aF ps root (rs.map (·.2)) /\
 ∀(q:Addr) (H':Hp),ae H H'->H q=none->H' q=some (.tup ((aw (tn ps root (rs.map (·.2)) (rs.map (·.2)) b [])).map V.str))->Q (.ref q) H'
noncomputable abbrev N24:List Str:=["web","root","number","places","rows","tree","behind","row","having"]
theorem cf:aQ N24 ["web","root","number"] (aC (top 24)):=⟨rfl,rfl,rfl,by decide +kernel,rfl,by decide +kernel,by decide +kernel⟩
theorem uQ {f:Addr}{fd:FuncData} (F:Fun K "tree_of_number" "tree_of_number" (top 24) f fd) (B:Bl mg) (F1:Fn P w K mg base 4 "count_by" ["places","root","rows","row"] jD) (F2:Fn P w K mg base 1 "only" ["rows","row"] iA):aG P w K mg base CX0 5 f fd ["web","root","number"] nk:=by
 refine F.ok cf (fun vs H Q E h=>?_) (fun cdv A outer s H vs Q E hr h=>?_)
 ·obtain⟨v,pa,ra,root,b,ps,rs,rfl,_⟩:=h
  rfl
 ·obtain⟨v,pa,ra,root,b,ps,rs,rfl,W,G,p8,hb0,hb1,k⟩:=h
  have hr1:aL 1 _:=hr.mono (by decide)
  refine⟨_,ao (da (pv 0) (cM rfl (n:=2) (aU (be (i:=3) cf.nd rfl (Or.inl rfl)) (aU (be (i:=4) cf.nd rfl (Or.inl rfl)) bO))))
   (ao (aE (i:=5) cf.nd rfl (Or.inl rfl) (bL ag))
   (ao (aE (i:=6) cf.nd rfl (Or.inl rfl) (pv 2))
   (ao (b9 PassesOwn.never rfl (bP (ax aP (pv 0) ai (fun _ _=>rfl))) (be (i:=7) cf.nd rfl (Or.inr rfl))
    (ar (aY (aV (uy hr) (pv 7) (pv 4) (by with_unfolding_all rfl))
     (ao (aE (i:=8) cf.nd rfl (Or.inl rfl) (av F1 hr (aa (pv 3) (aa (pv 1) (aa (pv 4) (aa (pv 7) ag))))))
     (ar (aY (aV mK (pv 6) (pv 8) (aN _))
      (ao (cw (cy PySem.F.plainAttrs_list PySem.F.slot_list_append PySem.F.type_list_append dn (pv 5) (aa (ax aP (pv 7) ai (fun _ _=>rfl)) ag)))
      (ar (aE (i:=4) cf.nd rfl (Or.inl rfl) (av F2 hr1 (aa (pv 4) (aa (pv 7) ag))))))
      (ao (tX (i:=6) cf.nd rfl (Or.inl rfl) (pv 8) lA)
      (ar (dq (i:=4) (N:=["one","row"]) (ix:=[none,some 7]) cf.nd rfl (Or.inl rfl) ⟨rfl,rfl,rfl,by decide⟩ rfl (gj (cv (pv 4)) (bP (pv 4))) (fun _ _ _ _=>aW 0 (by decide) rfl rfl) (fun _ _ _ _=>dD (aV (ib hr) (pv 0) (pv 1) (aN _))) (fun _ _ _ _=>pv 0)))))))
     a9)))
   (ar (aO (cm dj rfl B.tuple bY (aa (pv 5) ag))))))),?_⟩
  have rz:rs.length<=60:=by have:=G.rz;simpa using this
  have pnd:ps.Nodup:=cF G.so
  have rn:∀r∈rs,RN r.2:=fun r hr=>by
   obtain⟨h1,h2,h3,_⟩:=G.rn r.2 (List.mem_map_of_mem hr)
   exact⟨h1,G.nm _ h2,G.nm _ h3⟩
  have rin:Ins ps (rs.map (·.2)):=fun r hr=>by
   obtain⟨_,h2,h3,_⟩:=G.rn r hr
   exact⟨h2,h3⟩
  refine⟨_,rfl,v,_,rfl,SqT.of W.tp,rfl,_,_,rfl,_,_,rfl,rfl,Nat.zero_le _,fun tk htk=>?_⟩
  have s1:=am (o:=.lst []) (ae.refl H) htk
  have t1:upd H tk (.lst []) tk=some (.lst ((aw []).map V.str)):=ah
  generalize upd H tk (.lst [])=H1 at s1 t1 ⊢
  refine⟨_,rfl,_,rfl,ay (j:=1) (.inr (SqT.of (s1 _ _ W.tp))) rfl rfl ⟨ra,rfl,⟨_,SqT.of (s1 _ _ W.rl)⟩,dG (K:=K) (a:=ra) (xs:=aq rs) (fun i σ H3=>∃(rc:Addr) (cur:List (Addr×Row)) (C:List Row) (b':Int) (g1 g2:Option V),σ=[some (.ref v),some (.str root),some (.int b),some (.ref pa),some (.ref rc),some (.ref tk),some (.int b'),g1,g2]/\ae H H3/\H3 tk=some (.lst ((aw C).map V.str))/\Rws H3 rc cur/\rc≠tk/\(∀z∈cur,z∈rs)/\C.length<=i/\tn ps root (rs.map (·.2)) (rs.map (·.2)) b []=tn ps root ((rs.map (·.2)).drop i) (cur.map (·.2)) b' C)
   ⟨ra,rs,[],b,none,none,rfl,s1,t1,⟨.inr (s1 _ _ W.rl),rz,fun q hq=>⟨s1 _ _ (W.rows q hq),rn q hq⟩⟩,(fun z=>by have:=W.rl;rw [z,htk] at this;cases this),fun z hz=>hz,Nat.le_refl _,rfl⟩
   (fun i σ H3 _ p=>by obtain⟨_,_,_,_,_,_,_,s3,_⟩:=p;exact SqT.of (s3 _ _ W.rl)) ?_ ?_⟩⟩
  ·rintro i x σ H3 hx ⟨rc,cur,C,b',g1,g2,rfl,s3,t3,R3,nct,hsub,hC,htn⟩
   obtain⟨r,hr',rfl⟩:=cq hx
   have hm:=List.mem_of_getElem? hr'
   have hi:i < rs.length:=(List.getElem?_eq_some_iff.mp hr').1
   have hrow:=s3 _ _ (W.rows r hm)
   have hdrop:(rs.map (·.2)).drop i=r.2::(rs.map (·.2)).drop (i + 1):=by
    rw [List.drop_eq_getElem_cons (by simpa using hi)]
    simp [(List.getElem?_eq_some_iff.mp hr').2]
   rw [hdrop,qH] at htn
   have cin:Ins ps (cur.map (·.2)):=rin.sub fun q hq=>by
    obtain⟨z,hz,rfl⟩:=List.mem_map.mp hq
    exact List.mem_map_of_mem (hsub z hz)
   refine⟨_,rfl,_,rfl,r.1,rc,r.2,cur,rfl,rfl,hrow,rn r hm,R3.1.imp SqL.of SqT.of,R3.2.2,_,rfl,?_⟩
   refine bj (fun c=>?_) (fun c=>?_)
   ·rw [if_pos (of_decide_eq_true c)] at htn
    refine⟨_,rfl,_,rfl,_,rfl,_,rfl,pa,rc,r.1,root,ps,cur,r.2,rfl,s3 _ _ W.pl,R3,hrow,rn r hm,pnd,p8,cin,fun H4 s4=>?_⟩
    have s04:=s3.trans s4
    have R4:=R3.same s4
    have t4:=s4 _ _ t3
    have hrow4:=s4 _ _ hrow
    refine⟨_,rfl,_,rfl,_,_,rfl,rfl,_,rfl,?_⟩
    refine bj (fun d=>?_) (fun d=>?_)
    ·rw [if_pos (of_decide_eq_true d)] at htn
     refine⟨_,rfl,.inl ⟨rfl,_,SqL.of t4⟩,_,rfl,ay (j:=0) (.inr (SqT.of hrow4)) rfl rfl ⟨tk,_,_,rfl,rfl,t4,fits (by simp;omega),?_⟩⟩
     have s05:=ae.upd0 (o:=.lst ((aw C).map V.str++[.str r.2.1])) s04 htk
     have t5:upd H4 tk (.lst ((aw C).map V.str++[.str r.2.1])) tk=some (.lst ((aw (C++[r.2])).map V.str)):=by rw [ah];simp
     have R5:Rws (upd H4 tk (.lst ((aw C).map V.str++[.str r.2.1]))) rc cur:=⟨by rw [aj nct];exact R4.1,R4.2.1,fun q hq=>⟨by
      unfold bh
      rw [aj (tup_ne (R4.2.2 q hq).1 t4)]
      exact (R4.2.2 q hq).1,(R4.2.2 q hq).2⟩⟩
     have hrow5:bh (upd H4 tk (.lst ((aw C).map V.str++[.str r.2.1]))) r.1 r.2:=by
      unfold bh
      rw [aj (tup_ne hrow4 t4)]
      exact hrow4
     generalize upd H4 tk (.lst ((aw C).map V.str++[.str r.2.1]))=H5 at s05 t5 R5 hrow5 ⊢
     refine⟨_,rfl,_,rfl,rc,r.1,cur,r.2,rfl,R5,hrow5,rn r hm,fun q H6 s6 hq R6=>?_⟩
     refine⟨q,onA cur r.2,C++[r.2],b',_,_,rfl,s05.trans s6,s6 _ _ t5,R6,(fun z=>by rw [z,t5] at hq;cases hq),fun z hz=>hsub z (List.mem_filter.mp hz).1,by simp;omega,?_⟩
     rw [kD];exact htn
    ·rw [if_neg (by simpa using d)] at htn
     refine⟨_,rfl,_,rfl,_,_,rfl,rfl,?_⟩
     refine pG (K:=K) (Hb:=H4) (a:=rc) (xs:=aq cur) (fits (by have:=R4.2.1;simp;omega)) (fun Q q=>⟨_,rfl,q⟩) R4.1 (ae.refl _) (fun j ys σ H5=>ys=aq (woA (cur.take j) r.2)/\H5=H4/\∃g,σ=[g,some (.ref r.1)]) ⟨rfl,rfl,_,rfl⟩
      (fun j ys σ H5 hj z=>⟨by rw [z.1,List.length_map];exact Nat.le_trans (List.length_filter_le _ _) (by simp;omega),by rw [z.2.1];exact ae.refl _⟩) ?_ ?_
     ·rintro j x ys σ H5 hx ⟨rfl,rfl,g,rfl⟩
      obtain⟨q,hq,rfl⟩:=cq hx
      obtain⟨q1,q2⟩:=R4.2.2 q (List.mem_of_getElem? hq)
      have tf:=cS (fun z:Addr×Row=>!decide (z.2=r.2)) cur j q hq
      refine⟨_,rfl,_,rfl,_,_,q1.dv,bh.dv hrow4,(cE q2.all).2,(cE (rn r hm).all).2,_,rfl,?_⟩
      rw [ia]
      refine bj (fun c=>⟨_,rfl,?_,rfl,_,rfl⟩) (fun c=>⟨?_,rfl,_,rfl⟩)
      ·unfold woA
       rw [tf,c];simp
      ·simp only [Bool.not_eq_true] at c
       unfold woA
       rw [tf,c];simp
     ·rintro ys σ H5 ⟨rfl,rfl,g,rfl⟩ q hq
      rw [take_all cur (by simp)]
      have s5:=am (o:=.lst (aq (woA cur r.2))) (ae.refl H5) hq
      refine⟨q,woA cur r.2,C,b' - bN ps root (cur.map (·.2)) r.2,_,_,rfl,s04.trans s5,s5 _ _ t4,⟨.inl ah,Nat.le_trans (List.length_filter_le _ _) R4.2.1,fun z hz=>by
       obtain⟨z1,z2⟩:=R4.2.2 z (List.mem_filter.mp hz).1
       exact⟨s5 _ _ z1,z2⟩⟩,(fun z=>by rw [z,t4] at hq;cases hq),fun z hz=>hsub z (List.mem_filter.mp hz).1,by omega,?_⟩
      rw [sr];exact htn
   ·rw [if_neg (by simpa using c)] at htn
    exact⟨rc,cur,C,b',_,_,rfl,s3,t3,R3,nct,hsub,by omega,htn⟩
  ·rintro σ H3 ⟨rc,cur,C,b',g1,g2,rfl,s3,t3,R3,nct,hsub,hC,htn⟩
   rw [List.drop_eq_nil_of_le (by simp),uL] at htn
   refine⟨_,rfl,tk,_,rfl,.inl ⟨SqL.of t3,fun q hq=>?_⟩⟩
   exact k q _ (am s3 hq) (s3.free hq) (by rw [htn];exact ah)
end
section
variable {P:Program}{w:World}{K:PySem.W.Frag}{mg:Str->Option Value}{base:Heap}
noncomputable def mD (CT:Addr):Sp:=fun vs H Q E=>∃(v pa ra:Addr) (root:Str) (ps:List Str) (rs:List (Addr×Row)),vs=[.ref v,.str root]/\bH H v pa ra ps rs/\Good ps (rs.map (·.2))/\ps.length<=8/\root∈ps /\
 (aF ps root (rs.map (·.2))<=100->∀(q:Addr) (lts:List (Addr×List Str)) (H':Hp),ae H H'->H q=none->H' q=some (.lst (aX lts))->cc H' lts->lts.map (·.2)=(TL ps root (rs.map (·.2)) (rs.map (·.2)) []).map aw->Q (.ref q) H') /\
 (¬ aF ps root (rs.map (·.2))<=100->∀H',ae H H'->E (.ref CT) none H')
noncomputable abbrev N26:List Str:=["web","root","many"]
theorem nj:aQ N26 ["web","root"] (aC (top 26)):=⟨rfl,rfl,rfl,by decide +kernel,rfl,by decide +kernel,by decide +kernel⟩
theorem uE {f CT:Addr}{fd:FuncData} (F:Fun K "all_trees" "all_trees" (top 26) f fd) (B:Bl mg) (hx:mg "TooMany"=some (.ref CT)) (hC:eu base CT) (F1:Fn P w K mg base 5 "count" ["web","root"] lu) (F2:Fn P w K mg base 5 "tree_of_number" ["web","root","number"] nk) :
  aG P w K mg base (CXE P w) 6 f fd ["web","root"] (mD CT):=by
 refine F.okX nj (fun vs H Q E h=>?_) (fun cdv A outer s H vs Q E hr h=>?_)
 ·obtain⟨v,pa,ra,root,ps,rs,rfl,_⟩:=h
  rfl
 ·obtain⟨v,pa,ra,root,ps,rs,rfl,W,G,p8,hroot,kq,ke⟩:=h
  obtain⟨tm,hm⟩:=B.most
  refine⟨_,ao (aE (i:=2) nj.nd rfl (Or.inl rfl) (av F1 hr (aa (pv 0) (aa (pv 1) ag))))
   (ao (aY (aV gc (pv 2) (fJ (v:=.int 100) rfl hm ⟨_,rfl⟩) (aN _)) (ar (qx (W:=fun H=>E (.ref CT) none H) hx hC hr.hd (aa (aH gv (aH gv bb (cm nD rfl B.str iG (aa (fJ (v:=.int 100) rfl hm ⟨_,rfl⟩) ag))) bb) ag) (fun pins σ H s h' ea args I m hW=>tG I m hW))) a9)
   (ar (aO (bC (N:=["number","web","root"]) (ix:=[none,some 0,some 1]) ⟨rfl,rfl,rfl,by decide⟩ rfl (dm rfl B.range (aa (pv 2) ag)) (fun _ _ _ _=>aW 0 (by decide) rfl rfl) (fun _ _ _ _=>bw)
    (fun _ _ _ _=>av F2 hr (aa (pv 1) (aa (pv 2) (aa (pv 0) ag)))))))),?_⟩
  have pnd:ps.Nodup:=cF G.so
  have rin:Ins ps (rs.map (·.2)):=fun r hr=>by
   obtain⟨_,h2,h3,_⟩:=G.rn r hr
   exact⟨h2,h3⟩
  have I0:=Iv.all (ps:=ps) (root:=root) (fI G.rso) rin
  have hlen:=cJ pnd _ _ _ I0
  have hat:=fun b=>eV pnd _ _ _ b I0
  have hnn:=mH pnd rin (root:=root)
  refine⟨_,rfl,_,rfl,v,pa,ra,root,ps,rs,rfl,W,G,p8,hroot,fun H1 s1=>?_⟩
  generalize hc:aF ps root (rs.map (·.2))=c at *
  refine⟨_,rfl,_,_,rfl,rfl,_,rfl,?_⟩
  refine bj (fun d=>?_) (fun d=>?_)
  ·have d':¬ c<=100:=by have:=of_decide_eq_true d;omega
   refine⟨100,rfl,by decide,_,_,rfl,rfl,by decide,_,_,rfl,rfl,by decide,by show 1<=sizeLine;decide,ke d' _ s1⟩
  ·have d':c<=100:=by have:=of_decide_eq_false (by simpa using d:decide ((100:Int) < c)=false);omega
   refine⟨_,rfl,c,rfl,by omega,by omega,fc (fits (by omega)) (fun i ys σ H2=>(∃lts:List (Addr×List Str),ys=aX lts/\cc H2 lts/\lts.map (·.2)=((TL ps root (rs.map (·.2)) (rs.map (·.2)) []).take i).map aw)/\ae H H2/\∃g,σ=[g,some (.ref v),some (.str root)])
    ⟨⟨[],rfl,(fun x hx=>nomatch hx),rfl⟩,s1,_,rfl⟩ (fun i ys σ H2 hi z=>by
     obtain⟨⟨lts,rfl,_,e⟩,_⟩:=z
     have:=congrArg List.length e
     simp at this
     simp
     omega) ?_ ?_⟩
   ·rintro i ys σ H2 hi ⟨⟨lts,rfl,hL,e⟩,s2,g,rfl⟩
    have hb:((i:Nat):Int) < c:=by omega
    have ht:=hat (i:Int) (by omega) (by omega)
    rw [Int.toNat_natCast] at ht
    refine⟨_,rfl,_,rfl,_,rfl,v,pa,ra,root,(0 + (i:Int)),ps,rs,rfl,W.same s2,G,p8,by omega,by omega,fun q H3 s3 hq h3=>?_⟩
    refine⟨⟨lts++[(q,aw (tn ps root (rs.map (·.2)) (rs.map (·.2)) (0 + (i:Int)) []))],by simp [aX],fun x hx=>?_,?_⟩,s2.trans s3,_,rfl⟩
    ·rcases List.mem_append.mp hx with z | z
     ·exact s3 _ _ (hL x z)
     ·rw [List.mem_singleton.mp z];exact h3
    ·rw [List.map_append,e,List.take_add_one,ht,Int.zero_add]
     simp
   ·rintro ys σ H2 ⟨⟨lts,rfl,hL,e⟩,s2,g,rfl⟩ q hq
    have s3:=am (o:=.lst (aX lts)) (ae.refl H2) hq
    refine kq d' q lts _ (s2.trans s3) (s2.free hq) ah (fun x hx=>s3 _ _ (hL x hx)) ?_
    rw [e,List.take_of_length_le (by omega)]
end
section
variable {P:Program}{w:World}{K:PySem.W.Frag}{mg:Str->Option Value}{base:Heap}
noncomputable def iy:Sp:=fun vs H Q _=>∃(v pa ra:Addr) (root:Str) (ps:List Str) (rs:List (Addr×Row)),vs=[.ref v,.str root]/\bH H v pa ra ps rs/\Good ps (rs.map (·.2))/\ps.length<=8/\root∈ps /\
 (aF ps root (rs.map (·.2))<=100->∀(q:Addr) (lts:List (Addr×List Str)) (H':Hp),ae H H'->H q=none->H' q=some (.lst (aX lts))->cc H' lts->lts.map (·.2)=(TL ps root (rs.map (·.2)) (rs.map (·.2)) []).map aw->Q (.ref q) H') /\
 (¬ aF ps root (rs.map (·.2))<=100->∀H',ae H H'->Q (.str ("many":Str)) H')
noncomputable abbrev N36:List Str:=["_law_web_here","_law_root","_law_told_here","e"]
theorem eY:aQ N36 ["_law_web_here","_law_root"] (aC (top 36)):=⟨rfl,rfl,rfl,by decide +kernel,rfl,by decide +kernel,by decide +kernel⟩
theorem rM {f CT R:Addr}{fd:FuncData} (F:Fun K "_law_told" "_law_told" (top 36) f fd) (B:Bl mg) (hx:mg "TooMany"=some (.ref CT)) (hi:PySem.W.isIn K (.ref CT) CT=true) (hxR:mg "RootError"=some (.ref R)) (hR:eu base R) (hT:Under base CT R)
  (F1:FnX P w K mg base 6 "all_trees" ["web","root"] (mD CT)):aG P w K mg base CX0 7 f fd ["_law_web_here","_law_root"] iy:=by
 refine F.ok eY (fun vs H Q E h=>?_) (fun cdv A outer s H vs Q E hr h=>?_)
 ·obtain⟨v,pa,ra,root,ps,rs,rfl,_⟩:=h
  rfl
 ·obtain⟨v,pa,ra,root,ps,rs,rfl,W,G,p8,hroot,kq,ke⟩:=h
  refine' ⟨_,ao (aE (i:=2) eY.nd rfl (Or.inl rfl) tM) (ao ?tr (ar (aO (pv 2)))),?main⟩
  case tr =>
   refine' qM (j:=3) ?t1 hxR hR ?t2 eY.nd rfl rfl rfl rfl rfl
   case t1=>exact sN (i:=2) eY.nd rfl (Or.inl rfl) (rN F1 hr (aa (pv 0) (aa (pv 1) ag)))
   case t2=>exact fun ea=>ar (aY (bV (aD (nJ (C:=CT) (D:=CT) hi) rfl B.isinstance cD (aa (pv 3) (aa (fJ (v:=.ref CT) rfl hx rfl) ag)))) (ar (aE (i:=2) eY.nd rfl (Or.inl rfl) bb)) a9)
  case main =>
  refine⟨_,rfl,_,rfl,v,pa,ra,root,ps,rs,rfl,W,G,p8,hroot,fun hc q lts H1 s1 hq h1 hL e=>⟨_,rfl,kq hc q lts H1 s1 hq h1 hL e⟩,fun hc H1 s1=>⟨CT,rfl,hT,fun ea hea=>?_⟩⟩
  refine⟨_,rfl,ea,none,rfl,ah,true,rfl,bJ ⟨_,rfl,ke hc _ (am s1 hea)⟩⟩
end
theorem qd (K:PySem.W.Frag) {X:Cx} (h:X.K=K:=by rfl):OpR X (binaryOp .Add) (my K):=by subst h;exact sG
noncomputable abbrev Ch:=Addr×List (Addr×Row)
noncomputable abbrev bg (cs:List Ch):List V:=cs.map fun c=>V.ref c.1
noncomputable def bW (H:Hp) (cs:List Ch):Prop:=∀c∈cs,H c.1=some (.tup (aq c.2))
theorem bW.same {H H':Hp}{cs:List Ch} (h:bW H cs) (s:ae H H'):bW H' cs:=fun c hc=>s _ _ (h c hc)
noncomputable def chA (rs:List (Addr×Row)) (O:List Str):List (List (Addr×Row)):=O.foldl (fun acc x=>(rs.filter fun r=>decide (r.2.2.2=x)).flatMap fun r=>acc.map fun c=>c++[r]) [[]]
theorem fB (rs:List (Addr×Row)) (O:List Str) (x:Str):chA rs (O++[x])=(rs.filter fun r=>decide (r.2.2.2=x)).flatMap fun r=>(chA rs O).map fun c=>c++[r]:=by
 unfold chA
 rw [List.foldl_append]
 rfl
theorem sv (rs:List (Addr×Row)):∀O,(chA rs O).map (fun c=>c.map (·.2))=chl (rs.map (·.2)) O:=by
 refine snoc_ind rfl fun O x ih=>?_
 rw [fB,dw,<- ih,List.map_flatMap,List.filter_map,List.flatMap_map]
 congr 1
 funext r
 simp [List.map_map,Function.comp_def]
theorem qt (rs:List (Addr×Row)) (n:Nat) (hn:rs.length<=n):∀O,(chA rs O).length<=n ^ O.length:=by
 refine snoc_ind (Nat.le_refl _) fun O x ih=>?_
 rw [fB,fw _ _ (chA rs O).length (fun x _=>by simp),List.length_append,List.length_singleton,Nat.pow_succ,Nat.mul_comm]
 exact Nat.mul_le_mul ih (Nat.le_trans (List.length_filter_le _ _) hn)
theorem kY (rs:List (Addr×Row)):∀O,∀c∈chA rs O,c.length=O.length/\∀r∈c,r∈rs:=by
 refine snoc_ind (fun c hc=>?_) fun O x ih c hc=>?_
 ·have e:c=[]:=by simpa [chA] using hc
  subst e
  exact⟨rfl,by simp⟩
 ·rw [fB] at hc
  obtain⟨r,hr,hc⟩:=List.mem_flatMap.mp hc
  obtain⟨d,hd,rfl⟩:=List.mem_map.mp hc
  obtain⟨h1,h2⟩:=ih d hd
  refine⟨by simp [h1],fun q hq=>?_⟩
  rcases List.mem_append.mp hq with z | z
  ·exact h2 q z
  ·rw [List.mem_singleton.mp z];exact (List.mem_filter.mp hr).1
theorem nR {ps:List Str}{root x:Str}{i:Nat} (h:ps[i]?=some x):others (ps.take (i + 1)) root=others (ps.take i) root++if x=root then [] else [x]:=by
 unfold others
 rw [cS _ _ _ _ h]
 congr 1
 by_cases c:x=root <;> simp [c]
section
variable {P:Program}{w:World}{K:PySem.W.Frag}{mg:Str->Option Value}{base:Heap}
noncomputable def jq:Sp:=fun vs H Q _=>∃(v pa ra:Addr) (root:Str) (ps:List Str) (rs:List (Addr×Row)),vs=[.ref v,.str root]/\bH H v pa ra ps rs/\ps.Nodup/\ps.length<=5/\rs.length<=10/\root∈ps /\
 ∀(fo:Addr) (found:List Ch) (H':Hp),ae H H'->H' fo=some (.lst (bg found))->found.map (·.2)=chA rs (others ps root)->bW H' found->Q (.ref fo) H'
noncomputable abbrev N33:List Str:=["_law_web_here","_law_root","_law_found","_law_place","_law_longer","_law_row"]
theorem eo:aQ N33 ["_law_web_here","_law_root"] (aC (top 33)):=⟨rfl,rfl,rfl,by decide +kernel,rfl,by decide +kernel,by decide +kernel⟩
theorem oC {f:Addr}{fd:FuncData} (F:Fun K "_law_choices" "_law_choices" (top 33) f fd) (B:Bl mg):aG P w K mg base CX0 1 f fd ["_law_web_here","_law_root"] jq:=by
 refine F.ok eo (fun vs H Q E h=>?_) (fun cdv A outer s H vs Q E hr h=>?_)
 ·obtain⟨v,pa,ra,root,ps,rs,rfl,_⟩:=h
  rfl
 ·obtain⟨v,pa,ra,root,ps,rs,rfl,W,pnd,p5,r10,hroot,k⟩:=h
  refine⟨_,ao (aE (i:=2) eo.nd rfl (Or.inl rfl) (bL (aa (bz ag) ag)))
   (ao (b9 PassesOwn.never rfl (bP (ax aP (pv 0) ai (fun _ _=>rfl))) (be (i:=3) eo.nd rfl (Or.inl rfl))
    (ar (aY (aV bI (pv 3) (pv 1) (aN _))
     (ao (aE (i:=4) eo.nd rfl (Or.inl rfl) (bL ag))
     (ao (b9 PassesOwn.never rfl (bP (ax aP (pv 0) ai (fun _ _=>rfl))) (be (i:=5) eo.nd rfl (Or.inr rfl))
      (ar (aY (aV cO (ax aP (pv 5) ai (fun _ _=>rfl)) (pv 3) (aN _))
       (ar (cw (cy PySem.F.plainAttrs_list PySem.F.slot_list_extend PySem.F.type_list_extend oP (pv 4) (aa (bC (N:=["_law_choice","_law_row"]) (ix:=[none,some 5]) ⟨rfl,rfl,rfl,by decide⟩ rfl (cv (pv 2)) (fun _ _ _ _=>aW 0 (by decide) rfl rfl) (fun _ _ _ _=>bw) (fun _ _ _ _=>aH (qd K) (pv 0) (bz (aa (pv 1) ag)))) ag)))) a9)))
     (ar (aE (i:=2) eo.nd rfl (Or.inl rfl) (pv 4))))) a9)))
   (ar (aO (pv 2)))),?_⟩
  have o4:(others ps root).length<=4:=by
   have q:(others ps root).length < ps.length:=List.length_filter_lt_length_iff_exists.mpr ⟨root,hroot,by simp⟩
   omega
  refine⟨Nat.zero_le _,fun d0 hd0=>?_⟩
  have s1:=am (o:=.tup []) (ae.refl H) hd0
  have d1:upd H d0 (.tup []) d0=some (.tup []):=ah
  generalize upd H d0 (.tup [])=H1 at s1 d1 ⊢
  refine⟨by show 1<=sizeLine;decide,fun f0 hf0=>?_⟩
  have s2':=am (o:=.lst [.ref d0]) (ae.refl H1) hf0
  have s2:=s1.trans s2'
  have d2:=s2' _ _ d1
  have f2:upd H1 f0 (.lst [.ref d0]) f0=some (.lst (bg [(d0,[])])):=ah
  have f00:H f0=none:=s1.free hf0
  generalize upd H1 f0 (.lst [.ref d0])=H2 at s2 s2' d2 f2 ⊢
  have W2:=W.same s2
  refine⟨_,rfl,ay (j:=0) (.inr (SqT.of W2.tp)) rfl rfl ⟨pa,rfl,⟨_,SqT.of W2.pl⟩,?_⟩⟩
  refine dG (K:=K) (a:=pa) (xs:=ps.map V.str) (fun i σ Hx=>∃(fo:Addr) (found:List Ch) (g3 g4 g5:Option V),σ=[some (.ref v),some (.str root),some (.ref fo),g3,g4,g5]/\ae H Hx/\H fo=none/\Hx fo=some (.lst (bg found))/\found.map (·.2)=chA rs (others (ps.take i) root)/\bW Hx found)
   ⟨f0,[(d0,[])],_,_,_,rfl,s2,f00,f2,rfl,fun d hd=>?_⟩ (fun i σ Hx _ z=>by obtain⟨_,_,_,_,_,_,z,_⟩:=z;exact SqT.of (z _ _ W.pl)) ?_ ?_
  ·have e:d=(d0,[]):=by simpa using hd
   subst e
   exact d2
  ·rintro i x σ Hx hx ⟨fo,found,g3,g4,g5,rfl,sx,fo0,fx,fm,fd⟩
   rw [List.getElem?_map] at hx
   obtain⟨z,hz,rfl⟩:∃z,ps[i]?=some z/\x=.str z:=by
    cases e:ps[i]? with
    | none=>rw [e] at hx;cases hx
    | some z=>rw [e] at hx;cases hx;exact⟨z,rfl,rfl⟩
   have osu:=nR (root:=root) hz
   have oss:(others (ps.take (i + 1)) root).length<=(others ps root).length:=((List.take_sublist _ _).filter _).length_le
   refine⟨_,rfl,_,rfl,rfl,_,rfl,?_⟩
   have e:(!decide (V.str z=V.str root))=!decide (z=root):=by simp
   rw [e]
   refine bj (fun c=>?_) (fun c=>?_)
   ·have zr:z≠root:=by simpa using c
    rw [if_neg zr] at osu
    have hOl:(others (ps.take i) root).length<=3:=by rw [osu] at oss;simp at oss;omega
    have fl:found.length<=10 ^ 3:=by
     have h1:=congrArg List.length fm
     rw [List.length_map] at h1
     rw [h1]
     exact Nat.le_trans (qt _ 10 r10 _) (Nat.pow_le_pow_right (by decide) hOl)
    have flen:∀d∈found,d.2.length<=3:=fun d hd=>by
     have:=(kY rs _ d.2 (by rw [<- fm];exact List.mem_map_of_mem hd)).1
     omega
    refine⟨Nat.zero_le _,fun lo hlo=>?_⟩
    have lo0:H lo=none:=sx.free hlo
    have nfl:fo≠lo:=aI fx hlo
    have s3:=am (o:=.lst []) (ae.refl Hx) hlo
    have l3:upd Hx lo (.lst []) lo=some (.lst (bg [])):=ah
    generalize upd Hx lo (.lst [])=H3 at s3 l3 ⊢
    have W3:=W.same (sx.trans s3)
    refine⟨_,rfl,ay (j:=1) (.inr (SqT.of W3.tp)) rfl rfl ⟨ra,rfl,⟨_,SqT.of W3.rl⟩,?_⟩⟩
    refine dG (K:=K) (a:=ra) (xs:=aq rs) (fun m σ Hy=>∃(lg:List Ch) (g5:Option V),σ=[some (.ref v),some (.str root),some (.ref fo),some (.str z),some (.ref lo),g5]/\ae H Hy/\Hy fo=some (.lst (bg found))/\bW Hy found/\Hy lo=some (.lst (bg lg))/\bW Hy lg /\
      lg.map (·.2)=((rs.take m).filter fun r=>decide (r.2.2.2=z)).flatMap fun r=>(found.map (·.2)).map fun c=>c++[r])
     ⟨[],_,rfl,sx.trans s3,s3 _ _ fx,fd.same s3,l3,(fun x hx=>nomatch hx),by simp⟩ (fun m σ Hy _ z=>by obtain⟨_,_,_,z,_⟩:=z;exact SqT.of (z _ _ W.rl)) ?_ ?_
    ·rintro m x σ Hy hx ⟨lg,g5,rfl,sy,fy,fdy,ly,ldy,lm⟩
     obtain⟨r,hr',rfl⟩:=cq hx
     have hml:m < rs.length:=(List.getElem?_eq_some_iff.mp hr').1
     have r3:=sy _ _ (W.rows r (List.mem_of_getElem? hr'))
     have tsu:=cS (fun r:Addr×Row=>decide (r.2.2.2=z)) rs m r hr'
     have lgl:lg.length<=10 * 10 ^ 3:=by
      have h1:=congrArg List.length lm
      rw [List.length_map,fw _ _ found.length (fun x _=>by simp)] at h1
      rw [h1]
      exact Nat.mul_le_mul (Nat.le_trans (List.length_filter_le _ _) (by rw [List.length_take];omega)) fl
     refine⟨_,rfl,ay (j:=2) (.inr (SqT.of r3)) rfl rfl ⟨_,rfl,rfl,_,rfl,?_⟩⟩
     have e:decide (V.str r.2.2.2=V.str z)=decide (r.2.2.2=z):=by simp
     rw [e]
     refine bj (fun c=>?_) (fun c=>?_)
     ·rw [if_pos c] at tsu
      refine⟨_,rfl,.inl ⟨rfl,_,SqL.of ly⟩,_,rfl,fo,rfl,⟨_,SqL.of fy⟩,?_⟩
      refine gz (K:=K) (a:=fo) (xs:=bg found) (fits (by simp;omega)) (fun t ys σ Hz=>(∃nw:List Ch,ys=bg nw/\bW Hz nw/\nw.map (·.2)=((found.map (·.2)).take t).map fun c=>c++[r])/\ae Hy Hz/\∃g,σ=[g,some (.ref r.1)])
       ⟨⟨[],rfl,(fun x hx=>nomatch hx),by simp⟩,ae.refl _,_,rfl⟩ (fun t ys σ Hz ht q=>by
        obtain⟨⟨nw,rfl,_,e⟩,s,_⟩:=q
        have:=congrArg List.length e
        simp at this
        exact⟨by simp;omega,SqL.of (s _ _ fy)⟩) ?_ ?_
      ·rintro t x ys σ Hz hx ⟨⟨nw,rfl,hN,e⟩,sz,g,rfl⟩
       rw [List.getElem?_map] at hx
       obtain⟨d,hd,rfl⟩:∃d,found[t]?=some d/\x=.ref d.1:=by
        cases e:found[t]? with
        | none=>rw [e] at hx;cases hx
        | some d=>rw [e] at hx;cases hx;exact⟨d,rfl,rfl⟩
       have hdm:=List.mem_of_getElem? hd
       have dz:=sz _ _ (fdy d hdm)
       have ex:((found.map (·.2)).take (t + 1)).map (fun c=>c++[r])=((found.map (·.2)).take t).map (fun c=>c++[r])++[d.2++[r]]:=by
        rw [List.take_add_one,List.getElem?_map,hd];simp
       have put:∀(q:Addr) (Hw:Hp),ae Hz Hw->Hw q=some (.tup (aq (d.2++[r])))->(∃nw':List Ch,bg nw++[V.ref q]=bg nw'/\bW Hw nw'/\nw'.map (·.2)=((found.map (·.2)).take (t + 1)).map fun c=>c++[r]):=fun q Hw sw hq =>
        ⟨nw++[(q,d.2++[r])],by simp,fun x hx=>by
         rcases List.mem_append.mp hx with y | y
         ·exact sw _ _ (hN x y)
         ·rw [List.mem_singleton.mp y];exact hq,by rw [List.map_append,e,ex];rfl⟩
       refine⟨_,rfl,_,rfl,by show 1<=sizeLine;decide,fun n hn=>?_⟩
       have s4:=am (o:=.tup [.ref r.1]) (ae.refl Hz) hn
       have n4:upd Hz n (.tup [.ref r.1]) n=some (.tup [.ref r.1]):=ah
       generalize upd Hz n (.tup [.ref r.1])=H4 at s4 n4 ⊢
       refine⟨d.1,n,aq d.2,[.ref r.1],rfl,rfl,SqT.of (s4 _ _ dz),SqT.of n4,by have:=flen d hdm;simp;rw [sizeLine_eq];omega,fun e0=>?_,(fun e0=>nomatch e0),fun p hp=>?_⟩
       ·have e1:d.2=[]:=by simpa using e0
        exact⟨put n _ s4 (by rw [e1];exact n4),sz.trans s4,_,rfl⟩
       ·have s5:=am (o:=.tup (aq d.2++[.ref r.1])) s4 hp
        exact⟨put p _ s5 (by rw [ah];simp),sz.trans s5,_,rfl⟩
      ·rintro ys σ Hz ⟨⟨nw,rfl,hN,e⟩,sz,g,rfl⟩ q hq
       rw [List.take_of_length_le (by simp)] at e
       have nl:nw.length=found.length:=by have:=congrArg List.length e;simpa using this
       have s4:=am (o:=.lst (bg nw)) sz hq
       have q4:upd Hz q (.lst (bg nw)) q=some (.lst (bg nw)):=ah
       have N4:=hN.same (am (o:=.lst (bg nw)) (ae.refl Hz) hq)
       generalize upd Hz q (.lst (bg nw))=H4 at s4 q4 N4 ⊢
       have l4:=s4 _ _ ly
       refine⟨lo,q,_,_,rfl,rfl,l4,q4,by simp;rw [sizeLine_eq];omega,?_⟩
       have keep:∀cs:List Ch,bW H4 cs->bW (upd H4 lo (.lst (bg lg++bg nw))) cs:=fun cs hc x hx=>by
        rw [aj (tup_ne (hc x hx) l4)];exact hc x hx
       refine⟨lg++nw,_,rfl,ae.upd0 (sy.trans s4) lo0,by rw [aj nfl];exact s4 _ _ fy,keep _ (fdy.same s4),by rw [ah];simp,fun x hx=>?_,?_⟩
       ·rcases List.mem_append.mp hx with y | y
        ·exact keep _ (ldy.same s4) x y
        ·exact keep _ N4 x y
       ·rw [List.map_append,lm,e,tsu,List.flatMap_append];simp
     ·rw [if_neg c] at tsu
      exact⟨lg,_,rfl,sy,fy,fdy,ly,ldy,by rw [lm,tsu];simp⟩
    ·rintro σ Hy ⟨lg,g5,rfl,sy,fy,fdy,ly,ldy,lm⟩
     rw [take_all rs (by simp)] at lm
     exact⟨_,rfl,lo,lg,_,_,_,rfl,sy,lo0,ly,by rw [lm,osu,fB,fm],ldy⟩
   ·rw [if_pos (by simpa using c)] at osu
    exact⟨fo,found,_,_,_,rfl,sx,fo0,fx,by rw [fm,osu];simp,fd⟩
  ·rintro σ Hx ⟨fo,found,g3,g4,g5,rfl,sx,fo0,fx,fm,fd⟩
   rw [take_all ps (by simp)] at fm
   exact⟨_,rfl,k fo found Hx sx fx fm fd⟩
end
noncomputable def rnd (K:List Str) (r:Row):List Str:=if r.2.1∈K/\r.2.2∉K then K++[r.2.2] else K
noncomputable def bQ (c:List Row) (K:List Str):List Str:=c.foldl rnd K
structure Ik (O:List Str) (root:Str) (c:List Row) (K:List Str):Prop where
 nd:K.Nodup
 hd:K[0]?=some root
 st:∀j x,K[j]?=some x->j=0\/(x∈O/\∃i,i < j/\K[i]?=some (stp O root (c.map (·.2.1)) x))
theorem fQ:∀{a b:List Str},a.Nodup->(∀x∈a,x∈b)->a.length<=b.length
 | [],_,_,_=>Nat.zero_le _
 | x::a,b,hn,hs=>by
  obtain⟨h1,h2⟩:=List.nodup_cons.mp hn
  have hx:=hs x List.mem_cons_self
  have ih:=fQ (a:=a) (b:=b.erase x) h2 (fun y hy=>(List.mem_erase_of_ne (a:=y) (b:=x) (fun z:y=x=>h1 (z ▸ hy))).mpr (hs y (List.mem_cons_of_mem _ hy)))
  rw [List.length_erase_of_mem hx] at ih
  have:=List.length_pos_of_mem hx
  simp
  omega
theorem tR {a b:List Str} (hn:a.Nodup) (hs:∀x∈a,x∈b) (hb:b.Nodup) (hl:b.length<=a.length):∀x∈b,x∈a:=fun x hx=>by
 by_cases c:x∈a
 ·exact c
 ·have:=fQ (a:=x::a) (b:=b) (List.nodup_cons.mpr ⟨c,hn⟩) (fun y hy=>by
   rcases List.mem_cons.mp hy with z | z
   ·rw [z];exact hx
   ·exact hs y z)
  simp at this
  omega
section
variable {O:List Str}{root:Str}{c:List Row}
theorem lj (ond:O.Nodup) (hO:root∉O) (hc:c.map (·.2.2)=O) {r:Row} (hr:r∈c):r.2.2∈O/\stp O root (c.map (·.2.1)) r.2.2=r.2.1:=by
 obtain⟨k,hk⟩:=List.getElem?_of_mem hr
 have h1:O[k]?=some r.2.2:=by rw [<- hc,List.getElem?_map,hk];rfl
 have hm:r.2.2∈O:=List.mem_of_getElem? h1
 refine⟨hm,?_⟩
 unfold stp
 rw [if_neg (show ¬ r.2.2=root from fun z=>hO (z ▸ hm)),eG ond h1,List.getElem?_map,hk]
 rfl
theorem Ik.rnd (ond:O.Nodup) (hO:root∉O) (hc:c.map (·.2.2)=O) {K:List Str} (I:Ik O root c K) {r:Row} (hr:r∈c):Ik O root c (rnd K r):=by
 unfold K83.rnd
 by_cases h:r.2.1∈K/\r.2.2∉K
 ·rw [if_pos h]
  obtain⟨h1,h2⟩:=h
  obtain⟨h3,h4⟩:=lj ond hO hc hr
  have hl:0 < K.length:=(List.getElem?_eq_some_iff.mp I.hd).1
  refine⟨?_,by rw [List.getElem?_append_left hl];exact I.hd,fun j x hj=>?_⟩
  ·rw [List.nodup_append]
   exact⟨I.nd,by simp,fun a ha b hb e=>h2 (by rw [<- List.mem_singleton.mp hb,<- e];exact ha)⟩
  ·by_cases hjl:j < K.length
   ·rw [List.getElem?_append_left hjl] at hj
    refine (I.st j x hj).imp id fun ⟨a,i,hi,e⟩=>⟨a,i,hi,by rw [List.getElem?_append_left (by omega)];exact e⟩
   ·rw [List.getElem?_append_right (by omega)] at hj
    have hj0:j - K.length=0:=by
     have:=(List.getElem?_eq_some_iff.mp hj).1
     simp at this
     omega
    rw [hj0] at hj
    have e:r.2.2=x:=by simpa using hj
    subst e
    obtain⟨i,hi⟩:=List.getElem?_of_mem h1
    have hil:=(List.getElem?_eq_some_iff.mp hi).1
    exact .inr ⟨h3,i,by omega,by rw [List.getElem?_append_left hil,h4];exact hi⟩
 ·rw [if_neg h];exact I
theorem kF {K:List Str}{r:Row}:∀x∈K,x∈rnd K r:=fun x hx=>by
 unfold rnd
 split
 ·exact List.mem_append_left _ hx
 ·exact hx
theorem ug {K:List Str}{r:Row} (h:r.2.1∈K):r.2.2∈rnd K r:=by
 unfold rnd
 by_cases h2:r.2.2∈K
 ·rw [if_neg (fun z=>z.2 h2)];exact h2
 ·rw [if_pos ⟨h,h2⟩];simp
theorem kZ (ond:O.Nodup) (hO:root∉O) (hc:c.map (·.2.2)=O):∀(l:List Row) (K:List Str),(∀r∈l,r∈c)->Ik O root c K->Ik O root c (bQ l K)/\(∀x∈K,x∈bQ l K)/\∀r∈l,r.2.1∈K->r.2.2∈bQ l K
 | [],K,_,I=>⟨I,fun x hx=>hx,by simp⟩
 | r::l,K,hl,I=>by
  have hr:=hl r List.mem_cons_self
  obtain⟨h1,h2,h3⟩:=kZ ond hO hc l (rnd K r) (fun q hq=>hl q (List.mem_cons_of_mem _ hq)) (I.rnd ond hO hc hr)
  refine⟨h1,fun x hx=>h2 x (kF x hx),fun q hq hk=>?_⟩
  rcases List.mem_cons.mp hq with rfl | hq
  ·exact h2 _ (ug hk)
  ·exact h3 q hq (kF _ hk)
noncomputable def rrs (root:Str) (c:List Row):Nat->List Str
 | 0=>[root]
 | n + 1=>bQ c (rrs root c n)
theorem fD {cs:List Str}:∀k x,wlk O root cs (k + 1) x=wlk O root cs k (stp O root cs x)
 | 0,x=>rfl
 | k + 1,x=>by
  rw [wlk,fD k x];rfl
theorem gK {cs:List Str}{x:Str}{k:Nat} (h:wlk O root cs k x=root):∀m,wlk O root cs (k + m) x=root
 | 0=>h
 | m + 1=>by
  show stp O root cs (wlk O root cs (k + m) x)=root
  rw [gK h m];simp [stp]
theorem Ik.walk {K:List Str} (I:Ik O root c K):∀(n j:Nat),j < n->∀x,K[j]?=some x->wlk O root (c.map (·.2.1)) j x=root
 | 0,j,h,_,_=>absurd h (Nat.not_lt_zero _)
 | n + 1,j,h,x,hx=>by
  rcases I.st j x hx with rfl | ⟨hO,i,hi,e⟩
  ·rw [I.hd] at hx
   exact (Option.some.inj hx).symm
  ·have:=I.walk n i (by omega) _ e
   rw [<- fD] at this
   have h2:=gK this (j - (i + 1))
   rwa [show i + 1 + (j - (i + 1))=j by omega] at h2
theorem Ik.inn {K:List Str} (I:Ik O root c K) {x:Str} (hx:x∈K):In O root x:=by
 obtain⟨j,hj⟩:=List.getElem?_of_mem hx
 rcases I.st j x hj with rfl | ⟨h,_⟩
 ·rw [I.hd] at hj
  exact .inl (Option.some.inj hj).symm
 ·exact .inr h
theorem lJ (ond:O.Nodup) (hO:root∉O) (hc:c.map (·.2.2)=O):∀n,Ik O root c (rrs root c n)/\∀x,In O root x->wlk O root (c.map (·.2.1)) n x=root->x∈rrs root c n
 | 0=>⟨⟨by simp [rrs],rfl,fun j x hj=>.inl (by have:=(List.getElem?_eq_some_iff.mp hj).1;simp [rrs] at this;exact this)⟩,fun x _ h=>by simp [rrs];exact h⟩
 | n + 1=>by
  obtain⟨h1,h2⟩:=lJ ond hO hc n
  obtain⟨h3,h4,h5⟩:=kZ ond hO hc c _ (fun r hr=>hr) h1
  refine⟨h3,fun x hx hw=>?_⟩
  rcases hx with rfl | hx
  ·exact h4 _ (List.mem_of_getElem? h1.hd)
  ·rw [<- hc] at hx
   obtain⟨r,hr,rfl⟩:=List.mem_map.mp hx
   obtain⟨h6,h7⟩:=lj ond hO hc hr
   rw [fD,h7] at hw
   by_cases hin:In O root r.2.1
   ·exact h5 r hr (h2 _ hin hw)
   ·exfalso
    refine hin ?_
    have:∀m (y:Str),¬ In O root y->wlk O root (c.map (·.2.1)) m y=root->False:=fun m=>by
     induction m with
     | zero=>exact fun y hy hw=>hy (.inl hw)
     | succ m ih =>
      intro y hy hw
      rw [fD] at hw
      have e:stp O root (c.map (·.2.1)) y=y:=by
       unfold stp
       rw [if_neg (show ¬ y=root from fun z=>hy (.inl z)),List.getElem?_eq_none]
       ·rfl
       ·have hl:c.length=O.length:=by rw [<- hc];simp
        have:ixo O y=O.length:=List.idxOf_eq_length (fun z=>hy (.inr z))
        rw [List.length_map];omega
      rw [e] at hw
      exact ih y hy hw
    exact absurd hw fun z=>this n _ hin z
theorem uh (ond:O.Nodup) (hO:root∉O) (hc:c.map (·.2.2)=O) {ps:List Str} (hp:∀x,x∈ps ↔ In O root x):decide ((rrs root c c.length).length=c.length + 1)=di ps O root (c.map (·.2.1)):=by
 obtain⟨h1,h2⟩:=lJ ond hO hc c.length
 have hl:c.length=O.length:=by rw [<- hc];simp
 have fnd:(root::O).Nodup:=List.nodup_cons.mpr ⟨hO,ond⟩
 have sub:∀x∈rrs root c c.length,x∈root::O:=fun x hx=>by
  rcases h1.inn hx with z | z
  ·rw [z];simp
  ·exact List.mem_cons_of_mem _ z
 have le:=fQ h1.nd sub
 rw [List.length_cons] at le
 rw [Bool.eq_iff_iff,decide_eq_true_iff]
 unfold di
 rw [List.all_eq_true]
 constructor
 ·intro e x hx
  have hx':x∈root::O:=by
   rcases (hp x).mp hx with z | z
   ·rw [z];simp
   ·exact List.mem_cons_of_mem _ z
  have hm:=tR h1.nd sub fnd (by rw [List.length_cons];omega) x hx'
  obtain⟨j,hj⟩:=List.getElem?_of_mem hm
  have hjl:=(List.getElem?_eq_some_iff.mp hj).1
  have hw:=h1.walk (j + 1) j (by omega) x hj
  have h3:=gK hw (O.length - j)
  rw [show j + (O.length - j)=O.length by omega] at h3
  exact decide_eq_true h3
 ·intro h
  have all:∀x∈root::O,x∈rrs root c c.length:=fun x hx=>by
   have hin:In O root x:=by
    rcases List.mem_cons.mp hx with z | z
    ·exact .inl z
    ·exact .inr z
   refine h2 x hin ?_
   rw [hl]
   exact of_decide_eq_true (h x ((hp x).mpr hin))
  have:=fQ fnd all
  rw [List.length_cons] at this
  omega
end
noncomputable abbrev kvB (ds:List Str):List (Key×V):=ds.map fun x=>((Sum.inr x:Key),V.bl true)
theorem fH (x:Str):∀ds:List Str,bc (kvB ds) (Sum.inr x)=if x∈ds then some (.bl true) else none
 | []=>rfl
 | y::r=>by
  show bc ((Sum.inr y,V.bl true)::kvB r) (Sum.inr x)=_
  by_cases e:y=x
  ·subst e
   rw [bU rfl,if_pos List.mem_cons_self]
  ·rw [bT (fun z=>e (Sum.inr.inj z)),fH x r]
   by_cases c:x∈r
   ·rw [if_pos c,if_pos (List.mem_cons_of_mem _ c)]
   ·rw [if_neg c,if_neg fun z=>(List.mem_cons.mp z).elim (fun q=>e q.symm) c]
theorem qO (x:Str) (ds:List Str):putK (kvB ds) (Sum.inr x) (.bl true)=kvB (if x∈ds then ds else ds++[x]):=by
 by_cases c:x∈ds
 ·rw [if_pos c]
  unfold putK
  rw [dr,fH,if_pos c]
  show (if true=true then _ else _)=_
  rw [if_pos rfl]
  refine (List.map_congr_left fun kv hkv=>?_).trans (List.map_id _)
  obtain⟨y,_,rfl⟩:=List.mem_map.mp hkv
  by_cases e:(Sum.inr y:Key)=Sum.inr x
  ·rw [if_pos e];rfl
  ·rw [if_neg e];rfl
 ·rw [if_neg c,K83.ql (by rw [fH,if_neg c])]
  simp [kvB]
theorem gY (c:List Row):∀(l:List Row) (K:List Str),(bQ l K).length<=K.length + l.length
 | [],K=>by simp [bQ]
 | r::l,K=>by
  have h:=gY c l (rnd K r)
  have h2:(rnd K r).length<=K.length + 1:=by unfold rnd;split <;> simp
  show (bQ l (rnd K r)).length<=_
  rw [List.length_cons]
  omega
theorem kB (root:Str) (c:List Row):∀n,(rrs root c n).length<=1 + n * c.length
 | 0=>by simp [rrs]
 | n + 1=>by
  have h1:=kB root c n
  have h2:=gY c c (rrs root c n)
  show (bQ c (rrs root c n)).length<=_
  rw [Nat.succ_mul]
  omega
theorem oW {c:List Row}{K:List Str}{m:Nat}{r:Row} (h:c[m]?=some r):bQ (c.take (m + 1)) K=rnd (bQ (c.take m) K) r:=by
 unfold bQ
 rw [List.take_add_one,h,List.foldl_append]
 rfl
section
variable {P:Program}{w:World}{K:PySem.W.Frag}{mg:Str->Option Value}{base:Heap}
noncomputable def mm:Sp:=fun vs H Q _=>∃(ca:Addr) (root:Str) (c:List (Addr×Row)),vs=[.ref ca,.str root]/\H ca=some (.tup (aq c))/\(∀r∈c,bh H r.1 r.2)/\c.length<=5 /\
 ∀H',ae H H'->Q (.bl (decide ((rrs root (c.map (·.2)) c.length).length=c.length + 1))) H'
noncomputable abbrev N34:List Str:=["_law_choice","_law_root","_law_there","_law_turn","_law_tie","_law_begin","_law_end"]
theorem eg:aQ N34 ["_law_choice","_law_root"] (aC (top 34)):=⟨rfl,rfl,rfl,by decide +kernel,rfl,by decide +kernel,by decide +kernel⟩
theorem sX {f:Addr}{fd:FuncData} (F:Fun K "_law_is_tree" "_law_is_tree" (top 34) f fd) (B:Bl mg):aG P w K mg base CX0 1 f fd ["_law_choice","_law_root"] mm:=by
 refine F.ok eg (fun vs H Q E h=>?_) (fun cdv A outer s H vs Q E hr h=>?_)
 ·obtain⟨ca,root,c,rfl,_⟩:=h
  rfl
 ·obtain⟨ca,root,c,rfl,hca,hrow,c5,k⟩:=h
  refine⟨_,ao (aE (i:=2) eg.nd rfl (Or.inl rfl) (rJ (pZ (pv 1) df si) rfl rfl (by simp) (by decide)))
   (ao (b9 PassesOwn.never rfl (bP (pv 0)) (be (i:=3) eg.nd rfl (Or.inl rfl)) (ar (b9 PassesOwn.never rfl (bP (pv 0)) (cM rfl (n:=3) (aU (be (i:=4) eg.nd rfl (Or.inl rfl)) (aU (be (i:=5) eg.nd rfl (Or.inl rfl)) (aU (be (i:=6) eg.nd rfl (Or.inl rfl)) bO))))
     (ar (aY (sS (ue (dX hr) (pv 5) (pv 2)) (by with_unfolding_all rfl)) (ar (rH (dX hr) (pv 2) (pv 6) df rfl)) a9)))))
   (ar (aO (dE cO (aD pB rfl B.len PySem.boot_len (aa (pv 2) ag)) (aH cL (aD bA rfl B.len PySem.boot_len (aa (pv 0) ag)) ai) (aN _))))),?_⟩
  intro D hD
  refine⟨_,rfl,ah,[(.inr root,.bl true)],rfl,by simp,?_⟩
  have s1:ae H (upd (upd H D (.dK [])) D (.dK (cK [] [(.inr root,.bl true)]))):=ae.upd0 (am (ae.refl H) hD) hD
  have d1:upd (upd H D (.dK [])) D (.dK (cK [] [(.inr root,.bl true)])) D=some (.dK (kvB (rrs root (c.map (·.2)) 0))):=ah
  generalize upd (upd H D (.dK [])) D (.dK (cK [] [(.inr root,.bl true)]))=H1 at s1 d1 ⊢
  refine⟨_,rfl,ca,rfl,⟨_,SqT.of (s1 _ _ hca)⟩,dG (K:=K) (a:=ca) (xs:=aq c) (fun i σ H2=>ae H H2/\H2 D=some (.dK (kvB (rrs root (c.map (·.2)) i)))/\∃g3 g4 g5 g6,σ=[some (.ref ca),some (.str root),some (.ref D),g3,g4,g5,g6])
   ⟨s1,d1,_,_,_,_,rfl⟩ (fun i σ H2 _ z=>SqT.of (z.1 _ _ hca)) ?_ ?_⟩
  ·rintro i x σ H2 hx ⟨s2,d2,g3,g4,g5,g6,rfl⟩
   have hi:i < c.length:=by have:=(List.getElem?_eq_some_iff.mp hx).1;simpa using this
   have hl:=kB root (c.map (·.2)) i
   have hl2:(rrs root (c.map (·.2)) i).length<=100:=Nat.le_trans hl (by
    rw [List.length_map]
    have:=Nat.mul_le_mul (Nat.le_of_lt hi) (Nat.le_refl c.length)
    have h2:=Nat.mul_le_mul c5 c5
    omega)
   refine⟨_,rfl,ca,rfl,⟨_,SqT.of (s2 _ _ hca)⟩,dG (K:=K) (a:=ca) (xs:=aq c) (fun m σ H3=>ae H H3/\H3 D=some (.dK (kvB (bQ ((c.map (·.2)).take m) (rrs root (c.map (·.2)) i))))/\∃g3 g4 g5 g6,σ=[some (.ref ca),some (.str root),some (.ref D),g3,g4,g5,g6])
    ⟨s2,d2,_,_,_,_,rfl⟩ (fun i σ H2 _ z=>SqT.of (z.1 _ _ hca)) ?_ ?_⟩
   ·rintro m x σ H3 hx ⟨s3,d3,g3,g4,g5,g6,rfl⟩
    obtain⟨r,hr',rfl⟩:=cq hx
    have r3:=s3 _ _ (hrow r (List.mem_of_getElem? hr'))
    have hm:(c.map (·.2))[m]?=some r.2:=by rw [List.getElem?_map,hr'];rfl
    have rt:=oW (K:=rrs root (c.map (·.2)) i) hm
    have hl3:=gY (c.map (·.2)) ((c.map (·.2)).take m) (rrs root (c.map (·.2)) i)
    have hl4:((c.map (·.2)).take m).length<=5:=by rw [List.length_take,List.length_map];omega
    generalize bQ ((c.map (·.2)).take m) (rrs root (c.map (·.2)) i)=Kk at d3 rt hl3
    refine⟨r.1,_,rfl,SqT.of r3,rfl,_,_,rfl,_,_,rfl,_,_,rfl,rfl,?_⟩
    refine⟨_,rfl,_,rfl,D,_,rfl,.inl ⟨_,.inr r.2.2.1,.inl d3,rfl,rfl⟩,_,rfl,?_⟩
    rw [fH]
    by_cases hk:r.2.2.1∈Kk
    ·rw [if_pos hk]
     refine bJ ⟨_,rfl,_,rfl,D,_,rfl,.inl ⟨_,.inr r.2.2.2,d3,rfl,fits (by simp;omega),rfl⟩,?_⟩
     rw [qO]
     refine⟨ae.upd0 s3 hD,?_,_,_,_,_,rfl⟩
     rw [ah,rt]
     unfold rnd
     by_cases hk2:r.2.2.2∈Kk <;> simp [hk,hk2]
    ·rw [if_neg hk]
     refine bE ⟨s3,?_,_,_,_,_,rfl⟩
     rw [d3,rt]
     unfold rnd
     simp [hk]
   ·rintro σ H3 ⟨s3,d3,g3,g4,g5,g6,rfl⟩
    rw [List.take_of_length_le (by simp)] at d3
    exact⟨s3,d3,_,_,_,_,rfl⟩
  ·rintro σ H2 ⟨s2,d2,g3,g4,g5,g6,rfl⟩
   rw [List.length_map] at d2
   refine⟨_,rfl,D,_,rfl,d2,_,rfl,ca,_,rfl,.inr (SqT.of (s2 _ _ hca)),_,_,rfl,rfl,rfl,?_⟩
   have e:decide (V.int ((kvB (rrs root (c.map (·.2)) c.length)).length:Int)=V.int (((aq c).length:Int) + 1))=decide ((rrs root (c.map (·.2)) c.length).length=c.length + 1):=by
    rw [Bool.eq_iff_iff,decide_eq_true_iff,decide_eq_true_iff,List.length_map,List.length_map]
    constructor
    ·intro z
     have:=V.int.inj z
     omega
    ·intro z
     rw [z];rfl
   rw [e]
   exact k H2 s2
end
noncomputable def fN (rs c:List Row):List Str:=aw (rs.filter fun r=>decide (r∈c))
theorem mJ {rs:List Row} (hs:(aw rs).Pairwise nlt) (c:List Row):(fN rs c).Pairwise nlt:=(List.filter_sublist).map _ |> fun s=>hs.sublist s
theorem eP {rs c:List Row} (hc:∀r∈c,r∈rs) (x:Str):x∈fN rs c ↔ x∈aw c:=by
 unfold fN aw
 constructor
 ·intro hx
  obtain⟨r,hr,rfl⟩:=List.mem_map.mp hx
  exact List.mem_map.mpr ⟨r,by simpa using (List.mem_filter.mp hr).2,rfl⟩
 ·intro hx
  obtain⟨r,hr,rfl⟩:=List.mem_map.mp hx
  exact List.mem_map.mpr ⟨r,List.mem_filter.mpr ⟨hc r hr,by simpa using hr⟩,rfl⟩
theorem pK {rs c:List Row} (hs:(aw rs).Pairwise nlt) (hc:∀r∈c,r∈rs) (cn:(c.map (·.2.2)).Nodup):(aw c).Nodup:=by
 rw [List.nodup_iff_pairwise_ne,List.pairwise_map] at cn ⊢
 exact cn.imp_of_mem fun {a b} ha hb h z=>h (by rw [j6 hs (hc a ha) (hc b hb) z])
theorem pb {rs c:List Row} (hs:(aw rs).Pairwise nlt) (hc:∀r∈c,r∈rs) (cn:(c.map (·.2.2)).Nodup) {ss:List Str} (p:ss.Perm (aw c)) (h:PyProof.Rows.sortedS ss=true):ss=fN rs c :=
 gC (js h (p.nodup_iff.mpr (pK hs hc cn))) (mJ hs c) fun x=>by rw [p.mem_iff,eP hc]
theorem uJ {rs c d:List Row}{O:List Str} (hs:(aw rs).Pairwise nlt) (hc:∀r∈c,r∈rs) (hd:∀r∈d,r∈rs) (ond:O.Nodup) (c2:c.map (·.2.2)=O) (d2:d.map (·.2.2)=O) (e:fN rs c=fN rs d):c=d:=by
 have sub:∀r∈c,r∈d:=fun r hr=>by
  have h1:r.1∈aw d:=by
   rw [<- eP hd,<- e,eP hc]
   exact List.mem_map.mpr ⟨r,hr,rfl⟩
  obtain⟨q,hq,e2⟩:=List.mem_map.mp h1
  rw [<- j6 hs (hd q hq) (hc r hr) e2];exact hq
 have lc:c.length=O.length:=by rw [<- c2];simp
 have ld:d.length=O.length:=by rw [<- d2];simp
 refine List.ext_getElem (by omega) fun i h1 h2=>?_
 obtain⟨j,hj,ej⟩:=List.mem_iff_getElem.mp (sub c[i] (List.getElem_mem _))
 have o1:O[i]'(by omega)=c[i].2.2:=by simp [<- c2]
 have o2:O[j]'(by omega)=d[j].2.2:=by simp [<- d2]
 have:i=j:=(List.getElem_inj ond).mp (by rw [o1,o2,ej])
 subst this
 exact ej.symm
noncomputable def prd:List Nat->Nat
 | []=>1
 | a::l=>a * prd l
theorem iX:∀a b c d:Fin 11,a.val + b.val + c.val + d.val<=10->a.val * (b.val * (c.val * d.val)) < 64:=by decide +kernel
theorem pd:∀l:List Nat,l.length<=4->l.sum<=10->prd l < 64
 | [],_,_=>by decide
 | [a],_,h=>by simp [prd] at h ⊢;omega
 | [a,b],_,h=>by
  simp at h
  have:=iX ⟨a,by omega⟩ ⟨b,by omega⟩ 0 0
  have h2:4 * (a * b)<=(a + b) * (a + b):=by
   have:(0:Int)<=((a:Int) - b) * (a - b):=by
    rcases Int.le_total 0 ((a:Int) - b) with z | z
    ·exact Int.mul_nonneg z z
    ·exact Int.mul_nonneg_of_nonpos_of_nonpos z z
   have:(4 * (a * b):Int)<=(a + b) * (a + b):=by grind
   exact_mod_cast this
  have h3:=Nat.mul_le_mul h h
  simp [prd]
  omega
 | [a,b,c],_,h=>by
  simp at h
  have h1:=iX ⟨a,by omega⟩ ⟨b,by omega⟩ ⟨c,by omega⟩ ⟨1,by omega⟩
  by_cases e:a + b + c<=9
  ·have:=h1 (by show a + b + c + 1<=10;omega)
   simpa [prd] using this
  ·have h2:∀a b c:Fin 11,a.val + b.val + c.val<=10->a.val * (b.val * c.val) < 64:=by decide +kernel
   have:=h2 ⟨a,by omega⟩ ⟨b,by omega⟩ ⟨c,by omega⟩ (by show a + b + c<=10;omega)
   simpa [prd] using this
 | [a,b,c,d],_,h=>by
  simp at h
  have:=iX ⟨a,by omega⟩ ⟨b,by omega⟩ ⟨c,by omega⟩ ⟨d,by omega⟩ (by show a + b + c + d<=10;omega)
  simpa [prd] using this
 | _::_::_::_::_::_,h,_=>by simp at h
theorem ky:∀(l:List Nat) (a:Nat),prd (l++[a])=a * prd l
 | [],a=>rfl
 | b::l,a=>by
  show b * prd (l++[a])=a * (b * prd l)
  rw [ky l a,Nat.mul_left_comm]
noncomputable abbrev dh (rs:List Row) (O:List Str):List Nat:=O.map fun x=>(rs.filter fun r=>decide (r.2.2=x)).length
theorem qU (rs:List Row):∀O,(chl rs O).length=prd (dh rs O):=by
 refine snoc_ind rfl fun O x ih=>?_
 rw [dw,fw _ _ (chl rs O).length (fun x _=>by simp),ih]
 show _=prd ((O++[x]).map _)
 rw [List.map_append]
 exact (ky _ _).symm
theorem jx {α:Type} (p:α->Bool):∀l:List α,(l.filter p).length + (l.filter fun x=>!p x).length=l.length
 | []=>rfl
 | a::l=>by
  have ih:=jx p l
  cases h:p a <;> simp [h] <;> omega
theorem j5:∀(O:List Str) (rs:List Row),O.Nodup->(dh rs O).sum<=rs.length
 | [],rs,_=>Nat.zero_le _
 | x::O,rs,nd=>by
  obtain⟨h1,h2⟩:=List.nodup_cons.mp nd
  have ih:=j5 O (rs.filter fun r=>!decide (r.2.2=x)) h2
  have e:dh (rs.filter fun r=>!decide (r.2.2=x)) O=dh rs O:=by
   refine List.map_congr_left fun y hy=>?_
   rw [List.filter_filter]
   congr 1
   refine List.filter_congr fun r _=>?_
   by_cases z:r.2.2=y
   ·have:¬ r.2.2=x:=fun q=>h1 (by rw [<- q,z];exact hy)
    simp [z]
    exact fun q=>this (z.trans q)
   ·simp [z]
  rw [e] at ih
  have l:=jx (fun r:Row=>decide (r.2.2=x)) rs
  have es:(dh rs (x::O)).sum=(rs.filter fun r=>decide (r.2.2=x)).length + (dh rs O).sum:=by simp [dh]
  rw [es]
  omega
theorem lI {rs:List Row}{O:List Str} (nd:O.Nodup) (h4:O.length<=4) (h10:rs.length<=10):(chl rs O).length < 64:=by
 rw [qU]
 exact pd _ (by simp;exact h4) (Nat.le_trans (j5 O rs nd) h10)
theorem pX (K:PySem.W.Frag) {X:Cx} (h:X.K=K:=by rfl):bo X (.builtin "sorted") (fun xs H Q=>∃(p:Addr) (ss:List Str),xs=[.ref p]/\SqL K H p (ss.map V.str)/\ss.length < 64/\∀(ss':List Str) (q:Addr),ss'.Perm ss->PyProof.Rows.sortedS ss'=true->H q=none->Q (.ref q) (upd H q (.lst (ss'.map V.str)))):=by subst h;exact i7
theorem qT (K:PySem.W.Frag) {X:Cx}{tg e:Expr}{t:TE} (he:PE X e t) (h:X.K=K:=by rfl):PI X tg e (eZ K t):=by subst h;exact bP he
section
variable {P:Program}{w:World}{K:PySem.W.Frag}{mg:Str->Option Value}{base:Heap}
noncomputable def mz:Sp:=fun vs H Q _=>∃(v pa ra:Addr) (root:Str) (ps:List Str) (rs:List (Addr×Row)),vs=[.ref v,.str root]/\bH H v pa ra ps rs/\Good ps (rs.map (·.2))/\ps.length<=5/\rs.length<=10/\root∈ps /\
 ∀(q:Addr) (lts:List (Addr×List Str)) (H':Hp),ae H H'->H q=none->H' q=some (.lst (aX lts))->cc H' lts->lts.map (·.2)=(TL ps root (rs.map (·.2)) (rs.map (·.2)) []).map aw->Q (.ref q) H'
noncomputable abbrev N35:List Str:=["_law_web_here","_law_root","_law_some"]
theorem ni:aQ N35 ["_law_web_here","_law_root"] (aC (top 35)):=⟨rfl,rfl,rfl,by decide +kernel,rfl,by decide +kernel,by decide +kernel⟩
theorem uj {f:Addr}{fd:FuncData} (F:Fun K "_law_due" "_law_due" (top 35) f fd) (B:Bl mg) (F1:Fn P w K mg base 1 "_law_choices" ["_law_web_here","_law_root"] jq) (F2:Fn P w K mg base 1 "_law_is_tree" ["_law_choice","_law_root"] mm):aG P w K mg base CX0 2 f fd ["_law_web_here","_law_root"] mz:=by
 refine F.ok ni (fun vs H Q E h=>?_) (fun cdv A outer s H vs Q E hr h=>?_)
 ·obtain⟨v,pa,ra,root,ps,rs,rfl,_⟩:=h
  rfl
 ·obtain⟨v,pa,ra,root,ps,rs,rfl,W,G,p5,r10,hroot,k⟩:=h
  refine' ⟨_,ao ?d0 (ar (aO (aD nO rfl B.sorted fk (aa (bC (N:=["_law_choice"]) (ix:=[none]) ⟨rfl,rfl,rfl,by decide⟩ rfl (cv (pv 2)) (fun _ _ _ _=>aW 0 (by decide) rfl rfl) (fun _ _ _ _=>bw) ?d1) ag)))),?main⟩
  case d0=>exact dq (i:=2) (N:=["_law_choice","_law_root"]) (ix:=[none,some 1]) ni.nd rfl (Or.inl rfl) ⟨rfl,rfl,rfl,by decide⟩ rfl (cv (av F1 hr (aa (pv 0) (aa (pv 1) ag)))) (fun _ _ _ _=>aW 0 (by decide) rfl rfl) (fun _ _ _ _=>dD (bV (av F2 hr (aa (pv 0) (aa (pv 1) ag))))) (fun _ _ _ _=>pv 0)
  case d1 =>
   intro _ _ _ _
   refine' cm (jJ K) rfl B.tuple bY (aa (aD (pX K) rfl B.sorted fk (aa ?e1 ag)) ag)
   case e1=>exact bC (N:=["_law_tie","_law_begin","_law_end"]) (ix:=[none,none,none]) ⟨rfl,rfl,rfl,by decide⟩ rfl (qT K (pv 0)) (fun _ _ _ _=>dB K rfl (n:=3) (aU (aW 0 (by decide) rfl rfl) (aU (aW 1 (by decide) rfl rfl) (aU (aW 2 (by decide) rfl rfl) bO)))) (fun _ _ _ _=>bw) (fun _ _ _ _=>pv 0)
  case main =>
  have pnd:ps.Nodup:=cF G.so
  have rin:Ins ps (rs.map (·.2)):=fun r hr=>by
   obtain⟨_,h2,h3,_⟩:=G.rn r hr
   exact⟨h2,h3⟩
  have ond:(others ps root).Nodup:=pnd.filter _
  have hO:root∉others ps root:=fun z=>(bG.mp z).2 rfl
  have o4:(others ps root).length<=4:=by
   have q:(others ps root).length < ps.length:=List.length_filter_lt_length_iff_exists.mpr ⟨root,hroot,by simp⟩
   omega
  have hp:∀x,x∈ps ↔ In (others ps root) root x:=fun x=>by
   unfold In
   rw [bG]
   by_cases e:x=root
   ·simp [e,hroot]
   ·simp [e]
  refine⟨_,rfl,_,rfl,v,pa,ra,root,ps,rs,rfl,W,pnd,p5,r10,hroot,fun fo found H1 s1 f1 fm ct=>⟨fo,rfl,⟨_,SqL.of f1⟩,?_⟩⟩
  have fch:found.map (fun d=>d.2.map (·.2))=chl (rs.map (·.2)) (others ps root):=by
   rw [<- sv,<- fm,List.map_map];rfl
  have fl:found.length < 64:=by
   have:=congrArg List.length fch
   rw [List.length_map] at this
   rw [this]
   exact lI ond o4 (by simpa using r10)
  have fin:∀d∈found,d.2.length=(others ps root).length/\∀r∈d.2,r∈rs:=fun d hd=>kY rs _ d.2 (by rw [<- fm];exact List.mem_map_of_mem hd)
  have fen:∀d∈found,(∀r∈d.2.map (·.2),r∈rs.map (·.2))/\(d.2.map (·.2)).map (·.2.2)=others ps root:=fun d hd=>cH _ _ _ (by rw [<- fch];exact List.mem_map.mpr ⟨d,hd,rfl⟩)
  refine eA (K:=K) (a:=fo) (xs:=bg found) (fits (by simp;omega)) (fun i ys σ H2=>ys=bg ((found.take i).filter fun d=>trC ps root (d.2.map (·.2)))/\ae H1 H2/\∃g,σ=[g,some (.str root)])
   ⟨rfl,ae.refl _,_,rfl⟩ (fun i ys σ H2 hi z=>⟨by rw [z.1,List.length_map];exact Nat.le_trans (List.length_filter_le _ _) (by simp;omega),SqL.of (z.2.1 _ _ f1)⟩) ?_ ?_
  ·rintro i x ys σ H2 hx ⟨rfl,s2,g,rfl⟩
   rw [List.getElem?_map] at hx
   obtain⟨d,hd,rfl⟩:∃d,found[i]?=some d/\x=.ref d.1:=by
    cases e:found[i]? with
    | none=>rw [e] at hx;cases hx
    | some d=>rw [e] at hx;cases hx;exact⟨d,rfl,rfl⟩
   have hdm:=List.mem_of_getElem? hd
   have tf:=cS (fun d:Ch=>trC ps root (d.2.map (·.2))) found i d hd
   obtain⟨d1,d2⟩:=fin d hdm
   refine⟨_,rfl,_,rfl,d.1,root,d.2,rfl,s2 _ _ (ct d hdm),fun r hr=>s2 _ _ (s1 _ _ (W.rows r (d2 r hr))),by omega,fun H3 s3=>⟨_,rfl,?_⟩⟩
   have e:decide ((rrs root (d.2.map (·.2)) d.2.length).length=d.2.length + 1)=trC ps root (d.2.map (·.2)):=by
    have e:=uh (c:=d.2.map (·.2)) (root:=root) ond hO (fen d hdm).2 hp
    rw [List.length_map] at e
    exact e
   rw [e]
   refine bj (fun c=>⟨_,rfl,?_,s2.trans s3,_,rfl⟩) (fun c=>⟨?_,s2.trans s3,_,rfl⟩)
   ·rw [tf,if_pos c];simp
   ·rw [tf,if_neg c];simp
  rintro ys σ H2 ⟨rfl,s2,g,rfl⟩ so hso
  rw [take_all found (by simp)]
  have s3:=am (o:=.lst (bg (found.filter fun d=>trC ps root (d.2.map (·.2))))) (ae.refl H2) hso
  have l3:upd H2 so (.lst (bg (found.filter fun d=>trC ps root (d.2.map (·.2))))) so=some (.lst (bg (found.filter fun d=>trC ps root (d.2.map (·.2))))):=ah
  have kl:(found.filter fun d=>trC ps root (d.2.map (·.2))).length<=found.length:=List.length_filter_le _ _
  have ks:∀d∈(found.filter fun d=>trC ps root (d.2.map (·.2))),d∈found:=fun d hd=>(List.mem_filter.mp hd).1
  have kf:((found.filter fun d=>trC ps root (d.2.map (·.2))).map fun d=>d.2.map (·.2))=(chl (rs.map (·.2)) (others ps root)).filter (trC ps root):=by
   rw [<- fch,List.filter_map];rfl
  generalize (found.filter fun d=>trC ps root (d.2.map (·.2)))=kept at s3 l3 kl ks kf ⊢
  generalize upd H2 so (.lst (bg kept))=H3 at s3 l3 ⊢
  have s03:=s1.trans (s2.trans s3)
  have c3:bW H3 kept:=fun d hd=>s3 _ _ (s2 _ _ (ct d (ks d hd)))
  refine⟨_,rfl,so,rfl,⟨_,SqL.of l3⟩,?_⟩
  refine gz (K:=K) (a:=so) (xs:=bg kept) (fits (by simp;omega)) (fun i ys σ H4=>(∃lts:List (Addr×List Str),ys=aX lts/\cc H4 lts/\lts.map (·.2)=(kept.take i).map fun d=>fN (rs.map (·.2)) (d.2.map (·.2)))/\ae H3 H4/\∃g,σ=[g])
   ⟨⟨[],rfl,(fun x hx=>nomatch hx),by simp⟩,ae.refl _,_,rfl⟩ (fun i ys σ H4 hi z=>by
    obtain⟨⟨lts,rfl,_,e⟩,s,_⟩:=z
    have:=congrArg List.length e
    simp at this
    exact⟨by simp;omega,SqL.of (s _ _ l3)⟩) ?_ ?_
  ·rintro i x ys σ H4 hx ⟨⟨lts,rfl,hL,e⟩,s4,g,rfl⟩
   rw [List.getElem?_map] at hx
   obtain⟨d,hd,rfl⟩:∃d,kept[i]?=some d/\x=.ref d.1:=by
    cases e:kept[i]? with
    | none=>rw [e] at hx;cases hx
    | some d=>rw [e] at hx;cases hx;exact⟨d,rfl,rfl⟩
   have hdm:=List.mem_of_getElem? hd
   obtain⟨d1,d2⟩:=fin d (ks d hdm)
   have t4:=s4 _ _ (c3 d hdm)
   refine⟨_,rfl,d.1,rfl,⟨_,SqT.of t4⟩,?_⟩
   refine eK (K:=K) (a:=d.1) (xs:=aq d.2) (fits (by simp;omega)) (fun j ys σ H5=>ys=(aw ((d.2.map (·.2)).take j)).map V.str/\H5=H4/\∃x1 x2 x3,σ=[x1,x2,x3])
    ⟨rfl,rfl,_,_,_,rfl⟩ (fun j ys σ H5 hj z=>⟨by rw [z.1];simp;omega,by rw [z.2.1];exact SqT.of t4⟩) ?_ ?_
   ·rintro j x ys σ H5 hx ⟨rfl,rfl,x1,x2,x3,rfl⟩
    obtain⟨r,hr',rfl⟩:=cq hx
    have r5:=s4 _ _ (s03 _ _ (W.rows r (d2 r (List.mem_of_getElem? hr'))))
    refine⟨r.1,_,rfl,SqT.of r5,rfl,_,_,rfl,_,_,rfl,_,_,rfl,rfl,?_⟩
    unfold bq
    refine bJ ⟨_,rfl,?_,rfl,_,_,_,rfl⟩
    rw [List.take_add_one,List.getElem?_map,hr'];simp
   rintro ys σ H5 ⟨rfl,rfl,x1,x2,x3,rfl⟩ l5 hl5
   rw [List.take_of_length_le (by simp)]
   have u5:=am (o:=.lst ((aw (d.2.map (·.2))).map V.str)) (ae.refl H5) hl5
   have m5:upd H5 l5 (.lst ((aw (d.2.map (·.2))).map V.str)) l5=some (.lst ((aw (d.2.map (·.2))).map V.str)):=ah
   generalize upd H5 l5 (.lst ((aw (d.2.map (·.2))).map V.str))=H6 at u5 m5 ⊢
   refine⟨l5,aw (d.2.map (·.2)),rfl,SqL.of m5,by simp;omega,fun ss q hpm hsr hq=>?_⟩
   obtain⟨e1,e2⟩:=fen d (ks d hdm)
   have ess:=pb G.rso e1 (by rw [e2];exact ond) hpm hsr
   subst ess
   have u6:=am (o:=.lst ((fN (rs.map (·.2)) (d.2.map (·.2))).map V.str)) u5 hq
   have q6:upd H6 q (.lst ((fN (rs.map (·.2)) (d.2.map (·.2))).map V.str)) q=some (.lst ((fN (rs.map (·.2)) (d.2.map (·.2))).map V.str)):=ah
   generalize upd H6 q (.lst ((fN (rs.map (·.2)) (d.2.map (·.2))).map V.str))=H7 at u6 q6 ⊢
   refine⟨q,_,rfl,.inl ⟨SqL.of q6,fun tq htq=>?_⟩⟩
   have u7:=am (o:=.tup ((fN (rs.map (·.2)) (d.2.map (·.2))).map V.str)) u6 htq
   refine⟨⟨lts++[(tq,fN (rs.map (·.2)) (d.2.map (·.2)))],by simp [aX],fun x hx=>?_,?_⟩,s4.trans u7,_,rfl⟩
   ·rcases List.mem_append.mp hx with z | z
    ·exact u7 _ _ (hL x z)
    ·rw [List.mem_singleton.mp z];exact ah
   ·rw [List.map_append,e,List.take_add_one,hd];simp
  rintro ys σ H4 ⟨⟨lts,rfl,hL,e⟩,s4,g,rfl⟩ ll hll
  rw [List.take_of_length_le (by simp)] at e
  have s5:=am (o:=.lst (aX lts)) s4 hll
  have m5:upd H4 ll (.lst (aX lts)) ll=some (.lst (aX lts)):=ah
  have L5:cc (upd H4 ll (.lst (aX lts))) lts:=fun x hx=>am (o:=.lst (aX lts)) (ae.refl H4) hll _ _ (hL x hx)
  generalize upd H4 ll (.lst (aX lts))=H5 at s5 m5 L5 ⊢
  have e':lts.map (·.2)=((chl (rs.map (·.2)) (others ps root)).filter (trC ps root)).map (fN (rs.map (·.2))):=by
   rw [e,<- kf,List.map_map];rfl
  have ll64:lts.length < 64:=by
   have:=congrArg List.length e
   simp at this
   omega
  refine⟨ll,lts,rfl,SqL.of m5,L5,ll64,?_,fun h2 x hx=>?_,fun lts' q hpm hso' hq=>?_⟩
  ·rw [e',List.nodup_iff_pairwise_ne,List.pairwise_map]
   refine List.Pairwise.imp_of_mem (fun {a b} ha hb hab z=>hab ?_) ((tK (fI G.rso) (others ps root)).filter (trC ps root))
   obtain⟨a1,a2⟩:=cH _ _ a (List.mem_filter.mp ha).1
   obtain⟨b1,b2⟩:=cH _ _ b (List.mem_filter.mp hb).1
   exact uJ G.rso a1 b1 ond a2 b2 z
  ·intro z
   have hm:x.2∈lts.map (·.2):=List.mem_map_of_mem hx
   rw [e'] at hm
   obtain⟨c,hc,ec⟩:=List.mem_map.mp hm
   obtain⟨c1,c2⟩:=cH _ _ c (List.mem_filter.mp hc).1
   have cn:c=[]:=by
    cases c with
    | nil=>rfl
    | cons a l =>
     have:=(eP c1 a.1).mpr (by simp)
     rw [ec,z] at this
     cases this
   have on:others ps root=[]:=by rw [<- c2,cn];rfl
   have len:=congrArg List.length e'
   rw [List.length_map,List.length_map,on] at len
   have:=List.length_filter_le (trC ps root) (chl (rs.map (·.2)) [])
   have h1:(chl (rs.map (·.2)) []).length=1:=rfl
   omega
  ·have s6:=am (o:=.lst (aX lts')) (ae.refl H5) hq
   have hB:=qr pnd G.rso rin (root:=root) (f:=fN (rs.map (·.2))) (fun c hc=>⟨mJ G.rso c,eP (cH _ _ c hc).1⟩) (B:=lts'.map (·.2)) (by rw [<- e'];exact hpm.map _) hso'
   exact k q lts' _ (s03.trans (s5.trans s6)) (s03.free (s5.free hq)) ah (fun x hx=>s6 _ _ (L5 x (hpm.mem_iff.mp hx))) hB
end
theorem join_le (B:Nat):∀ts:List Str,(∀t∈ts,t.length<=B)->(Str.join ", " ts).length<=ts.length * (B + 2)
 | [],_=>by show (0:Nat)<=_;exact Nat.zero_le _
 | [x],h=>by
  have:=h x List.mem_cons_self
  show x.length<=1 * (B + 2)
  omega
 | x::y::r,h=>by
  have ih:=join_le B (y::r) fun t ht=>h t (List.mem_cons_of_mem _ ht)
  have hx:=h x List.mem_cons_self
  show (x++(", ":Str)++Str.join ", " (y::r)).length<=_
  have e2:((", ":Str)).length=2:=by decide
  rw [Str.length_append,Str.length_append,e2]
  simp only [List.length_cons] at ih ⊢
  rw [Nat.add_mul (r.length + 1) 1 (B + 2)]
  omega
theorem nM {B:Nat}{ts:List Str} (h:∀t∈ts,t.length<=B):(tupleText ts).length<=3 + ts.length * (B + 2):=by
 have:=join_le B ts h
 unfold tupleText
 rw [Str.length_append,Str.length_append]
 have e1:(("(":Str)).length=1:=by decide
 rw [e1]
 by_cases c:(ts.length == 1)=true
 ·rw [if_pos c]
  have e3:((",)":String):Str).length=2:=by decide
  rw [e3];omega
 ·rw [if_neg c]
  have e3:((")":String):Str).length=1:=by decide
  rw [e3];omega
theorem su {x:Str} (h:aJ x):(reprText x).length<=82:=by
 have:=StrLaws.reprText_len x fun c hc=>by have:=h.az c hc;omega
 have h8:=h.hi
 omega
theorem gs:∀{ds:List PyData}{t:Str},t∈PyData.shownAll ds->∃d∈ds,t=d.shown
 | [],t,h=>by simp [PyData.shownAll] at h
 | d::ds,t,h=>by
  rw [PyData.shownAll] at h
  rcases List.mem_cons.mp h with e | h
  ·exact⟨d,List.mem_cons_self,e⟩
  ·obtain⟨d',h1,h2⟩:=gs h
   exact⟨d',List.mem_cons_of_mem _ h1,h2⟩
theorem gr:∀ds:List PyData,(PyData.shownAll ds).length=ds.length
 | []=>rfl
 | d::ds=>by rw [PyData.shownAll,List.length_cons,List.length_cons,gr ds]
theorem shown_tuple {B:Nat}{ds:List PyData} (h:∀d∈ds,d.shown.length<=B):(PyData.tuple ds).shown.length<=3 + ds.length * (B + 2):=by
 rw [PyData.shown,<- gr ds]
 refine nM fun t ht=>?_
 obtain⟨d,hd,rfl⟩:=gs ht
 exact h d hd
theorem oG {ss:List Str} (h:∀x∈ss,aJ x):(PyData.tuple (ss.map PyData.str)).shown.length<=3 + ss.length * 84:=by
 have:=shown_tuple (B:=82) (ds:=ss.map PyData.str) fun d hd=>by
  obtain⟨x,hx,rfl⟩:=List.mem_map.mp hd
  rw [PyData.shown]
  exact su (h x hx)
 simpa using this
theorem jF:∀ss:List Str,PyData.showableAll (ss.map PyData.str)=true
 | []=>rfl
 | x::t=>by rw [List.map_cons,PyData.showableAll,jF t];rfl
theorem kE:∀ss:List Str,PyData.hasDictAll (ss.map PyData.str)=false
 | []=>rfl
 | x::t=>by rw [List.map_cons,PyData.hasDictAll,kE t];rfl
theorem jb (B:Nat):∀(ts:List Str) (k:Nat) (acc:Str),(∀t∈ts,t.length<=B)->(textFrom k acc ts).length<=acc.length + ts.length * (B + 2)
 | [],k,acc,_=>by simp [textFrom]
 | t::r,k,acc,h=>by
  have ht:=h t List.mem_cons_self
  have e2:((", ":Str)).length=2:=by decide
  have e0:(("":Str)).length=0:=by decide
  unfold textFrom
  have ih:=fun acc'=>jb B r (k + 1) acc' fun x hx=>h x (List.mem_cons_of_mem _ hx)
  simp only [List.length_cons]
  rw [Nat.add_mul]
  first
   | (refine Nat.le_trans (ih _) ?_;split <;> simp only [Str.length_append,e2,e0] <;> omega)
   | (split <;> refine Nat.le_trans (ih _) ?_ <;> simp only [Str.length_append,e2,e0] <;> omega)
theorem shown_list {B:Nat}{ds:List PyData} (h:∀d∈ds,d.shown.length<=B):(PyData.list ds).shown.length<=2 + ds.length * (B + 2):=by
 have q:=jb B (PyData.shownAll ds) 0 "[" fun t ht=>by
  obtain⟨d,hd,rfl⟩:=gs ht
  exact h d hd
 rw [gr] at q
 have e1:(("[":Str)).length=1:=by decide
 have e2:(("]":Str)).length=1:=by decide
 rw [PyData.shown]
 unfold listText
 rw [Str.length_append,e2]
 rw [e1] at q
 omega
noncomputable abbrev cP (ts:List Str):PyData:=.tuple (ts.map PyData.str)
noncomputable abbrev tlD (tl:List (List Str)):PyData:=.list (tl.map cP)
theorem eQ {H:Hp}:∀{tss:List (Addr×List Str)},cc H tss->DVs H (aX tss) ((tss.map (·.2)).map cP)
 | [],_=>.nil
 | r::t,h=>.cons (.tup (h r List.mem_cons_self) (DVs.strs _)) (eQ fun x hx=>h x (List.mem_cons_of_mem _ hx))
theorem gN:∀{tl:List (List Str)},(∀ts∈tl,∀y∈ts,aJ y)->PyData.canLayAll0 (tl.map cP)=true/\PyData.depthAll (tl.map cP)<=1
 | [],_=>⟨rfl,Nat.zero_le _⟩
 | ts::t,h=>by
  have ih:=gN (tl:=t) fun x hx=>h x (List.mem_cons_of_mem _ hx)
  have q:=jP (h ts List.mem_cons_self)
  rw [List.map_cons]
  have i2:=ih.2
  simp only [PyData.canLayAll0,PyData.canLay0,PyData.depthAll,PyData.depth,q.1,q.2,ih.1]
  exact⟨rfl,by omega⟩
theorem jO:∀tl:List (List Str),PyData.showableAll (tl.map cP)=true
 | []=>rfl
 | x::t=>by rw [List.map_cons,PyData.showableAll,jO t,PyData.showable,jF];rfl
theorem md:∀tl:List (List Str),PyData.hasDictAll (tl.map cP)=false
 | []=>rfl
 | x::t=>by rw [List.map_cons,PyData.hasDictAll,md t,PyData.hasDict,kE];rfl
theorem vc {tl:List (List Str)} (h:∀ts∈tl,(∀y∈ts,aJ y)/\ts.length<=100) (h6:tl.length<=101):(tlD tl).showable=true/\(tlD tl).hasDict=false/\(tlD tl).depth<=40/\(tlD tl).shown.length<=sizeLine:=by
 refine⟨?_,?_,?_,?_⟩
 ·simp only [PyData.showable,jO]
 ·simp only [PyData.hasDict,md]
 ·have:=(gN fun ts hts=>(h ts hts).1).2
  simp only [PyData.depth];omega
 ·have:=shown_list (B:=8403) (ds:=tl.map cP) fun d hd=>by
   obtain⟨ts,hts,rfl⟩:=List.mem_map.mp hd
   have:=oG (h ts hts).1
   have:=(h ts hts).2
   show (PyData.tuple (ts.map PyData.str)).shown.length<=8403
   omega
  rw [List.length_map] at this
  show (PyData.list (tl.map cP)).shown.length<=sizeLine
  rw [sizeLine_eq]
  omega
theorem vn {tl:List (List Str)} (h:∀ts∈tl,∀y∈ts,aJ y):SeqAt.shaped (tlD tl)=true:=by
 have q:=gN h
 have i2:=q.2
 have hc:(tlD tl).canLay0=true:=by simp only [tlD,PyData.canLay0,q.1]
 have hd:(tlD tl).depth<=2:=by simp only [tlD,PyData.depth];omega
 unfold SeqAt.shaped
 rw [hc,decide_eq_true (by omega)]
 rfl
theorem vw {ps:List Str}{root:Str}{rs:List Row} (G:Good ps rs):∀ts∈(TL ps root rs rs []).map aw,(∀y∈ts,aJ y)/\ts.length<=100:=fun ts hts=>by
 obtain⟨X,hX,rfl⟩:=List.mem_map.mp hts
 obtain⟨Z,rfl,hZ⟩:=c8 _ _ _ _ hX
 refine⟨fun y hy=>?_,?_⟩
 ·obtain⟨r,hr,rfl⟩:=List.mem_map.mp hy
  exact (G.rn r (hZ.subset (by simpa using hr))).1
 ·have:=hZ.length_le
  have:=G.rz
  simp
  omega
theorem uw {ps:List Str}{root:Str}{rs:List Row} (G:Good ps rs) (p5:ps.length<=5) (r10:rs.length<=10) (hroot:root∈ps):aF ps root rs < 64:=by
 have pnd:ps.Nodup:=cF G.so
 have rin:Ins ps rs:=fun r hr=>by
  obtain⟨_,h2,h3,_⟩:=G.rn r hr
  exact⟨h2,h3⟩
 have ond:(others ps root).Nodup:=pnd.filter _
 have o4:(others ps root).length<=4:=by
  have q:(others ps root).length < ps.length:=List.length_filter_lt_length_iff_exists.mpr ⟨root,hroot,by simp⟩
  omega
 rw [gW pnd rin]
 have h1:=lI ond o4 r10
 have h2:=List.length_filter_le (trC ps root) (chl rs (others ps root))
 omega
theorem mS {ps:List Str}{root:Str}{rs:List Row} (G:Good ps rs):((TL ps root rs rs []).length:Int)=aF ps root rs:=by
 refine cJ (cF G.so) _ _ _ (Iv.all (fI G.rso) fun r hr=>?_)
 obtain⟨_,h2,h3,_⟩:=G.rn r hr
 exact⟨h2,h3⟩
theorem qF:aJ ("many":Str):=aJ.of_codes (l:=[109,97,110,121]) (by decide) (by decide) (by decide) (by decide)
theorem rj:SeqAt.shaped (PyData.str ("many":Str))=true:=by
 unfold SeqAt.shaped
 have h1:(PyData.str ("many":Str)).canLay0=true:=by simp only [PyData.canLay0];exact jZ qF
 have h2:(PyData.str ("many":Str)).depth=0:=by simp only [PyData.depth]
 rw [h1,h2]
 rfl
theorem ne_self (x:Str):(!decide (V.str x=V.str x))=false:=by simp
theorem eq_self (x:Str):decide (V.str x=V.str x)=true:=by simp
section
variable {P:Program}{w:World}{K:PySem.W.Frag}{mg:Str->Option Value}{base:Heap}
noncomputable def lw:Sp:=fun vs H Q _=>∃(v pa ra:Addr) (root:Str) (ps:List Str) (rs:List (Addr×Row)),vs=[.ref v,.str root]/\bH H v pa ra ps rs/\Good ps (rs.map (·.2))/\ps.length<=5/\rs.length<=10/\root∈ps/\∀H',ae H H'->Q (.bl true) H'
noncomputable abbrev N37:List Str:=["_law_web_here","_law_root","_law_due_here","_law_wanted","_law_told_here"]
theorem gn:aQ N37 ["_law_web_here","_law_root"] (aC (top 37)):=⟨rfl,rfl,rfl,by decide +kernel,rfl,by decide +kernel,by decide +kernel⟩
theorem pH {f:Addr}{fd:FuncData} (F:Fun K "_law_right" "_law_right" (top 37) f fd) (B:Bl mg) (Fd:Fn P w K mg base 2 "_law_due" ["_law_web_here","_law_root"] mz) (Ft:Fn P w K mg base 7 "_law_told" ["_law_web_here","_law_root"] iy):aG P w K mg base CX0 8 f fd ["_law_web_here","_law_root"] lw:=by
 refine F.ok gn (fun vs H Q E h=>?_) (fun cdv A outer s H vs Q E hr h=>?_)
 ·obtain⟨v,pa,ra,root,ps,rs,rfl,_⟩:=h
  rfl
 ·obtain⟨v,pa,ra,root,ps,rs,rfl,W,G,p5,r10,hroot,k⟩:=h
  have hr2:aL 2 _:=hr.mono (by decide)
  refine' ⟨_,?d0,?main⟩
  case' d0=>refine' ao (aE (i:=2) gn.nd rfl (Or.inl rfl) (av Fd hr2 (aa (pv 0) (aa (pv 1) ag)))) ?d1
  case' d1=>refine' ao (aE (i:=3) gn.nd rfl (Or.inl rfl) (pv 2)) ?d2
  case' d2=>refine' ao (aY (aV gc (aD bA rfl B.len PySem.boot_len (aa (pv 2) ag)) ai (aN _)) cV a9) ?d3
  case' d3=>refine' ao (aE (i:=4) gn.nd rfl (Or.inl rfl) (av Ft hr (aa (pv 0) (aa (pv 1) ag)))) ?d4
  case' d4=>refine' ao (aY (aV bI (aD (fb hr) rfl B.repr fT (aa (pv 4) ag)) (aD (fb hr) rfl B.repr fT (aa (pv 3) ag)) (aN _)) cV a9) ?d5
  case' d5=>refine' ao (aY (aV (ib hr) (pv 4) bb (aN _)) (ar (cw (cy PySem.F.plainAttrs_list PySem.F.slot_list_append PySem.F.type_list_append dn (pv 4) (aa (bz ag) ag)))) a9) ?d6
  case d6=>exact ar (aO (dE cO (aD (fb hr) rfl B.repr fT (aa (av Ft hr (aa (pv 0) (aa (pv 1) ag))) ag)) (aD (fb hr) rfl B.repr fT (aa (pv 3) ag)) (aN _)))
  case main =>
  have c64:=uw G p5 (by simpa using r10) hroot
  have tl:=mS (root:=root) G
  have tn':=vw (root:=root) G
  refine⟨_,rfl,_,rfl,v,pa,ra,root,ps,rs,rfl,W,G,p5,r10,hroot,fun q lts H1 s1 hq h1 hL e=>?_⟩
  obtain⟨T,hT⟩:∃T,(TL ps root (rs.map (·.2)) (rs.map (·.2)) []).map aw=T:=⟨_,rfl⟩
  have tT:(T.length:Int) < 64:=by rw [<- hT,List.length_map];omega
  rw [hT] at e tn'
  obtain⟨r1,r2,r3',r4⟩:=vc tn' (by omega)
  have sT:=vn fun ts h=>(tn' ts h).1
  obtain⟨SH,hSH⟩:∃SH,(tlD T).shown=SH:=⟨_,rfl⟩
  have lT:lts.length=T.length:=by rw [<- e,List.length_map]
  refine⟨_,rfl,?_⟩
  refine⟨_,rfl,q,_,rfl,.inl (SqL.of h1),_,_,rfl,rfl,_,rfl,mG (by simp;omega) ?_⟩
  refine⟨_,rfl,_,rfl,v,pa,ra,root,ps,rs,rfl,W.same s1,G,by omega,hroot,fun hc q2 lts2 H2 s2 hq2 h2 hL2 e2=>?_,fun hc=>absurd (by omega) hc⟩
  rw [hT] at e2
  have d2:DV H2 (.ref q2) (tlD T):=by rw [<- e2];exact .lst h2 (eQ hL2)
  have d1:DV H2 (.ref q) (tlD T):=by rw [<- e];exact .lst (s2 _ _ h1) (eQ fun x hx=>s2 _ _ (hL x hx))
  refine⟨_,rfl,q2,tlD T,rfl,d2,r1,r2,r3',r4,_,rfl,q,tlD T,rfl,d1,r1,r2,r3',r4,rfl,_,rfl,?_⟩
  rw [ne_self]
  refine bE ?_
  refine⟨_,rfl,tlD T,.str ("many":Str),d2,.str _,sT,rj,_,rfl,?_⟩
  have en:PyData.eqv (tlD T) (.str ("many":Str))=false:=rfl
  rw [en]
  refine bJ ?_
  refine⟨_,rfl,.inl ⟨rfl,_,SqL.of h2⟩,by show 0<=sizeLine;exact Nat.zero_le _,fun em hem=>?_⟩
  have s3:=am (o:=.tup []) (ae.refl H2) hem
  generalize upd H2 em (.tup [])=H3 at s3 ⊢
  refine⟨q2,_,_,rfl,rfl,s3 _ _ h2,by simp;exact fits (by have:=congrArg List.length e2;simp at this;omega),?_⟩
  have qne:q≠q2:=aI h1 hq2
  have s4:ae H1 (upd H3 q2 (.lst (aX lts2++[.ref em]))):=fun b o hb=>by
   rw [aj (aI hb hq2)]
   exact s3 _ _ (s2 _ _ hb)
  generalize upd H3 q2 (.lst (aX lts2++[.ref em]))=H4 at s4 ⊢
  refine⟨_,rfl,_,rfl,v,pa,ra,root,ps,rs,rfl,W.same (s1.trans s4),G,by omega,hroot,fun hc q5 lts5 H5 s5 hq5 h5 hL5 e5=>?_,fun hc=>absurd (by omega) hc⟩
  rw [hT] at e5
  have s15:=s4.trans s5
  have d5:DV H5 (.ref q5) (tlD T):=by rw [<- e5];exact .lst h5 (eQ hL5)
  have d1':DV H5 (.ref q) (tlD T):=by rw [<- e];exact .lst (s15 _ _ h1) (eQ fun x hx=>s15 _ _ (hL x hx))
  refine⟨q5,tlD T,rfl,d5,r1,r2,r3',r4,_,rfl,q,tlD T,rfl,d1',r1,r2,r3',r4,rfl,?_⟩
  rw [eq_self]
  exact k H5 (s1.trans s15)
end
noncomputable abbrev dW (a b c d:Nat):List (Str×Str):=List.replicate a (("r":Str),("p":Str))++List.replicate b (("r":Str),("q":Str))++List.replicate c (("p":Str),("q":Str))++List.replicate d (("q":Str),("p":Str))
noncomputable def ltr (i:Nat):Str:=⟨#[97 + i]⟩
noncomputable def cz:Nat->List (Str×Str)->List Row
 | _,[]=>[]
 | i,p::t=>(ltr i,p.1,p.2)::cz (i + 1) t
noncomputable abbrev dZ (a b c d:Nat):List Row:=cz 0 (dW a b c d)
theorem gB:∀(l:List (Str×Str)) (i:Nat),(cz i l).length=l.length
 | [],i=>rfl
 | p::t,i=>by rw [cz,List.length_cons,List.length_cons,gB t]
theorem jA:∀(l:List (Str×Str)) (i j:Nat) (p:Str×Str),l[j]?=some p->(cz i l)[j]?=some (ltr (i + j),p.1,p.2)
 | [],i,j,p,h=>by simp at h
 | q::t,i,0,p,h=>by
  have:q=p:=by simpa using h
  subst this;rfl
 | q::t,i,j + 1,p,h=>by
  have h':t[j]?=some p:=by simpa using h
  rw [cz,List.getElem?_cons_succ,jA t (i + 1) j p h',show i + 1 + j=i + (j + 1) by omega]
theorem gA:∀(l:List (Str×Str)) (i:Nat) (r:Row),r∈cz i l->∃j,j < l.length/\r.1=ltr (i + j)/\(r.2.1,r.2.2)∈l
 | [],i,r,h=>nomatch h
 | q::t,i,r,h=>by
  rcases List.mem_cons.mp h with rfl | h
  ·exact⟨0,by simp,rfl,by simp⟩
  ·obtain⟨j,h1,h2,h3⟩:=gA t (i + 1) r h
   exact⟨j + 1,by simp;omega,by rw [h2,show i + 1 + j=i + (j + 1) by omega],List.mem_cons_of_mem _ h3⟩
theorem sR {i j:Nat} (h:i < j):nlt (ltr i) (ltr j):=by
 show [97 + i] < [97 + j]
 rw [lt1];omega
theorem km:∀(l:List (Str×Str)) (i:Nat),((cz i l).map (·.1)).Pairwise nlt
 | [],i=>.nil
 | q::t,i=>by
  rw [cz,List.map_cons,List.pairwise_cons]
  refine⟨fun x hx=>?_,km t (i + 1)⟩
  obtain⟨r,hr,rfl⟩:=List.mem_map.mp hx
  obtain⟨j,_,h2,_⟩:=gA t (i + 1) r hr
  rw [h2]
  exact sR (by omega)
theorem pW {i:Nat} (h:i < 26):aJ (ltr i):=aJ.of_codes (l:=[97 + i]) rfl (by simp) (by simp) (fun c hc=>by
 have:c=97 + i:=by simpa using hc
 omega)
noncomputable abbrev pqr:List Str:=["p","q","r"]
theorem uH:∀x∈pqr,aJ x:=fun x hx=>by
 have hx:x="p"\/x="q"\/x="r":=by simpa using hx
 rcases hx with rfl | rfl | rfl
 ·exact aJ.of_codes (l:=[112]) (by decide) (by decide) (by decide) (by decide)
 ·exact aJ.of_codes (l:=[113]) (by decide) (by decide) (by decide) (by decide)
 ·exact aJ.of_codes (l:=[114]) (by decide) (by decide) (by decide) (by decide)
theorem tY:pqr.Pairwise nlt:=by
 have h1:nlt "p" "q":=by show [112] < [113];decide
 have h2:nlt "p" "r":=by show [112] < [114];decide
 have h3:nlt "q" "r":=by show [113] < [114];decide
 simp [h1,h2,h3]
theorem kr (a b c d:Nat):(dW a b c d).length=a + b + c + d:=by simp;omega
theorem qb {a b c d:Nat}{x y:Str} (h:(x,y)∈dW a b c d):x∈pqr/\y∈pqr/\x≠y:=by
 have h:(x="r"/\y="p")\/(x="r"/\y="q")\/(x="p"/\y="q")\/(x="q"/\y="p"):=by
  simp only [dW,List.mem_append,List.mem_replicate,Prod.mk.injEq] at h
  rcases h with ((⟨_,h⟩ | ⟨_,h⟩) | ⟨_,h⟩) | ⟨_,h⟩
  ·exact .inl h
  ·exact .inr (.inl h)
  ·exact .inr (.inr (.inl h))
  ·exact .inr (.inr (.inr h))
 rcases h with ⟨rfl,rfl⟩ | ⟨rfl,rfl⟩ | ⟨rfl,rfl⟩ | ⟨rfl,rfl⟩ <;> decide
theorem gE {a b c d:Nat} (h:a + b + c + d<=26):Good pqr (dZ a b c d):=by
 refine⟨by decide,uH,tY,fun r hr=>?_,km _ _,by decide,by rw [gB,kr];omega⟩
 obtain⟨j,h1,h2,h3⟩:=gA _ _ r hr
 obtain⟨h4,h5,h6⟩:=qb h3
 rw [kr] at h1
 exact⟨by rw [h2];exact pW (by omega),h4,h5,h6⟩
theorem kK:aF pqr "r" (dZ 10 10 0 0)=100:=by decide +kernel
theorem rW:aF pqr "r" (dZ 5 1 19 1)=101:=by decide +kernel
theorem pL:∀i:Fin 5,100 < aF pqr "r" (dZ 11 (10 + i.val) 0 0):=by decide +kernel
theorem eF (v:V):∀k:Nat,(List.replicate k [v]).flatten=List.replicate k v
 | 0=>rfl
 | k + 1=>by rw [List.replicate_succ,List.flatten_cons,eF v k,List.replicate_succ];rfl
section
variable {P:Program}{w:World}{K:PySem.W.Frag}{mg:Str->Option Value}{base:Heap}
noncomputable def mT:Sp:=fun vs H Q _=>∃(a b c d:Nat),vs=[.int a,.int b,.int c,.int d]/\a + b + c + d<=26 /\
 ∀(v pa ra:Addr) (rs:List (Addr×Row)) (H':Hp),ae H H'->bH H' v pa ra pqr rs->rs.map (·.2)=dZ a b c d->Q (.ref v) H'
noncomputable abbrev N38:List Str:=["_law_first","_law_second","_law_over","_law_back","_law_pairs","_law_ties"]
theorem iZ:aQ N38 ["_law_first","_law_second","_law_over","_law_back"] (aC (top 38)):=⟨rfl,rfl,rfl,by decide +kernel,rfl,by decide +kernel,by decide +kernel⟩
theorem ub {f:Addr}{fd:FuncData} (F:Fun K "_law_fan" "_law_fan" (top 38) f fd) (B:Bl mg):aG P w K mg base CX0 1 f fd ["_law_first","_law_second","_law_over","_law_back"] mT:=by
 refine F.ok iZ (fun vs H Q E h=>?_) (fun cdv A outer s H vs Q E hr h=>?_)
 ·obtain⟨a,b,c,d,rfl,_⟩:=h
  rfl
 ·obtain⟨a,b,c,d,rfl,hz,k⟩:=h
  refine' ⟨_,?d0,?main⟩
  case' d0=>refine' ao (aE (i:=4) iZ.nd rfl (Or.inl rfl) (aH fV (aH fV (aH fV (aH eL (bL (aa (bz (aa bb (aa bb ag))) ag)) (pv 0)) (aH eL (bL (aa (bz (aa bb (aa bb ag))) ag)) (pv 1)))
    (aH eL (bL (aa (bz (aa bb (aa bb ag))) ag)) (pv 2))) (aH eL (bL (aa (bz (aa bb (aa bb ag))) ag)) (pv 3)))) ?d1
  case' d1=>refine' ao (dq (i:=5) (N:=["_law_k","_law_pair"]) (ix:=[none,none]) iZ.nd rfl (Or.inl rfl) ⟨rfl,rfl,rfl,by decide⟩ rfl (fO rfl B.enumerate (aa (pv 4) ag)) (fun _ _ _ _=>dB K rfl (n:=2) (aU (aW 0 (by decide) rfl rfl) (aU (aW 1 (by decide) rfl rfl) bO)))
     (fun _ _ _ _=>bw) (fun _ _ _ _=>bz (aa (ax (bK K) bb (pv 0) (fun _ _=>rfl)) (aa (ax (bK K) (pv 1) ai (fun _ _=>rfl)) (aa (ax (bK K) (pv 1) ai (fun _ _=>rfl)) ag))))) ?d2
  case d2=>exact ar (aO (bz (aa (bz (aa bb (aa bb (aa bb ag)))) (aa (cm dj rfl B.tuple bY (aa (pv 5) ag)) ag))))
  case main =>
  refine⟨by show 2<=sizeLine;decide,fun t1 ht1=>⟨by show 1<=sizeLine;decide,fun l1 hl1=>⟨_,rfl,l1,_,_,rfl,rfl,ah,by omega,by omega,?_,fun m1 hm1=>?_⟩⟩⟩
  ·rw [sizeLine_eq];simp;omega
  have T1:upd H t1 (.tup [.str ("r":Str),.str ("p":Str)]) t1=some (.tup [.str ("r":Str),.str ("p":Str)]):=ah
  have s1:=am (o:=.tup [.str ("r":Str),.str ("p":Str)]) (ae.refl H) ht1
  have s2:=am (o:=.lst [.ref t1]) (ae.refl _) hl1
  have s3:=am (o:=.lst (List.replicate (a:Int).toNat [V.ref t1]).flatten) (ae.refl _) hm1
  have M1:upd (upd (upd H t1 (.tup [.str ("r":Str),.str ("p":Str)])) l1 (.lst [.ref t1])) m1 (.lst (List.replicate (a:Int).toNat [V.ref t1]).flatten) m1=some (.lst (List.replicate (a:Int).toNat [V.ref t1]).flatten):=ah
  have T1:=s3 _ _ (s2 _ _ T1)
  have s1:=(s1.trans s2).trans s3
  generalize upd (upd (upd H t1 (.tup [.str ("r":Str),.str ("p":Str)])) l1 (.lst [.ref t1])) m1 (.lst (List.replicate (a:Int).toNat [V.ref t1]).flatten)=H1 at s1 T1 M1 ⊢
  rw [eF,Int.toNat_natCast] at M1
  clear s2 s3 hm1 hl1 ht1
  refine⟨by show 2<=sizeLine;decide,fun t2 ht2=>⟨by show 1<=sizeLine;decide,fun l2 hl2=>⟨_,rfl,l2,_,_,rfl,rfl,ah,by omega,by omega,?_,fun m2 hm2=>?_⟩⟩⟩
  ·rw [sizeLine_eq];simp;omega
  have T2:upd H1 t2 (.tup [.str ("r":Str),.str ("q":Str)]) t2=some (.tup [.str ("r":Str),.str ("q":Str)]):=ah
  have u1:=am (o:=.tup [.str ("r":Str),.str ("q":Str)]) (ae.refl H1) ht2
  have u2:=am (o:=.lst [.ref t2]) (ae.refl _) hl2
  have u3:=am (o:=.lst (List.replicate (b:Int).toNat [V.ref t2]).flatten) (ae.refl _) hm2
  have M2:upd (upd (upd H1 t2 (.tup [.str ("r":Str),.str ("q":Str)])) l2 (.lst [.ref t2])) m2 (.lst (List.replicate (b:Int).toNat [V.ref t2]).flatten) m2=some (.lst (List.replicate (b:Int).toNat [V.ref t2]).flatten):=ah
  have T2:=u3 _ _ (u2 _ _ T2)
  have s2:=(u1.trans u2).trans u3
  generalize upd (upd (upd H1 t2 (.tup [.str ("r":Str),.str ("q":Str)])) l2 (.lst [.ref t2])) m2 (.lst (List.replicate (b:Int).toNat [V.ref t2]).flatten)=H2 at s2 T2 M2 ⊢
  rw [eF,Int.toNat_natCast] at M2
  clear u1 u2 u3 hm2 hl2 ht2
  refine⟨m1,m2,_,_,rfl,rfl,s2 _ _ M1,M2,by rw [sizeLine_eq];simp;omega,fun n2 hn2=>?_⟩
  have N2:upd H2 n2 (.lst (List.replicate a (V.ref t1)++List.replicate b (V.ref t2))) n2=some (.lst (List.replicate a (V.ref t1)++List.replicate b (V.ref t2))):=ah
  have s3:=am (o:=.lst (List.replicate a (V.ref t1)++List.replicate b (V.ref t2))) (ae.refl H2) hn2
  generalize upd H2 n2 (.lst (List.replicate a (V.ref t1)++List.replicate b (V.ref t2)))=H3 at s3 N2 ⊢
  refine⟨by show 2<=sizeLine;decide,fun t3 ht3=>⟨by show 1<=sizeLine;decide,fun l3 hl3=>⟨_,rfl,l3,_,_,rfl,rfl,ah,by omega,by omega,?_,fun m3 hm3=>?_⟩⟩⟩
  ·rw [sizeLine_eq];simp;omega
  have T3:upd H3 t3 (.tup [.str ("p":Str),.str ("q":Str)]) t3=some (.tup [.str ("p":Str),.str ("q":Str)]):=ah
  have u1:=am (o:=.tup [.str ("p":Str),.str ("q":Str)]) (ae.refl H3) ht3
  have u2:=am (o:=.lst [.ref t3]) (ae.refl _) hl3
  have u3:=am (o:=.lst (List.replicate (c:Int).toNat [V.ref t3]).flatten) (ae.refl _) hm3
  have M3:upd (upd (upd H3 t3 (.tup [.str ("p":Str),.str ("q":Str)])) l3 (.lst [.ref t3])) m3 (.lst (List.replicate (c:Int).toNat [V.ref t3]).flatten) m3=some (.lst (List.replicate (c:Int).toNat [V.ref t3]).flatten):=ah
  have T3:=u3 _ _ (u2 _ _ T3)
  have s4:=(u1.trans u2).trans u3
  generalize upd (upd (upd H3 t3 (.tup [.str ("p":Str),.str ("q":Str)])) l3 (.lst [.ref t3])) m3 (.lst (List.replicate (c:Int).toNat [V.ref t3]).flatten)=H4 at s4 T3 M3 ⊢
  rw [eF,Int.toNat_natCast] at M3
  clear u1 u2 u3 hm3 hl3 ht3
  refine⟨n2,m3,_,_,rfl,rfl,s4 _ _ N2,M3,by rw [sizeLine_eq];simp;omega,fun n3 hn3=>?_⟩
  have N3:upd H4 n3 (.lst (List.replicate a (V.ref t1)++List.replicate b (V.ref t2)++List.replicate c (V.ref t3))) n3=some (.lst (List.replicate a (V.ref t1)++List.replicate b (V.ref t2)++List.replicate c (V.ref t3))):=ah
  have s5:=am (o:=.lst (List.replicate a (V.ref t1)++List.replicate b (V.ref t2)++List.replicate c (V.ref t3))) (ae.refl H4) hn3
  generalize upd H4 n3 (.lst (List.replicate a (V.ref t1)++List.replicate b (V.ref t2)++List.replicate c (V.ref t3)))=H5 at s5 N3 ⊢
  refine⟨by show 2<=sizeLine;decide,fun t4 ht4=>⟨by show 1<=sizeLine;decide,fun l4 hl4=>⟨_,rfl,l4,_,_,rfl,rfl,ah,by omega,by omega,?_,fun m4 hm4=>?_⟩⟩⟩
  ·rw [sizeLine_eq];simp;omega
  have T4:upd H5 t4 (.tup [.str ("q":Str),.str ("p":Str)]) t4=some (.tup [.str ("q":Str),.str ("p":Str)]):=ah
  have u1:=am (o:=.tup [.str ("q":Str),.str ("p":Str)]) (ae.refl H5) ht4
  have u2:=am (o:=.lst [.ref t4]) (ae.refl _) hl4
  have u3:=am (o:=.lst (List.replicate (d:Int).toNat [V.ref t4]).flatten) (ae.refl _) hm4
  have M4:upd (upd (upd H5 t4 (.tup [.str ("q":Str),.str ("p":Str)])) l4 (.lst [.ref t4])) m4 (.lst (List.replicate (d:Int).toNat [V.ref t4]).flatten) m4=some (.lst (List.replicate (d:Int).toNat [V.ref t4]).flatten):=ah
  have T4:=u3 _ _ (u2 _ _ T4)
  have s6:=(u1.trans u2).trans u3
  generalize upd (upd (upd H5 t4 (.tup [.str ("q":Str),.str ("p":Str)])) l4 (.lst [.ref t4])) m4 (.lst (List.replicate (d:Int).toNat [V.ref t4]).flatten)=H6 at s6 T4 M4 ⊢
  rw [eF,Int.toNat_natCast] at M4
  clear u1 u2 u3 hm4 hl4 ht4
  refine⟨n3,m4,_,_,rfl,rfl,s6 _ _ N3,M4,by rw [sizeLine_eq];simp;omega,fun n4 hn4=>?_⟩
  obtain⟨les,hles⟩:∃les:List Le,les=List.replicate a (t1,("r":Str),("p":Str))++List.replicate b (t2,("r":Str),("q":Str))++List.replicate c (t3,("p":Str),("q":Str))++List.replicate d (t4,("q":Str),("p":Str)):=⟨_,rfl⟩
  have el:List.replicate a (V.ref t1)++List.replicate b (V.ref t2)++List.replicate c (V.ref t3)++List.replicate d (V.ref t4)=aR les:=by rw [hles];simp [aR]
  have ep:les.map (·.2)=dW a b c d:=by rw [hles];simp
  have lz:les.length<=26:=by rw [hles];simp;omega
  have s26:=(s3.trans s4).trans (s5.trans s6)
  have et:∀x∈les,H6 x.1=some (.tup [.str x.2.1,.str x.2.2]):=fun x hx=>by
   rw [hles] at hx
   simp only [List.mem_append,List.mem_replicate] at hx
   rcases hx with ((⟨_,rfl⟩ | ⟨_,rfl⟩) | ⟨_,rfl⟩) | ⟨_,rfl⟩
   ·exact (s2.trans s26) _ _ T1
   ·exact s26 _ _ T2
   ·exact (s5.trans s6) _ _ T3
   ·exact T4
  rw [el]
  have N4:upd H6 n4 (.lst (aR les)) n4=some (.lst (aR les)):=ah
  have s7:=am (o:=.lst (aR les)) (ae.refl H6) hn4
  have s07:=((s1.trans s2).trans s26).trans s7
  have et:=fun x hx=>s7 _ _ (et x hx)
  generalize upd H6 n4 (.lst (aR les))=H7 at s07 N4 et ⊢
  clear s1 s2 s3 s4 s5 s6 s7 s26 T1 T2 T3 T4 M1 M2 M3 M4 N2 N3 hn4 hn3 hn2 el hles
  refine⟨_,rfl,n4,_,rfl,SqL.of N4,?_⟩
  refine jv (K:=K) (xs:=aR les) (fits (by simp;omega)) (fun j zs σ Hx=>(∃rs:List (Addr×Row),zs=aq rs/\(∀r∈rs,bh Hx r.1 r.2)/\rs.map (·.2)=(dZ a b c d).take j)/\ae H7 Hx/\∃g1 g2,σ=[g1,g2]) ⟨⟨[],rfl,(fun x hx=>nomatch hx),rfl⟩,ae.refl _,_,_,rfl⟩ (fun j zs σ Hx hj z=>by
    obtain⟨⟨rs,rfl,_,e⟩,s,_⟩:=z
    have:=congrArg List.length e
    simp at this
    exact⟨by simp;omega,SqL.of (s _ _ N4)⟩) ?_ ?_
  ·rintro j x zs σ Hx T hx ⟨⟨rs,rfl,hR,e⟩,sx,g1,g2,rfl⟩ hT
   obtain⟨r,hr',rfl⟩:=lK hx
   have hj:j < 26:=by have:=(List.getElem?_eq_some_iff.mp hr').1;omega
   have sT:=am (o:=.tup [.int j,.ref r.1]) (ae.refl Hx) hT
   have T3:upd Hx T (.tup [.int j,.ref r.1]) T=some (.tup [.int j,.ref r.1]):=ah
   generalize upd Hx T (.tup [.int j,.ref r.1])=Hy at sT T3 ⊢
   have r4:Sq K Hy r.1 [.str r.2.1,.str r.2.2]:=.inr (SqT.of ((sx.trans sT) _ _ (et r (List.mem_of_getElem? hr'))))
   refine⟨T,_,rfl,SqT.of T3,rfl,_,_,rfl,_,_,rfl,rfl,?_⟩
   unfold bq
   refine bJ ?_
   refine⟨_,rfl,.inr (.inr ⟨eE,j,97 + j,rfl,rfl,i8,eM (j:=j) rfl (jh hj),?_⟩)⟩
   refine⟨_,rfl,ay (j:=0) r4 rfl rfl ⟨_,rfl,ay (j:=1) r4 rfl rfl ⟨by show 3<=sizeLine;decide,fun tq htq=>?_⟩⟩⟩
   have uq:=am (o:=.tup [.str (ltr j),.str r.2.1,.str r.2.2]) (ae.refl Hy) htq
   refine⟨⟨rs++[(tq,ltr j,r.2.1,r.2.2)],by simp [aq],fun y hy=>?_,?_⟩,(sx.trans sT).trans uq,_,_,rfl⟩
   ·rcases List.mem_append.mp hy with z | z
    ·exact uq _ _ (sT _ _ (hR y z))
    ·rw [List.mem_singleton.mp z];exact ah
   ·have hp:(dW a b c d)[j]?=some r.2:=by rw [<- ep,List.getElem?_map,hr'];rfl
    rw [List.map_append,e,List.take_add_one,jA _ 0 j _ hp,Nat.zero_add]
    rfl
  rintro zs σ Hx ⟨⟨rs,rfl,hR,e⟩,sx,g1,g2,rfl⟩ ti hti
  rw [List.take_of_length_le (by rw [gB,<- ep];simp)] at e
  have s8:=am (o:=.lst (aq rs)) (ae.refl Hx) hti
  have t8:upd Hx ti (.lst (aq rs)) ti=some (.lst (aq rs)):=ah
  generalize upd Hx ti (.lst (aq rs))=H8 at s8 t8 ⊢
  refine⟨by show 3<=sizeLine;decide,fun pa hpa=>?_⟩
  have s9:=am (o:=.tup [.str ("p":Str),.str ("q":Str),.str ("r":Str)]) (ae.refl H8) hpa
  have p9:upd H8 pa (.tup [.str ("p":Str),.str ("q":Str),.str ("r":Str)]) pa=some (.tup [.str ("p":Str),.str ("q":Str),.str ("r":Str)]):=ah
  generalize upd H8 pa (.tup [.str ("p":Str),.str ("q":Str),.str ("r":Str)])=H9 at s9 p9 ⊢
  refine⟨_,rfl,ti,_,rfl,.inl ⟨SqL.of (s9 _ _ t8),fun ra hra=>⟨by show 2<=sizeLine;decide,fun v hv=>?_⟩⟩⟩
  have s10:=am (o:=.tup (aq rs)) (ae.refl H9) hra
  have r10:upd H9 ra (.tup (aq rs)) ra=some (.tup (aq rs)):=ah
  generalize upd H9 ra (.tup (aq rs))=H10 at s10 r10 hv ⊢
  have s11:=am (o:=.tup [.ref pa,.ref ra]) (ae.refl H10) hv
  exact k v pa ra rs _ (((s07.trans sx).trans (s8.trans s9)).trans (s10.trans s11)) ⟨ah,s11 _ _ (s10 _ _ p9),s11 _ _ r10,fun r hr=>s11 _ _ (s10 _ _ (s9 _ _ (s8 _ _ (hR r hr))))⟩ e
end
theorem sJ {p:Addr}{H H1 H2:Hp} (s:ae H H1) (hp:H p=none) (k:Kp [p] H1 H2):ae H H2:=fun b o e=>k b o (s b o e) (by simp;exact aI e hp)
theorem mF (xs:List V):bD xs none (some 10)=xs.take 10:=by
 unfold bD
 rw [HT.wc,show (10:Int)=((10:Nat):Int) from rfl,HT.wj]
 rw [List.drop_zero,Nat.sub_zero]
 rcases Nat.le_total 10 xs.length with h | h
 ·rw [Nat.min_eq_left h]
 ·rw [Nat.min_eq_right h,List.take_length,List.take_of_length_le h]
theorem jr {ps:List Str}{rs:List (Addr×Row)} (G:Good ps (rs.map (·.2))) (n:Nat):Good ps ((rs.take n).map (·.2)):=by
 have hs:((rs.take n).map (·.2)).Sublist (rs.map (·.2)):=(List.take_sublist n rs).map _
 exact⟨G.ne,G.nm,G.so,fun r hr=>G.rn r (hs.subset hr),G.rso.sublist (hs.map _),G.pz,Nat.le_trans hs.length_le G.rz⟩
theorem rT {x:Int} (h:100 < x):¬ x<=100:=by omega
section
variable {P:Program}{w:World}{K:PySem.W.Frag}{mg:Str->Option Value}{base:Heap}
noncomputable def gi (K:PySem.W.Frag):Sp:=fun vs H Q _=>∃(a:Addr) (ns:List Int),vs=[.ref a]/\SqL K H a (ns.map V.int)/\ns.length<=63/\∀H',Q (.bl true) H'
noncomputable abbrev N39:List Str:=["_law_script","_law_k","_law_pot_here","_law_web_here","_law_root","_law_hundred"]
theorem cQ:aQ N39 ["_law_script"] (aC (top 39)):=⟨rfl,rfl,rfl,by decide +kernel,rfl,by decide +kernel,by decide +kernel⟩
theorem ua {f:Addr}{fd:FuncData} (F:Fun K "law" "law" (top 39) f fd) (B:Bl mg) (Fp:Fn P w K mg base 1 "_law_pot" ["_law_script","_law_k"] (mi K)) (Fg:Fn P w K mg base 3 "_law_web" ["_law_pot_here","_law_most_places","_law_most_trees","_law_most_more"] lZ)
  (Fr:Fn P w K mg base 8 "_law_right" ["_law_web_here","_law_root"] lw) (Fd:Fn P w K mg base 1 "_law_digit" ["_law_pot_here","_law_many"] eO) (Ft:Fn P w K mg base 7 "_law_told" ["_law_web_here","_law_root"] iy) (Ff:Fn P w K mg base 1 "_law_fan" ["_law_first","_law_second","_law_over","_law_back"] mT) :
  aG P w K mg base CX0 9 f fd ["_law_script"] (gi K):=by
 refine F.ok cQ (fun vs H Q E h=>?_) (fun cdv A outer s H vs Q E hr h=>?_)
 ·obtain⟨a,ns,rfl,_⟩:=h
  rfl
 ·obtain⟨a,sc,rfl,hS,hlen,k⟩:=h
  have hr1:aL 1 _:=hr.mono (by decide)
  have hr3:aL 3 _:=hr.mono (by decide)
  have hr7:aL 7 _:=hr.mono (by decide)
  refine' ⟨_,?d0,?main⟩
  case' d0=>refine' ao (b9 PassesOwn.never rfl (dm rfl B.range (aa (aD (ju rfl) rfl B.max mP (aa ai (aa (aD (pE rfl) rfl B.min uO (aa ai (aa (aD bA rfl B.len PySem.boot_len (aa (pv 0) ag)) ag))) ag))) ag)) (be (i:=1) cQ.nd rfl (Or.inl rfl)) ?e0) ?d1
  case' e0=>refine' ao (aE (i:=2) cQ.nd rfl (Or.inl rfl) (av Fp hr1 (aa (pv 0) (aa (pv 1) ag)))) ?e1
  case' e1=>refine' ao (da (av Fg hr3 (aa (pv 2) (aa ai (aa ai (aa ai ag))))) (cM rfl (n:=2) (aU (be (i:=3) cQ.nd rfl (Or.inl rfl)) (aU (be (i:=4) cQ.nd rfl (Or.inl rfl)) bO)))) ?e2
  case' e2=>refine' ao (aE (i:=3) cQ.nd rfl (Or.inl rfl) (bz (aa (ax aP (pv 3) ai (fun _ _=>rfl)) (aa (cW hV (ax aP (pv 3) ai (fun _ _=>rfl)) cX (cZ ai)) ag)))) ?e3
  case e3=>exact ar (aY (bZ (bV (av Fr hr (aa (pv 3) (aa (pv 4) ag))))) cV a9)
  case' d1=>refine' ao (aE (i:=2) cQ.nd rfl (Or.inl rfl) (av Fp hr1 (aa (pv 0) (aa ai ag)))) ?d2
  case' d2=>refine' ao (aY (aV cO (av Fd hr1 (aa (pv 2) (aa ai ag))) ai (aN _)) ?f0 a9) ?d3
  case' f0=>refine' ao (aE (i:=5) cQ.nd rfl (Or.inl rfl) (av Ft hr7 (aa (av Ff hr1 (aa ai (aa ai (aa ai (aa ai ag))))) (aa bb ag)))) ?f1
  case f1=>exact ar (aY (PW.pt (dg (bZ (bV (aD (cU (T:="list")) rfl B.isinstance cD (aa (pv 5) (aa (cY (v:=.ty "list") rfl B.list lX rfl) ag))))) (dM (aV bI (aD bA rfl B.len PySem.boot_len (aa (pv 5) ag)) ai (aN _))))) cV a9)
  case' d3=>refine' ao (aY (aV bI (av Ft hr7 (aa (av Ff hr1 (aa ai (aa ai (aa ai (aa ai ag))))) (aa bb ag))) bb (aN _)) cV a9) ?d4
  case d4=>exact ar (aO (dE cO (av Ft hr7 (aa (av Ff hr1 (aa ai (aa (aH cL ai (av Fd hr1 (aa (pv 2) (aa ai ag)))) (aa ai (aa ai ag))))) (aa bb ag))) bb (aN _)))
  case main =>
  refine⟨_,rfl,a,_,rfl,.inl hS,_,_,rfl,_,_,rfl,_,rfl,?_,?_,?_⟩
  ·repeat' split
   all_goals omega
  ·repeat' split
   all_goals omega
  have hn9:∀x:Int,x=(if (if ((sc.map V.int).length:Int) < (3:Int) then ((sc.map V.int).length:Int) else 3) > 1 then (if ((sc.map V.int).length:Int) < (3:Int) then ((sc.map V.int).length:Int) else 3) else 1)->x.toNat<=8:=fun x hx=>by
   subst hx
   repeat' split
   all_goals omega
  refine gx (fun i σ H1=>(∃g1 g2 g3 g4,σ=[some (.ref a),g1,g2,g3,g4,none])/\ae H H1) ⟨⟨_,_,_,_,rfl⟩,ae.refl _⟩ ?_ ?_
  ·rintro i σ H1 hi ⟨⟨g1,g2,g3,g4,rfl⟩,s1⟩
   have hi8:i < 8:=Nat.lt_of_lt_of_le hi (hn9 _ rfl)
   refine⟨_,rfl,_,rfl,a,sc,_,rfl,s1.seq hS,by omega,by omega,fun p H2 s2 p0 P2=>?_⟩
   refine⟨_,rfl,p,rfl,P2,fun w0 u pa ra root ps rs H3 P3 w3 W3 G p5 r26 hroot K3=>?_⟩
   refine⟨w0,_,rfl,SqT.of w3,rfl,_,_,rfl,_,_,rfl,rfl,?_⟩
   have s03:=s1.trans (sJ s2 p0 K3)
   have fin:∀(ra':Addr) (H4:Hp),ae H3 H4->H4 ra'=some (.tup (aq (rs.take 10)))->∀(v:Addr),H4 v=none->bH (upd H4 v (.tup [.ref pa,.ref ra'])) v pa ra' ps (rs.take 10)/\ae H3 (upd H4 v (.tup [.ref pa,.ref ra'])):=fun ra' H4 s4 r4 v hv=>by
    have s5:=am (o:=.tup [.ref pa,.ref ra']) (ae.refl H4) hv
    exact⟨⟨ah,s5 _ _ (s4 _ _ W3.pl),s5 _ _ r4,fun r hr=>s5 _ _ (s4 _ _ (W3.rows r (List.mem_of_mem_take hr)))⟩,s4.trans s5⟩
   refine⟨_,rfl,ay (j:=0) (.inr (SqT.of W3.tp)) rfl rfl ?_⟩
   refine⟨_,rfl,ay (j:=1) (.inr (SqT.of W3.tp)) rfl rfl ?_⟩
   refine⟨_,rfl,ra,_,rfl,SqT.of W3.rl,fun hcut=>⟨by show 2<=sizeLine;decide,fun v hv=>?_⟩,fun ra' hra'=>⟨by show 2<=sizeLine;decide,fun v hv=>?_⟩⟩
   ·rw [mF] at hcut
    have e:aq (rs.take 10)=aq rs:=by rw [<- hcut];simp [aq]
    refine⟨_,rfl,_,rfl,?_⟩
    obtain⟨f1,f2⟩:=fin ra H3 (ae.refl _) (by rw [e];exact W3.rl) v hv
    exact⟨v,pa,ra,root,ps,rs.take 10,rfl,f1,jr G 10,p5,by simp;omega,hroot,fun H6 s6=>⟨_,rfl,bE ⟨⟨_,_,_,_,rfl⟩,s03.trans (f2.trans s6)⟩⟩⟩
   ·rw [mF] at hv ⊢
    have s4:=am (o:=.tup ((aq rs).take 10)) (ae.refl H3) hra'
    have r4:upd H3 ra' (.tup ((aq rs).take 10)) ra'=some (.tup (aq (rs.take 10))):=by rw [ah];simp [aq]
    generalize upd H3 ra' (.tup ((aq rs).take 10))=H4 at s4 r4 hv ⊢
    refine⟨_,rfl,_,rfl,?_⟩
    obtain⟨f1,f2⟩:=fin ra' H4 s4 r4 v hv
    exact⟨v,pa,ra',root,ps,rs.take 10,rfl,f1,jr G 10,p5,by simp;omega,hroot,fun H6 s6=>⟨_,rfl,bE ⟨⟨_,_,_,_,rfl⟩,s03.trans (f2.trans s6)⟩⟩⟩
  rintro σ H1 ⟨⟨g1,g2,g3,g4,rfl⟩,s1⟩
  refine⟨_,rfl,a,sc,0,rfl,s1.seq hS,by omega,by omega,fun p H2 s2 p0 P2=>?_⟩
  dsimp only [bM]
  refine iL (fun σ H4=>(∃g5,σ=[some (.ref a),g1,some (.ref p),g3,g4,g5])/\Pot H4 p) (fun N key=>?_) ?_
  ·refine⟨_,rfl,p,8,rfl,P2,by decide,by decide,fun r8 H3 r0 r1 P3 K3=>⟨rfl,_,rfl,?_⟩⟩
   refine bj (fun c=>?_) (fun c=>key _ _ ⟨⟨_,rfl⟩,P3⟩)
   refine⟨10,10,0,0,rfl,by decide,fun v pa ra rs H4 s4 W4 e4=>?_⟩
   have G4:Good pqr (rs.map (·.2)):=by rw [e4];exact gE (by decide)
   refine⟨v,pa,ra,("r":Str),pqr,rs,rfl,W4,G4,by decide,by decide,fun hc q lts H5 s5 hq h5 hL e5=>?_,fun hc=>absurd (by rw [e4,kK];decide) hc⟩
   have l5:(lts.length:Int)=100:=by
    have h1:=congrArg List.length e5
    rw [List.length_map,List.length_map] at h1
    have h2:=mS (root:=("r":Str)) G4
    rw [<- h1] at h2
    rw [h2,e4,kK]
   refine⟨_,rfl,_,_,true,rfl,.lst h5,rfl,true,rfl,bE ⟨_,rfl,q,_,rfl,.inl (SqL.of h5),rfl,_,rfl,?_⟩⟩
   have e:(!decide (V.int ((aX lts).length:Int)=V.int 100))=false:=by simp;omega
   rw [e]
   exact bE (key _ _ ⟨⟨_,rfl⟩,P3.keep fun o ho=>s5 _ _ (s4 _ _ ho)⟩)
  rintro σ H4 ⟨⟨g5,rfl⟩,P4⟩
  refine⟨5,1,19,1,rfl,by decide,fun v pa ra rs H5 s5 W5 e5=>?_⟩
  refine⟨v,pa,ra,("r":Str),pqr,rs,rfl,W5,by rw [e5];exact gE (by decide),by decide,by decide,fun hc=>absurd hc (by rw [e5,rW];decide),fun hc H6 s6=>⟨rfl,_,rfl,?_⟩⟩
  rw [ne_self]
  refine bE ?_
  have P6:Pot H6 p:=P4.keep fun o ho=>s6 _ _ (s5 _ _ ho)
  refine⟨_,rfl,p,5,rfl,P6,by decide,by decide,fun r5 H7 r0 r1 P7 K7=>⟨_,_,rfl,rfl,?_⟩⟩
  obtain⟨m,rfl⟩:∃m:Nat,r5=(m:Int):=⟨r5.toNat,by omega⟩
  refine⟨11,10 + m,0,0,by simp,by omega,fun v pa ra rs H8 s8 W8 e8=>?_⟩
  have hm:=pL ⟨m,by omega⟩
  refine⟨v,pa,ra,("r":Str),pqr,rs,rfl,W8,by rw [e8];exact gE (by omega),by decide,by decide,fun hc=>absurd hc (by rw [e8];exact rT hm),fun hc H9 s9=>⟨rfl,?_⟩⟩
  rw [eq_self]
  exact k H9
end
noncomputable def aS (K:PySem.W.Frag) (x:Str) (st:Stmt):Prop:=∃(f:Addr) (oc:Value) (od:Option Addr) (kV doc pm:Value) (an:Option Addr) (cd ct:Value) (sl:Array (Option Value)),
 PySem.W.nsIn K mainGlobals x=some (some (.ref f))/\K.lookup f=some ⟨oc,od,.func (PySem.W.fnOf x x (cu st) (bX st) (aC st) .none kV doc pm an cd ct),sl⟩/\PySem.W.codeIn K cd x=true/\PySem.W.keepIn K (.ref f)=true
theorem wt {K:PySem.W.Frag}{x:Str}{st:Stmt}{f:Addr}{oc:Value}{od:Option Addr}{kV doc pm:Value}{an:Option Addr}{cd ct:Value}{sl:Array (Option Value)} (a:PySem.W.nsIn K mainGlobals x=some (some (.ref f)))
  (l:K.lookup f=some ⟨oc,od,.func (PySem.W.fnOf x x (cu st) (bX st) (aC st) .none kV doc pm an cd ct),sl⟩) (c:PySem.W.codeIn K cd x=true) (k:PySem.W.keepIn K (.ref f)=true):aS K x st :=
 ⟨f,oc,od,kV,doc,pm,an,cd,ct,sl,a,l,c,k⟩
theorem ba {P:Program}{w:World}{K:PySem.W.Frag}{mg:Str->Option Value}{base h:Heap}{x:Str}{st:Stmt}{k:Nat}{ps:List Str}{sp:Sp} (D:aS K x st) (X:K.In h) (G:h.Ns mainGlobals mg)
  (hb:∀(kV doc pm:Value) (an:Option Addr) (cdv ct:Value) (us:List Value),us.length=ps.length->bindArgs (PySem.W.fnOf x x (cu st) (bX st) (aC st) .none kV doc pm an cdv ct) ⟨us,[]⟩=pure (ps.zip us))
  (ok:∀(f:Addr) (fd:FuncData),Fun K x x st f fd->aG P w K mg base CX0 k f fd ps sp):Fn P w K mg base k x ps sp:=by
 obtain⟨f,oc,od,kV,doc,pm,an,cd,ct,sl,a,l,c,kk⟩:=D
 have F:=ig (st:=st) l c kk
 exact⟨f,_,PySem.W.mg_of X G a,kk,F.binds hb,ok f _ F⟩
theorem qR {P:Program}{w:World}{K:PySem.W.Frag}{mg:Str->Option Value}{base h:Heap}{x:Str}{st:Stmt}{k:Nat}{ps:List Str}{sp:Sp} (D:aS K x st) (X:K.In h) (G:h.Ns mainGlobals mg)
  (hb:∀(kV doc pm:Value) (an:Option Addr) (cdv ct:Value) (us:List Value),us.length=ps.length->bindArgs (PySem.W.fnOf x x (cu st) (bX st) (aC st) .none kV doc pm an cdv ct) ⟨us,[]⟩=pure (ps.zip us))
  (ok:∀(f:Addr) (fd:FuncData),Fun K x x st f fd->aG P w K mg base (CXE P w) k f fd ps sp):FnX P w K mg base k x ps sp:=by
 obtain⟨f,oc,od,kV,doc,pm,an,cd,ct,sl,a,l,c,kk⟩:=D
 have F:=ig (st:=st) l c kk
 exact⟨f,_,PySem.W.mg_of X G a,kk,F.binds hb,ok f _ F⟩
theorem wu {l:PySem.W.OpenLaw}{w:World}{K:PySem.W.Frag}{h:Heap}{mg:Str->Option Value}{fa:Addr} (X:K.In h) (G:h.Ns mainGlobals mg) (hfa:mg "law"=some (.ref fa)) (B:Bl mg) {R T:Addr}
  (cR:PySem.W.nsIn K mainGlobals "RootError"=some (some (.ref R))) (eR:PySem.W.excIn K R veM "ValueError.__new__"=true)
  (cT:PySem.W.nsIn K mainGlobals "TooMany"=some (some (.ref T))) (eT:PySem.W.excIn K T veM "ValueError.__new__"=true)
  (uTR:gX K T R=true)
  (iTT:PySem.W.isIn K (.ref T) T=true)
  (d7:aS K "is_name" (top 7))
  (d8:aS K "is_rising" (top 8))
  (d9:aS K "is_sorted_names" (top 9))
  (d10:aS K "is_among" (top 10))
  (d11:aS K "is_tie_row" (top 11))
  (d12:aS K "is_web" (top 12))
  (d13:aS K "need_web" (top 13))
  (d14:aS K "need_place" (top 14))
  (d16:aS K "table_of" (top 16))
  (d17:aS K "cleared" (top 17))
  (d18:aS K "determinant" (top 18))
  (d21:aS K "count_of" (top 21))
  (d22:aS K "only" (top 22))
  (d23:aS K "count_by" (top 23))
  (d24:aS K "tree_of_number" (top 24))
  (d25:aS K "count" (top 25))
  (d26:aS K "all_trees" (top 26))
  (d28:aS K "_law_pot" (top 28))
  (d29:aS K "_law_digit" (top 29))
  (d30:aS K "_law_name" (top 30))
  (d31:aS K "_law_grown" (top 31))
  (d32:aS K "_law_web" (top 32))
  (d33:aS K "_law_choices" (top 33))
  (d34:aS K "_law_is_tree" (top 34))
  (d35:aS K "_law_due" (top 35))
  (d36:aS K "_law_told" (top 36))
  (d37:aS K "_law_right" (top 37))
  (d38:aS K "_law_fan" (top 38))
  (d39:aS K "law" (top 39)) :
  ∃fd:FuncData,(∀(s:Shared) (v:Value),BindsTo s fd ⟨[v],[]⟩ [("_law_script",v)])/\∀base:Heap,K.In base->base.Ns mainGlobals mg->aG l.prog w K mg base CX0 9 fa fd ["_law_script"] (gi K):=by
 obtain⟨f,oc,od,kV,doc,pm,an,cd,ct,sl,a,lk,c,kk⟩:=d39
 have e:=hfa.symm.trans (PySem.W.mg_of X G a)
 cases e
 refine⟨PySem.W.fnOf "law" "law" (cu (top 39)) (bX (top 39)) (aC (top 39)) .none kV doc pm an cd ct,fun s v=>.of_eq rfl,fun base KB _=>?_⟩
 have gR:=PySem.W.mg_of X G cR
 have xR:=kT KB eR
 have gT:=PySem.W.mg_of X G cT
 have xT:=kT KB eT
 have vTR:=pJ KB uTR
 have n7:=ba (P:=l.prog) (w:=w) (base:=base) d7 X G (ps:=["thing"]) (fun _ _ _ _ _ _ us hl=>match us,hl with | [_],_=>rfl) fun f fd F=>oz F B
 have n8:=ba (P:=l.prog) (w:=w) (base:=base) d8 X G (ps:=["names"]) (fun _ _ _ _ _ _ us hl=>match us,hl with | [_],_=>rfl) fun f fd F=>nK F B
 have n9:=ba (P:=l.prog) (w:=w) (base:=base) d9 X G (ps:=["thing"]) (fun _ _ _ _ _ _ us hl=>match us,hl with | [_],_=>rfl) fun f fd F=>nE F B n7 n8
 have n10:=ba (P:=l.prog) (w:=w) (base:=base) d10 X G (ps:=["thing","names"]) (fun _ _ _ _ _ _ us hl=>match us,hl with | [_,_],_=>rfl) fun f fd F=>nV F B
 have n11:=ba (P:=l.prog) (w:=w) (base:=base) d11 X G (ps:=["thing","places"]) (fun _ _ _ _ _ _ us hl=>match us,hl with | [_,_],_=>rfl) fun f fd F=>nA F B n7 n10
 have n12:=ba (P:=l.prog) (w:=w) (base:=base) d12 X G (ps:=["thing"]) (fun _ _ _ _ _ _ us hl=>match us,hl with | [_],_=>rfl) fun f fd F=>pA F B n9 n11 n8
 have n13:=ba (P:=l.prog) (w:=w) (base:=base) d13 X G (ps:=["thing"]) (fun _ _ _ _ _ _ us hl=>match us,hl with | [_],_=>rfl) fun f fd F=>nU F n12
 have n14:=ba (P:=l.prog) (w:=w) (base:=base) d14 X G (ps:=["web","thing"]) (fun _ _ _ _ _ _ us hl=>match us,hl with | [_,_],_=>rfl) fun f fd F=>nB F n10
 have n16:=ba (P:=l.prog) (w:=w) (base:=base) d16 X G (ps:=["places","root","rows"]) (fun _ _ _ _ _ _ us hl=>match us,hl with | [_,_,_],_=>rfl) fun f fd F=>qA F B
 have n17:=ba (P:=l.prog) (w:=w) (base:=base) d17 X G (ps:=["left","last"]) (fun _ _ _ _ _ _ us hl=>match us,hl with | [_,_],_=>rfl) fun f fd F=>om F B
 have n18:=ba (P:=l.prog) (w:=w) (base:=base) d18 X G (ps:=["rows"]) (fun _ _ _ _ _ _ us hl=>match us,hl with | [_],_=>rfl) fun f fd F=>tE F B n17
 have n21:=ba (P:=l.prog) (w:=w) (base:=base) d21 X G (ps:=["places","root","rows"]) (fun _ _ _ _ _ _ us hl=>match us,hl with | [_,_,_],_=>rfl) fun f fd F=>n0 F n18 n16
 have n22:=ba (P:=l.prog) (w:=w) (base:=base) d22 X G (ps:=["rows","row"]) (fun _ _ _ _ _ _ us hl=>match us,hl with | [_,_],_=>rfl) fun f fd F=>sF F
 have n23:=ba (P:=l.prog) (w:=w) (base:=base) d23 X G (ps:=["places","root","rows","row"]) (fun _ _ _ _ _ _ us hl=>match us,hl with | [_,_,_,_],_=>rfl) fun f fd F=>nW F n21 n22
 have n24:=ba (P:=l.prog) (w:=w) (base:=base) d24 X G (ps:=["web","root","number"]) (fun _ _ _ _ _ _ us hl=>match us,hl with | [_,_,_],_=>rfl) fun f fd F=>uQ F B n23 n22
 have n25:=ba (P:=l.prog) (w:=w) (base:=base) d25 X G (ps:=["web","root"]) (fun _ _ _ _ _ _ us hl=>match us,hl with | [_,_],_=>rfl) fun f fd F=>pR F n13 n14 n21
 have n26:=qR (P:=l.prog) (w:=w) (base:=base) d26 X G (ps:=["web","root"]) (fun _ _ _ _ _ _ us hl=>match us,hl with | [_,_],_=>rfl) fun f fd F=>uE F B gT xT n25 n24
 have n28:=ba (P:=l.prog) (w:=w) (base:=base) d28 X G (ps:=["_law_script","_law_k"]) (fun _ _ _ _ _ _ us hl=>match us,hl with | [_,_],_=>rfl) fun f fd F=>uK F B
 have n29:=ba (P:=l.prog) (w:=w) (base:=base) d29 X G (ps:=["_law_pot_here","_law_many"]) (fun _ _ _ _ _ _ us hl=>match us,hl with | [_,_],_=>rfl) fun f fd F=>qk F B
 have n30:=ba (P:=l.prog) (w:=w) (base:=base) d30 X G (ps:=["_law_pot_here","_law_k"]) (fun _ _ _ _ _ _ us hl=>match us,hl with | [_,_],_=>rfl) fun f fd F=>rp F B n29
 have n31:=ba (P:=l.prog) (w:=w) (base:=base) d31 X G (ps:=["_law_pot_here","_law_places","_law_root"]) (fun _ _ _ _ _ _ us hl=>match us,hl with | [_,_,_],_=>rfl) fun f fd F=>qm F B n29
 have n32:=ba (P:=l.prog) (w:=w) (base:=base) d32 X G (ps:=["_law_pot_here","_law_most_places","_law_most_trees","_law_most_more"]) (fun _ _ _ _ _ _ us hl=>match us,hl with | [_,_,_,_],_=>rfl) fun f fd F=>tW F B n29 n30 n31
 have n33:=ba (P:=l.prog) (w:=w) (base:=base) d33 X G (ps:=["_law_web_here","_law_root"]) (fun _ _ _ _ _ _ us hl=>match us,hl with | [_,_],_=>rfl) fun f fd F=>oC F B
 have n34:=ba (P:=l.prog) (w:=w) (base:=base) d34 X G (ps:=["_law_choice","_law_root"]) (fun _ _ _ _ _ _ us hl=>match us,hl with | [_,_],_=>rfl) fun f fd F=>sX F B
 have n35:=ba (P:=l.prog) (w:=w) (base:=base) d35 X G (ps:=["_law_web_here","_law_root"]) (fun _ _ _ _ _ _ us hl=>match us,hl with | [_,_],_=>rfl) fun f fd F=>uj F B n33 n34
 have n36:=ba (P:=l.prog) (w:=w) (base:=base) d36 X G (ps:=["_law_web_here","_law_root"]) (fun _ _ _ _ _ _ us hl=>match us,hl with | [_,_],_=>rfl) fun f fd F=>rM F B gT iTT gR xR vTR n26
 have n37:=ba (P:=l.prog) (w:=w) (base:=base) d37 X G (ps:=["_law_web_here","_law_root"]) (fun _ _ _ _ _ _ us hl=>match us,hl with | [_,_],_=>rfl) fun f fd F=>pH F B n35 n36
 have n38:=ba (P:=l.prog) (w:=w) (base:=base) d38 X G (ps:=["_law_first","_law_second","_law_over","_law_back"]) (fun _ _ _ _ _ _ us hl=>match us,hl with | [_,_,_,_],_=>rfl) fun f fd F=>ub F B
 exact ua (ig (st:=top 39) lk c kk) B n28 n32 n37 n29 n36 n38
theorem wx {K:PySem.W.Frag}{h:Heap}{mg:Str->Option Value} (X:K.In h) (G:h.Ns mainGlobals mg) {t_most:Tok}{t_lng:Tok}
  (z_len:PySem.W.nsIn K mainGlobals "len"=some none)
  (z_isinstance:PySem.W.nsIn K mainGlobals "isinstance"=some none)
  (z_all:PySem.W.nsIn K mainGlobals "all"=some none)
  (z_range:PySem.W.nsIn K mainGlobals "range"=some none)
  (z_sorted:PySem.W.nsIn K mainGlobals "sorted"=some none)
  (z_repr:PySem.W.nsIn K mainGlobals "repr"=some none)
  (z_max:PySem.W.nsIn K mainGlobals "max"=some none)
  (z_min:PySem.W.nsIn K mainGlobals "min"=some none)
  (z_str:PySem.W.nsIn K mainGlobals "str"=some none)
  (z_tuple:PySem.W.nsIn K mainGlobals "tuple"=some none)
  (z_list:PySem.W.nsIn K mainGlobals "list"=some none)
  (z_int:PySem.W.nsIn K mainGlobals "int"=some none)
  (z_bool:PySem.W.nsIn K mainGlobals "bool"=some none)
  (z_zip:PySem.W.nsIn K mainGlobals "zip"=some none)
  (z_divmod:PySem.W.nsIn K mainGlobals "divmod"=some none)
  (z_abs:PySem.W.nsIn K mainGlobals "abs"=some none)
  (z_set:PySem.W.nsIn K mainGlobals "set"=some none)
  (z_enumerate:PySem.W.nsIn K mainGlobals "enumerate"=some none)
  (z_dict:PySem.W.nsIn K mainGlobals "dict"=some none)
  (z_most:PySem.W.nsIn K mainGlobals "MOST_LISTED"=some (some (.int 100 t_most)))
  (z_lng:PySem.W.nsIn K mainGlobals "LONGEST_NAME"=some (some (.int 8 t_lng)))
  : Bl mg :=
 ⟨PySem.W.mg_none_of X G z_len,PySem.W.mg_none_of X G z_isinstance,PySem.W.mg_none_of X G z_all,PySem.W.mg_none_of X G z_range,PySem.W.mg_none_of X G z_sorted,PySem.W.mg_none_of X G z_repr,PySem.W.mg_none_of X G z_max,PySem.W.mg_none_of X G z_min,PySem.W.mg_none_of X G z_str,PySem.W.mg_none_of X G z_tuple,PySem.W.mg_none_of X G z_list,PySem.W.mg_none_of X G z_int,PySem.W.mg_none_of X G z_bool,PySem.W.mg_none_of X G z_zip,PySem.W.mg_none_of X G z_divmod,PySem.W.mg_none_of X G z_abs,PySem.W.mg_none_of X G z_set,PySem.W.mg_none_of X G z_enumerate,PySem.W.mg_none_of X G z_dict,⟨t_most,PySem.W.mg_of X G z_most⟩,⟨t_lng,PySem.W.mg_of X G z_lng⟩⟩
theorem walk {l:PySem.W.OpenLaw}{q:Program}{loose:List Str}{XP:(Str->Option Value)->Heap->Prop}{YP:World->Heap->Prop}{d:DefRec}{K:Params->PySem.W.Frag} (hn:l.most=some 63) (hdf:d.params.defaults=[])
  (hY:∀(w:World) (h:Heap),YP w h->(K w.params).In h)
  (F:∀(w:World) (mg:Str->Option Value) (fa:Addr) (h:Heap),(K w.params).In h->h.Ns mainGlobals mg->mg d.name=some (.ref fa) ->
   ∃fd:FuncData,(∀(s:Shared) (u:Value),BindsTo s fd ⟨[u],[]⟩ [("_law_script",u)])/\∀base:Heap,(K w.params).In base->base.Ns mainGlobals mg->aG l.prog w (K w.params) mg base CX0 9 fa fd ["_law_script"] (gi (K w.params))) :
  PySem.W.WalkO q loose XP YP l.row.toRowW d [] (fun f vs=>PySem.call f vs) :=
 L2.we (n:=63) (k:=9) (x:="_law_script") (CX:=fun _=>CX0) (sp:=fun w=>gi (K w.params)) hn (by decide) hdf ⟨rfl,by decide,by decide,rfl⟩ hY F (fun _ _ a ns hl _ hS=>⟨a,ns,rfl,hS,hl,fun _=>rfl⟩) fun _ _ _ _ _ z=>z
end K83
theorem PySem.W.Fast.tw10348288644627289003 : True := trivial
theorem PySem.W.Fast.tw3394011172754848274 : True := trivial
theorem PySem.W.Fast.tw16761223510243807526 : True := trivial
theorem PySem.W.Fast.tw3308486593457357212 : True := trivial
theorem PySem.W.Fast.tw7001802647132722682 : True := trivial
theorem PySem.W.Fast.tw1857870751910925168 : True := trivial
theorem PySem.W.Fast.tw6272648425008759541 : True := trivial
theorem PySem.W.Fast.tw4916787842327681619 : True := trivial
theorem PySem.W.Fast.tw2824917750212993162 : True := trivial
theorem PySem.W.Fast.tw2764750135362870649 : True := trivial
theorem PySem.W.Fast.tw3620138449544558064 : True := trivial
theorem PySem.W.Fast.tw1005128888872240361 : True := trivial
theorem PySem.W.Fast.tw9703933008252530838 : True := trivial
theorem PySem.W.Fast.tw17331869699316704840 : True := trivial
theorem PySem.W.Fast.tw9762300428663698108 : True := trivial
theorem PySem.W.Fast.tw2848041084065167579 : True := trivial
theorem PySem.W.Fast.tw13234764183208822685 : True := trivial
theorem PySem.W.Fast.tw16610308535051481455 : True := trivial
theorem PySem.W.Fast.tw12207545225808600371 : True := trivial
theorem PySem.W.Fast.tw3308960434878195172 : True := trivial
theorem PySem.W.Fast.tw3538441870083230332 : True := trivial
theorem PySem.W.Fast.tw5298178896951794108 : True := trivial
theorem PySem.W.Fast.tw18383865928059952052 : True := trivial
theorem PySem.W.Fast.tw1153527261828822688 : True := trivial
theorem PySem.W.Fast.tw10913907344572997212 : True := trivial
theorem PySem.W.Fast.tw13150504799550285592 : True := trivial
theorem PySem.W.Fast.tw12463173940368721411 : True := trivial
theorem PySem.W.Fast.tw17765570127552995362 : True := trivial
theorem PySem.W.Fast.tw6324670029770267790 : True := trivial
theorem PySem.W.Fast.tw12657188333176174727 : True := trivial
theorem PySem.W.Fast.tw10210115693057950070 : True := trivial
theorem PySem.W.Fast.tw1754122220736750475 : True := trivial
theorem PySem.W.Fast.tw1885282721294580520 : True := trivial
theorem PySem.W.Fast.tw2680694600775578527 : True := trivial
theorem PySem.W.Fast.tw6908501907682974154 : True := trivial
theorem PySem.W.Fast.tw13514200938088933614 : True := trivial
theorem PySem.W.Fast.tw745208308985153293 : True := trivial
theorem PySem.W.Fast.tw1624156698954271775 : True := trivial
theorem PySem.W.Fast.tw10438363324794112452 : True := trivial
theorem PySem.W.Fast.tw17291111612802446822 : True := trivial
theorem PySem.W.Fast.tw1945672279599020603 : True := trivial
theorem PySem.W.Fast.tw1967333064946334573 : True := trivial
theorem PySem.W.Fast.tw4296427927695917911 : True := trivial
theorem PySem.W.Fast.tw14452462681577459508 : True := trivial
theorem PySem.W.Fast.tw14229060326925839547 : True := trivial
theorem PySem.W.Fast.tw7769011398670834741 : True := trivial
theorem PySem.W.Fast.tw2753053347806194289 : True := trivial
theorem PySem.W.Fast.tw15137546766747599885 : True := trivial
theorem PySem.W.Fast.tw14150136103733739064 : True := trivial
theorem PySem.W.Fast.tw5639958781097723457 : True := trivial
theorem PySem.W.Fast.tw11461351382960344725 : True := trivial
theorem PySem.W.Fast.tw14576506056701542869 : True := trivial
theorem PySem.W.Fast.tw3619231141595574018 : True := trivial
theorem PySem.W.Fast.tw10461843251516547446 : True := trivial
theorem PySem.W.Fast.tw4792687821294385987 : True := trivial
theorem PySem.W.Fast.tw1862607420225224328 : True := trivial
theorem PySem.W.Fast.tw742672760841127009 : True := trivial
theorem PySem.W.Fast.tw13087688993255280952 : True := trivial
theorem PySem.W.Fast.tw340997713522151405 : True := trivial
theorem PySem.W.Fast.tw1358051982932403208 : True := trivial
theorem PySem.W.Fast.tw9965745230325709076 : True := trivial
theorem PySem.W.Fast.tw603814917062473607 : True := trivial
theorem PySem.W.Fast.tw176796608020035263 : True := trivial
theorem PySem.W.Fast.tw15929001764758680132 : True := trivial
theorem PySem.W.Fast.tw2607278503974010604 : True := trivial
theorem PySem.W.Fast.tw17527885444981667121 : True := trivial
theorem PySem.W.Fast.tw14640551424130157149 : True := trivial
theorem PySem.W.Fast.tw12788008326662020521 : True := trivial
theorem PySem.W.Fast.tw16457981514662374866 : True := trivial
theorem PySem.W.Fast.tw17565769544400883426 : True := trivial
theorem PySem.W.Fast.tw17003497409308346750 : True := trivial
theorem PySem.W.Fast.tw9900927711491535670 : True := trivial
theorem PySem.W.Fast.tw13295548867157530752 : True := trivial
theorem PySem.W.Fast.tw406350283067256102 : True := trivial
theorem PySem.W.Fast.tw14800608080206956204 : True := trivial
theorem PySem.W.Fast.tw8165191655029763961 : True := trivial
theorem PySem.W.Fast.tw2008721089129587315 : True := trivial
theorem PySem.W.Fast.tw6142800130273220654 : True := trivial
theorem PySem.W.Fast.tw15029262152178381527 : True := trivial
theorem PySem.W.Fast.tw14941209512539650555 : True := trivial
theorem PySem.W.Fast.tw13942700226393555907 : True := trivial
theorem PySem.W.Fast.tw3087282933342327413 : True := trivial
theorem PySem.W.Fast.tw13116660803394681622 : True := trivial
theorem PySem.W.Fast.tw1291604348139571503 : True := trivial
theorem PySem.W.Fast.tw4698502941317659848 : True := trivial
theorem PySem.W.Fast.tw6440134474534016392 : True := trivial
theorem PySem.W.Fast.tw6067561509349192936 : True := trivial
theorem PySem.W.Fast.tw16264383462519704986 : True := trivial
theorem PySem.W.Fast.tw16127157660644479599 : True := trivial
theorem PySem.W.Fast.tw15322912641040892426 : True := trivial
theorem PySem.W.Fast.tw18090390404741320155 : True := trivial
theorem PySem.W.Fast.tw14548760364391235782 : True := trivial
theorem PySem.W.Fast.tw11626290124339760498 : True := trivial
theorem PySem.W.Fast.tw524945532255758552 : True := trivial
theorem PySem.W.Fast.tw9631774417833657236 : True := trivial
theorem PySem.W.Fast.tw1352028193214842050 : True := trivial
theorem PySem.W.Fast.tw10958597485650241669 : True := trivial
theorem PySem.W.Fast.tw11627726873237049918 : True := trivial
theorem PySem.W.Fast.tw7308262569934502719 : True := trivial
theorem PySem.W.Fast.tw3173305049192260534 : True := trivial
theorem PySem.W.Fast.tw8815245710341678903 : True := trivial
theorem PySem.W.Fast.tw18161817478796534776 : True := trivial
theorem PySem.W.Fast.tw807045446383741622 : True := trivial
theorem PySem.W.Fast.tw14384350735330475319 : True := trivial
theorem PySem.W.Fast.tw6382539934935044589 : True := trivial
theorem PySem.W.Fast.tw12212574765031979373 : True := trivial
theorem PySem.W.Fast.tw7706399158075071607 : True := trivial
theorem PySem.W.Fast.tw3850019083310302561 : True := trivial
theorem PySem.W.Fast.tw11205507294824748058 : True := trivial
theorem PySem.W.Fast.tw16986410040982327405 : True := trivial
theorem PySem.W.Fast.tw4392747780619385865 : True := trivial
theorem PySem.W.Fast.tw2814742363720904325 : True := trivial
theorem PySem.W.Fast.tw2055917325263091621 : True := trivial
theorem PySem.W.Fast.tw5570002667043992357 : True := trivial
theorem PySem.W.Fast.tw1347692389539914274 : True := trivial
theorem PySem.W.Fast.tw18145660658219655184 : True := trivial
theorem PySem.W.Fast.tw13100219630106383771 : True := trivial
theorem PySem.W.Fast.tw14141621191129711798 : True := trivial
theorem PySem.W.Fast.tw2692177870780039567 : True := trivial
theorem PySem.W.Fast.tw6576665591864666728 : True := trivial
theorem PySem.W.Fast.tw1037663936479395996 : True := trivial
theorem PySem.W.Fast.tw5681129560281991856 : True := trivial
theorem PySem.W.Fast.tw7710385831479769740 : True := trivial
theorem PySem.W.Fast.tw13792589476824951032 : True := trivial
theorem PySem.W.Fast.tw16706670574242859056 : True := trivial
theorem PySem.W.Fast.tw8569670897799274114 : True := trivial
theorem PySem.W.Fast.tw17753684084873147604 : True := trivial
theorem PySem.W.Fast.tw17818029677446531284 : True := trivial
theorem PySem.W.Fast.tw3939402500145161231 : True := trivial
theorem PySem.W.Fast.tw4800483329222017090 : True := trivial
theorem PySem.W.Fast.tw11336541410774340964 : True := trivial
theorem PySem.W.Fast.tw4140932322121372414 : True := trivial
theorem PySem.W.Fast.tw2260853022390489617 : True := trivial
theorem PySem.W.Fast.tw10991639977380296847 : True := trivial
theorem PySem.W.Fast.tw2615035966949119050 : True := trivial
open PySem PySem.W PyProof.Rows
set_option maxRecDepth 100000 in
set_option maxHeartbeats 0 in
theorem PySem.Challenge.cw_rootshares_k83_whole_list_of_all_trees_holds : PySem.Challenge.rw_rootshares_k83_whole_list_of_all_trees.Holds := by
 w_on;o_law;k_head;(case hw=>w_witness2)
 k_fill
 refine K83.walk (l:=PySem.Challenge.rw_rootshares_k83_whole_list_of_all_trees) rfl rfl (fun w h Y=>PySem.W.kIn_of Y) ?F
 case F =>
  intro w mg fa h KX G hmg
  have B:K83.Bl mg:=by
   refine' K83.wx KX G ?len ?isinstance ?all ?range ?sorted ?repr ?max ?min ?str ?tuple ?list ?int ?bool ?zip ?divmod ?abs ?set ?enumerate ?dict ?most ?lng
   (case len=>k_is)
   (case isinstance=>k_is)
   (case all=>k_is)
   (case range=>k_is)
   (case sorted=>k_is)
   (case repr=>k_is)
   (case max=>k_is)
   (case min=>k_is)
   (case str=>k_is)
   (case tuple=>k_is)
   (case list=>k_is)
   (case int=>k_is)
   (case bool=>k_is)
   (case zip=>k_is)
   (case divmod=>k_is)
   (case abs=>k_is)
   (case set=>k_is)
   (case enumerate=>k_is)
   (case dict=>k_is)
   (case most=>k_is)
   (case lng=>k_is)
  refine' K83.wu KX G hmg B ?cR ?eR ?cT ?eT ?uTR ?iTT ?d7 ?d8 ?d9 ?d10 ?d11 ?d12 ?d13 ?d14 ?d16 ?d17 ?d18 ?d21 ?d22 ?d23 ?d24 ?d25 ?d26 ?d28 ?d29 ?d30 ?d31 ?d32 ?d33 ?d34 ?d35 ?d36 ?d37 ?d38 ?d39
  (case cR=>k_is)
  (case cT=>k_is)
  (case eR=>kernel_rfl)
  (case eT=>kernel_rfl)
  (case uTR=>kernel_rfl)
  (case iTT=>k_is)
  (case d7=>(refine' K83.wt ?a ?l ?c ?k;(case a=>k_is);(case l=>k_is);(case c=>k_is);(case k=>k_is)))
  (case d8=>(refine' K83.wt ?a ?l ?c ?k;(case a=>k_is);(case l=>k_is);(case c=>k_is);(case k=>k_is)))
  (case d9=>(refine' K83.wt ?a ?l ?c ?k;(case a=>k_is);(case l=>k_is);(case c=>k_is);(case k=>k_is)))
  (case d10=>(refine' K83.wt ?a ?l ?c ?k;(case a=>k_is);(case l=>k_is);(case c=>k_is);(case k=>k_is)))
  (case d11=>(refine' K83.wt ?a ?l ?c ?k;(case a=>k_is);(case l=>k_is);(case c=>k_is);(case k=>k_is)))
  (case d12=>(refine' K83.wt ?a ?l ?c ?k;(case a=>k_is);(case l=>k_is);(case c=>k_is);(case k=>k_is)))
  (case d13=>(refine' K83.wt ?a ?l ?c ?k;(case a=>k_is);(case l=>k_is);(case c=>k_is);(case k=>k_is)))
  (case d14=>(refine' K83.wt ?a ?l ?c ?k;(case a=>k_is);(case l=>k_is);(case c=>k_is);(case k=>k_is)))
  (case d16=>(refine' K83.wt ?a ?l ?c ?k;(case a=>k_is);(case l=>k_is);(case c=>k_is);(case k=>k_is)))
  (case d17=>(refine' K83.wt ?a ?l ?c ?k;(case a=>k_is);(case l=>k_is);(case c=>k_is);(case k=>k_is)))
  (case d18=>(refine' K83.wt ?a ?l ?c ?k;(case a=>k_is);(case l=>k_is);(case c=>k_is);(case k=>k_is)))
  (case d21=>(refine' K83.wt ?a ?l ?c ?k;(case a=>k_is);(case l=>k_is);(case c=>k_is);(case k=>k_is)))
  (case d22=>(refine' K83.wt ?a ?l ?c ?k;(case a=>k_is);(case l=>k_is);(case c=>k_is);(case k=>k_is)))
  (case d23=>(refine' K83.wt ?a ?l ?c ?k;(case a=>k_is);(case l=>k_is);(case c=>k_is);(case k=>k_is)))
  (case d24=>(refine' K83.wt ?a ?l ?c ?k;(case a=>k_is);(case l=>k_is);(case c=>k_is);(case k=>k_is)))
  (case d25=>(refine' K83.wt ?a ?l ?c ?k;(case a=>k_is);(case l=>k_is);(case c=>k_is);(case k=>k_is)))
  (case d26=>(refine' K83.wt ?a ?l ?c ?k;(case a=>k_is);(case l=>k_is);(case c=>k_is);(case k=>k_is)))
  (case d28=>(refine' K83.wt ?a ?l ?c ?k;(case a=>k_is);(case l=>k_is);(case c=>k_is);(case k=>k_is)))
  (case d29=>(refine' K83.wt ?a ?l ?c ?k;(case a=>k_is);(case l=>k_is);(case c=>k_is);(case k=>k_is)))
  (case d30=>(refine' K83.wt ?a ?l ?c ?k;(case a=>k_is);(case l=>k_is);(case c=>k_is);(case k=>k_is)))
  (case d31=>(refine' K83.wt ?a ?l ?c ?k;(case a=>k_is);(case l=>k_is);(case c=>k_is);(case k=>k_is)))
  (case d32=>(refine' K83.wt ?a ?l ?c ?k;(case a=>k_is);(case l=>k_is);(case c=>k_is);(case k=>k_is)))
  (case d33=>(refine' K83.wt ?a ?l ?c ?k;(case a=>k_is);(case l=>k_is);(case c=>k_is);(case k=>k_is)))
  (case d34=>(refine' K83.wt ?a ?l ?c ?k;(case a=>k_is);(case l=>k_is);(case c=>k_is);(case k=>k_is)))
  (case d35=>(refine' K83.wt ?a ?l ?c ?k;(case a=>k_is);(case l=>k_is);(case c=>k_is);(case k=>k_is)))
  (case d36=>(refine' K83.wt ?a ?l ?c ?k;(case a=>k_is);(case l=>k_is);(case c=>k_is);(case k=>k_is)))
  (case d37=>(refine' K83.wt ?a ?l ?c ?k;(case a=>k_is);(case l=>k_is);(case c=>k_is);(case k=>k_is)))
  (case d38=>(refine' K83.wt ?a ?l ?c ?k;(case a=>k_is);(case l=>k_is);(case c=>k_is);(case k=>k_is)))
  (case d39=>(refine' K83.wt ?a ?l ?c ?k;(case a=>k_is);(case l=>k_is);(case c=>k_is);(case k=>k_is)))
