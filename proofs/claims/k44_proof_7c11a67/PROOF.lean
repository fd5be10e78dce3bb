import PyProof.Rows.All
import Wide.All
import OpenK.AllK
import Wide.FinOn
import Lean
import PyProof.EqAt
import PyProof.EqKinds
import PyProof.TupleCall
import KE.KSortTup
import KE.KDictSum
import KE.KDictOf
import PyProof.AttrMissHeap
import PyProof.WalksEnum
import PyProof.EnumMake
import PyProof.Draws
import PyProof.Rows.SetFrom
import KE.KTryOn
import KE.KTryDeep
import PySem.Challenge.RW_rootshares_k44_whole_mended
set_option Elab.async false
set_option linter.all false
set_option maxRecDepth 100000
namespace L2
open PySem PySem.Spec PyProof.Rows
noncomputable abbrev Key:=Sum Int Str
noncomputable def dF:Key->Value->Bool
 | .inl k,v=>Value.isInt k v
 | .inr x,v=>Value.isStrOf x v
noncomputable def wI (w:World):Key->Int
 | .inl k=>hashInt k
 | .inr x=>hashStr w x
theorem cO:∀{k:Key}{v:Value},dF k v=true->(∃i t,k=Sum.inl i/\v=Value.int i t)\/(∃x t,k=Sum.inr x/\v=Value.str x t)
 | .inl i,v,h=>by
  obtain⟨t,e⟩:=Value.isInt_shape (k:=i) (v:=v) h
  exact .inl ⟨i,t,rfl,e⟩
 | .inr x,v,h=>by
  obtain⟨t,e⟩:=Value.isStrOf_shape (x:=x) (v:=v) h
  exact .inr ⟨x,t,rfl,e⟩
theorem qu (i:Int) (t:Tok):dF (.inl i) (.int i t)=true:=by simp [dF,Value.isInt]
theorem pZ (x:Str) (t:Tok):dF (.inr x) (.str x t)=true:=by simp [dF,Value.isStrOf]
theorem uM (a b:Int):decide ((Sum.inl a:Key)=Sum.inl b)=(a == b):=by
 by_cases e:a=b
 ·subst e;simp
 ·have h:¬ (Sum.inl a:Key)=Sum.inl b:=fun q=>e (Sum.inl.inj q)
  rw [decide_eq_false h]
  exact (beq_eq_false_iff_ne.mpr e).symm
theorem uV (a b:Str):decide ((Sum.inr a:Key)=Sum.inr b)=decide (a=b):=by
 by_cases e:a=b
 ·subst e;simp
 ·have h:¬ (Sum.inr a:Key)=Sum.inr b:=fun q=>e (Sum.inr.inj q)
  rw [decide_eq_false h,decide_eq_false e]
theorem uT (a:Int) (b:Str):decide ((Sum.inl a:Key)=Sum.inr b)=false:=decide_eq_false (fun q=>nomatch q)
theorem uq (a:Str) (b:Int):decide ((Sum.inr a:Key)=Sum.inl b)=false:=decide_eq_false (fun q=>nomatch q)
noncomputable def b5 (prog:Program) (w:World):PySem.KeyKind prog w Key where
 is:=dF
 hash:=wI w
 inj:=fun v a b ha hb=>by
  rcases cO ha with ⟨i,t,rfl,rfl⟩ | ⟨x,t,rfl,rfl⟩
  ·rcases cO hb with ⟨j,u,rfl,e⟩ | ⟨y,u,rfl,e⟩
   ·injection e with e1 _;rw [e1]
   ·exact nomatch e
  ·rcases cO hb with ⟨j,u,rfl,e⟩ | ⟨y,u,rfl,e⟩
   ·exact nomatch e
   ·injection e with e1 _;rw [e1]
 byValue:=fun k v h=>by
  rcases cO h with ⟨i,t,rfl,rfl⟩ | ⟨x,t,rfl,rfl⟩ <;> rfl
 pyHash:=fun hv h=>by
  rcases cO hv with ⟨i,t,rfl,rfl⟩ | ⟨x,t,rfl,rfl⟩
  ·exact wpAny_pyHash_int h
  ·exact wpAny_pyHash_str h
 eqBool:=fun hu hv h=>by
  rcases cO hu with ⟨i,t,rfl,rfl⟩ | ⟨x,t,rfl,rfl⟩
  ·rcases cO hv with ⟨j,u,rfl,rfl⟩ | ⟨y,u,rfl,rfl⟩
   ·rw [uM] at h;exact wpAny_eqBool_int h
   ·rw [uT] at h;exact SeqAt.EqAt.int_str i t y u _ _ _ _ h
  ·rcases cO hv with ⟨j,u,rfl,rfl⟩ | ⟨y,u,rfl,rfl⟩
   ·rw [uq] at h;exact SeqAt.EqAt.str_int x t j u _ _ _ _ h
   ·rw [uV] at h;exact wpAny_eqBool_str h
 «strs»:=fun k x t v h=>by
  rcases cO h with ⟨i,u,rfl,e⟩ | ⟨y,u,rfl,e⟩
  ·exact nomatch e
  ·injection e with e1 _
   subst e1
   cases v <;> rfl
theorem oV (prog:Program) (w:World) (i:Int) (t:Tok):(b5 prog w).is (.inl i) (.int i t)=true:=qu i t
theorem oM (prog:Program) (w:World) (x:Str) (t:Tok):(b5 prog w).is (.inr x) (.str x t)=true:=pZ x t
inductive V where
 | non | bl (b:Bool) | int (i:Int) | str (x:Str) | byt (b:Array UInt8) | flt (b:UInt64) | ref (a:Addr) | ty (n:String)
 deriving DecidableEq
noncomputable def RelV:V->Value->Prop
 | .non,u=>u=Value.none
 | .bl b,u=>u=Value.bool b
 | .int i,u=>∃t,u=Value.int i t
 | .str x,u=>∃t,u=Value.str x t
 | .byt b,u=>∃t,u=Value.bytes b t
 | .flt b,u=>∃t,u=Value.float b t
 | .ref a,u=>u=Value.ref a
 | .ty n,u=>u=Value.type n
noncomputable abbrev av:List V->List Value->Prop:=Paired RelV
theorem av.length {xs:List V}{us:List Value} (r:av xs us):xs.length=us.length:=Paired.length r
theorem av.get:∀{xs:List V}{us:List Value}{i:Nat}{x:V},av xs us->xs[i]?=some x->∃u,us[i]?=some u/\RelV x u
 | _,_,_,_,.nil,e=>by simp at e
 | _,_,0,_,.cons r _,e=>by simp at e;subst e;exact⟨_,rfl,r⟩
 | _,_,i + 1,x,.cons _ t,e=>by
  obtain⟨u,h1,h2⟩:=av.get (i:=i) (x:=x) t (by simpa using e)
  exact⟨u,by simpa using h1,h2⟩
theorem av.set {x:V}{u:Value} (r:RelV x u):∀{xs:List V}{us:List Value} (i:Nat),av xs us->av (xs.set i x) (us.set i u)
 | _,_,_,.nil=>.nil
 | _,_,0,.cons _ t=>.cons r t
 | _,_,i + 1,.cons q t=>.cons q (av.set r i t)
theorem av.append:∀{xs ys:List V}{us ws:List Value},av xs us->av ys ws->av (xs++ys) (us++ws)
 | _,_,_,_,.nil,s=>s
 | _,_,_,_,.cons r t,s=>.cons r (av.append t s)
theorem av.take:∀{xs:List V}{us:List Value} (n:Nat),av xs us->av (xs.take n) (us.take n)
 | _,_,0,_=>.nil
 | _,_,_ + 1,.nil=>.nil
 | _,_,n + 1,.cons r t=>.cons r (av.take n t)
theorem av.drop:∀{xs:List V}{us:List Value} (n:Nat),av xs us->av (xs.drop n) (us.drop n)
 | _,_,0,r=>r
 | _,_,_ + 1,.nil=>.nil
 | _,_,n + 1,.cons _ t=>av.drop n t
noncomputable def cL:Option V->Option Value->Prop
 | some v,some u=>RelV v u
 | none,none=>True
 | _,_=>False
noncomputable def KV {κ:Type}:List (κ×V)->List (κ×Value)->Prop:=Paired fun (p:κ×V) (q:κ×Value)=>p.1=q.1/\RelV p.2 q.2
noncomputable def kV:Key->V
 | .inl i=>.int i
 | .inr x=>.str x
inductive HO where
  | lst (xs:List V)
  | tup (xs:List V)
  | dK (kvs:List (Key×V)) | dT (kvs:List (List Key×V))
  | set (S:Int->Bool) (n:Nat)
  | ins (C dx:Addr) (fs:List (Str×V))
  | own (x:Addr)
  | xd (fs:List (Str×V))
  | met (f x:Addr)
  | rng (lo hi:Int)
  | frz (o:Obj) (u:HO)
  | tbl (ps:Array Value)
  | ext (φ:Heap->Prop)
noncomputable abbrev Hp:=Addr->Option HO
noncomputable def upd (H:Hp) (a:Addr) (o:HO):Hp:=fun b=>if b=a then some o else H b
theorem ag {H:Hp}{a:Addr}{o:HO}:upd H a o a=some o:=by unfold upd;rw [if_pos rfl]
theorem aj {H:Hp}{a b:Addr}{o:HO} (h:b≠a):upd H a o b=H b:=by unfold upd;rw [if_neg h]
theorem eZ {H:Hp}{a b:Addr}{o u:HO} (h:H a=some o) (h':H b=some u) (d:o≠u):a≠b:=by
 intro e;subst e;rw [h] at h';exact d (Option.some.inj h')
theorem aV {H:Hp}{a b:Addr}{o:HO} (h:H a=some o) (h':H b=none):a≠b:=by
 intro e;subst e;rw [h] at h';cases h'
section
variable (P:Program) (w:World)
noncomputable def aM (H:Hp) (h:Heap) (a:Addr):HO->Prop
 | .lst xs=>xs.length<=sizeLine/\∃(its:List Value) (n:Nat),av xs its/\h.get? a=some { cls:=.type "list",data:=.seq its.toArray n }
 | .tup xs=>xs.length<=sizeLine/\∃its:List Value,av xs its/\IsTup h a its.toArray
 | .dK kvs=>kvs.length<=sizeLine/\(a == sysModules)=false/\∃vs,KV kvs vs/\h.DictOf (b5 P w) a vs
 | .dT kvs=>kvs.length<=sizeLine/\(a == sysModules)=false/\∃xs:List (List Key×Addr×Value),
   Paired (fun (p:List Key×V) (q:List Key×Addr×Value)=>p.1=q.1/\H q.2.1=some (.tup (p.1.map kV))/\RelV p.2 q.2.2) kvs xs /\
   ∃o es ep,h.get? a=some o/\o.ExactDict/\o.data=.dict es ep/\es.toList=xs.map (entryOfKey (tupleKind (b5 P w)))/\(xs.map (·.1)).Nodup
 | .set S n=>h.SetOf (intKind P w) a S n
 | .ins C dx fs=>H dx=some (.own a)/\fs.length<=1000/\dx≠a/\h.get? a=some (PySem.W.instObj C dx) /\
   ∃mA,h.Ns1 dx mA/\(∀f,cL (fs.lookup f) (mA f))/\PySem.Within mA (fs.map (·.1))
 | .own _=>∃o,h.get? a=some o
 | .xd fs=>∃mA,h.Ns1 a mA/\∀f,cL (fs.lookup f) (mA f)
 | .rng lo hi=>∃t u v,h.get? a=some { cls:=.type "range",data:=.fields #[.int lo t,.int hi u,.int 1 v] }
 | .frz o u=>h.get? a=some o/\aM H h a u
 | .tbl ps=>h.get? a=some { cls:=.none,data:=.fields ps }
 | .met f x=>h.get? a=some (PySem.W.methodObj (.ref f) (.ref x))
 | .ext φ=>φ h/\(∃o,h.get? a=some o)/\∀h1 h2:Heap,φ h1->(∀o,h1.get? a=some o->h2.get? a=some o)->φ h2
noncomputable def HOk (H:Hp) (h:Heap):Prop:=∀a o,H a=some o->aM P w H h a o
end
section
variable {P:Program}{w:World}{H H':Hp}{h h':Heap}{a:Addr}{o:HO}
theorem aM.lt (x:aM P w H h a o):a < h.objs.size:=by
 cases o with
 | lst xs=>obtain⟨_,_,_,_,e⟩:=x;exact Heap.lt_size e
 | tup xs=>obtain⟨_,_,_,p⟩:=x;exact p.lt
 | dK kvs=>obtain⟨_,_,_,_,o,_,_,e,_⟩:=x;exact Heap.lt_size e
 | dT kvs=>obtain⟨_,_,_,_,o,_,_,e,_⟩:=x;exact Heap.lt_size e
 | set S n=>obtain⟨o,_,_,_,e,_⟩:=x;exact Heap.lt_size e
 | ins C dx fs=>obtain⟨_,_,_,e,_⟩:=x;exact Heap.lt_size e
 | own y=>obtain⟨_,e⟩:=x;exact Heap.lt_size e
 | xd fs=>obtain⟨_,⟨_,_,_,e,_⟩,_⟩:=x;exact Heap.lt_size e
 | rng lo hi=>obtain⟨_,_,_,e⟩:=x;exact Heap.lt_size e
 | frz ob u=>obtain⟨e,_⟩:=x;exact Heap.lt_size e
 | tbl ps=>exact Heap.lt_size (show h.get? a=some _ from x)
 | met f y=>exact Heap.lt_size (show h.get? a=some _ from x)
 | ext φ=>obtain⟨_,⟨_,e⟩,_⟩:=x;exact Heap.lt_size e
theorem Paired.mapP {α β:Type}{F G:α->β->Prop}:∀{l₁:List α}{l₂:List β},Paired F l₁ l₂->(∀a b,F a b->G a b)->Paired G l₁ l₂
 | _,_,.nil,_=>.nil
 | _,_,.cons r t,f=>.cons (f _ _ r) (Paired.mapP t f)
theorem aM.stay (x:aM P w H h a o) (k:∀b u,(b=a\/H b=some (.own a))->h.get? b=some u->h'.get? b=some u)
  (ho:∀b,H b=some (.own a)->H' b=some (.own a)) (ht:∀b xs,H b=some (.tup xs)->H' b=some (.tup xs)):aM P w H' h' a o:=by
 induction o with
 | lst xs=>obtain⟨z,its,n,r,e⟩:=x;exact⟨z,its,n,r,k _ _ (.inl rfl) e⟩
 | tup xs=>obtain⟨z,its,r,ob,e,c⟩:=x;exact⟨z,its,r,ob,k _ _ (.inl rfl) e,c⟩
 | dK kvs=>obtain⟨z,y,vs,r,ob,es,ep,e,c⟩:=x;exact⟨z,y,vs,r,ob,es,ep,k _ _ (.inl rfl) e,c⟩
 | dT kvs =>
  obtain⟨z,y,xs,r,ob,es,ep,e,c⟩:=x
  exact⟨z,y,xs,Paired.mapP r fun p q z=>⟨z.1,ht _ _ z.2.1,z.2.2⟩,ob,es,ep,k _ _ (.inl rfl) e,c⟩
 | set S n=>obtain⟨ob,es,ep,t,e,c⟩:=x;exact⟨ob,es,ep,t,k _ _ (.inl rfl) e,c⟩
 | ins C dx fs =>
  obtain⟨d,z,ne,e,mA,⟨od,es,ep,e2,c⟩,r⟩:=x
  exact⟨ho _ d,z,ne,k _ _ (.inl rfl) e,mA,⟨od,es,ep,k _ _ (.inr d) e2,c⟩,r⟩
 | own y=>obtain⟨ob,e⟩:=x;exact⟨ob,k _ _ (.inl rfl) e⟩
 | xd fs=>obtain⟨mA,⟨od,es,ep,e,c⟩,r⟩:=x;exact⟨mA,⟨od,es,ep,k _ _ (.inl rfl) e,c⟩,r⟩
 | rng lo hi=>obtain⟨t,u,v,e⟩:=x;exact⟨t,u,v,k _ _ (.inl rfl) e⟩
 | frz ob u ih=>obtain⟨e,q⟩:=x;exact⟨k _ _ (.inl rfl) e,ih q⟩
 | tbl ps =>
  have e:h.get? a=some { cls:=.none,data:=.fields ps }:=x
  show h'.get? a=some { cls:=.none,data:=.fields ps }
  exact k a _ (.inl rfl) e
 | met f y =>
  have e:h.get? a=some (PySem.W.methodObj (.ref f) (.ref y)):=x
  show h'.get? a=some (PySem.W.methodObj (.ref f) (.ref y))
  exact k a _ (.inl rfl) e
 | ext φ=>obtain⟨p,⟨o,e⟩,st⟩:=x;exact⟨st _ _ p fun o q=>k _ _ (.inl rfl) q,⟨o,k _ _ (.inl rfl) e⟩,st⟩
theorem HOk.lt (x:HOk P w H h) (e:H a=some o):a < h.objs.size:=(x a o e).lt
theorem HOk.fresh (x:HOk P w H h) (e:h.objs.size<=a):H a=none:=by
 cases q:H a with
 | none=>rfl
 | some u=>exact absurd (Nat.lt_of_lt_of_le (x.lt q) e) (Nat.lt_irrefl _)
theorem HOk.kept (x:HOk P w H h) (k:∀b u,h.get? b=some u->h'.get? b=some u):HOk P w H h':=fun a o e =>
 (x a o e).stay (fun b u _ q=>k b u q) (fun _ q=>q) fun _ _ q=>q
theorem HOk.laid (x:HOk P w H h) (k:∀b u,h.get? b=some u->h'.get? b=some u) (hp:h.objs.size<=a) (new:aM P w (upd H a o) h' a o):HOk P w (upd H a o) h':=fun b u e=>by
 have hn:=x.fresh hp
 by_cases hb:b=a
 ·subst hb;rw [ag] at e;cases e;exact new
 ·rw [aj hb] at e
  exact (x b u e).stay (fun c v _ q=>k c v q) (fun c q=>by rw [aj (aV q hn)];exact q) fun c xs q=>by rw [aj (aV q hn)];exact q
end
noncomputable def Rd (H:Hp) (a:Addr) (u:HO):Prop:=H a=some u\/∃o,H a=some (.frz o u)
theorem Rd.ok {P:Program}{w:World}{H:Hp}{h:Heap}{a:Addr}{u:HO} (r:Rd H a u) (x:HOk P w H h):aM P w H h a u:=by
 rcases r with r | ⟨o,r⟩
 ·exact x a u r
 ·obtain⟨_,q⟩:=x a _ r
  exact q
noncomputable def Mut:Option HO->Prop
 | some (.lst _)=>True
 | some (.dK _)=>True
 | some (.dT _)=>True
 | some (.set _ _)=>True
 | some (.ins _ _ _)=>True
 | some (.ext _)=>True
 | _=>False
section
variable {P:Program}{w:World}{H:Hp}{h h':Heap}{x e:Addr}{o':HO}
theorem HOk.write (ok:HOk P w H h) (mu:Mut (H x)) (he:e=x\/H e=some (.own x)) (k:∀b u,b≠e->h.get? b=some u->h'.get? b=some u) (heo:∃u,h'.get? e=some u)
  (new:aM P w (upd H x o') h' x o'):HOk P w (upd H x o') h':=fun b u q=>by
 have nown:∀c y,H c=some (.own y)->c≠x:=fun c y r z=>by subst z;rw [r] at mu;exact mu
 have ntup:∀c xs,H c=some (.tup xs)->c≠x:=fun c xs r z=>by subst z;rw [r] at mu;exact mu
 by_cases hb:b=x
 ·subst hb;rw [ag] at q;cases q;exact new
 ·rw [aj hb] at q
  by_cases hbe:b=e
  ·have q':H b=some (.own x):=by
    rcases he with z | z
    ·exact absurd (hbe.trans z) hb
    ·rw [hbe];exact z
   rw [q] at q';cases q'
   obtain⟨v,hv⟩:=heo
   exact⟨v,by rw [hbe];exact hv⟩
  ·refine (ok b u q).stay (fun c v hc r=>k c v ?_ r) (fun c r=>by rw [aj (nown c b r)];exact r) fun c xs r=>by rw [aj (ntup c xs r)];exact r
   rcases hc with rfl | hc
   ·exact hbe
   ·rintro rfl
    rcases he with z | z
    ·exact nown c b hc z
    ·rw [hc] at z;cases z;exact hb rfl
end
structure Un (fs ex:List Addr) (H H':Hp) (h h':Heap):Prop where
 keep:∀b o,h.get? b=some o->H b=none->b∉fs->b∉ex->h'.get? b=some o
 slot:∀b o,h.get? b=some o->H b=none->b∈fs->b∉ex->∃sl,h'.get? b=some { o with slots:=sl }
 free:∀b o,h.get? b=some o->H b=none->b∉ex->H' b=none
 there:∀b o,h.get? b=some o->b∉ex->∃o',h'.get? b=some o'
 tups:∀b xs,H b=some (.tup xs)->H' b=some (.tup xs)
 frzs:∀b o u,H b=some (.frz o u)->H' b=some (.frz o u)
 tbls:∀b ps,H b=some (.tbl ps)->∃more,H' b=some (.tbl (ps++more))
section
variable {fs fs' ex ex':List Addr}{H H1 H2:Hp}{h h1 h2 h':Heap}{a x e:Addr}{o:HO}
theorem Un.any (u:Un fs ex H H1 h h1) {b:Addr}{ob:Obj} (q:h.get? b=some ob) (n:H b=none) (hx:b∉ex):∃sl,h1.get? b=some { ob with slots:=sl }:=by
 by_cases hb:b∈fs
 ·exact u.slot b ob q n hb hx
 ·exact⟨ob.slots,u.keep b ob q n hb hx⟩
theorem Un.kept (k:∀b u,h.get? b=some u->h'.get? b=some u):Un fs ex H H h h' :=
 ⟨fun b ob q _ _ _=>k b ob q,fun b ob q _ _ _=>⟨ob.slots,k b ob q⟩,fun _ _ _ n _=>n,fun b ob q _=>⟨ob,k b ob q⟩,fun _ _ q=>q,fun _ _ _ q=>q,fun _ ps q=>⟨#[],by rw [q];simp⟩⟩
theorem Un.refl:Un fs ex H H h h:=Un.kept fun _ _ q=>q
theorem Un.laid (k:∀b u,h.get? b=some u->h'.get? b=some u) (hp:h.objs.size<=a) (hn:H a=none):Un fs ex H (upd H a o) h h' where
 keep:=fun b u q _ _ _=>k b u q
 slot:=fun b u q _ _ _=>⟨u.slots,k b u q⟩
 free:=fun b u q n _=>by rw [aj (Nat.ne_of_lt (Nat.lt_of_lt_of_le (Heap.lt_size q) hp))];exact n
 there:=fun b u q _=>⟨u,k b u q⟩
 tups:=fun b xs q=>by rw [aj (aV q hn)];exact q
 frzs:=fun b u xs q=>by rw [aj (aV q hn)];exact q
 tbls:=fun b ps q=>⟨#[],by rw [aj (aV q hn),q];simp⟩
theorem Un.write (mu:Mut (H x)) (he:e=x\/H e=some (.own x)) (k:∀b u,b≠e->h.get? b=some u->h'.get? b=some u) (heo:∃u,h'.get? e=some u):Un fs ex H (upd H x o) h h':=by
 have hx:∀b,H b=none->b≠x:=fun b n z=>by subst z;rw [n] at mu;exact mu
 have hb:∀b,H b=none->b≠e:=fun b n z=>by
  subst z
  rcases he with r | r
  ·exact hx b n r
  ·rw [n] at r;cases r
 have hm:∀b u,H b=some u->¬ Mut (some u)->b≠x:=fun b u q nm z=>by subst z;rw [q] at mu;exact nm mu
 refine⟨fun b u q n _ _=>k b u (hb b n) q,fun b u q n _ _=>⟨u.slots,k b u (hb b n) q⟩,fun b u q n _=>by rw [aj (hx b n)];exact n,fun b u q _=>?_,
  fun b xs q=>by rw [aj (hm b _ q fun z=>z)];exact q,fun b u xs q=>by rw [aj (hm b _ q fun z=>z)];exact q,fun b ps q=>⟨#[],by rw [aj (hm b _ q fun z=>z),q];simp⟩⟩
 by_cases hbe:b=e
 ·subst hbe;exact heo
 ·exact⟨u,k b u hbe q⟩
end
noncomputable def trk (h:Heap) (H:Hp):List Addr:=(List.range h.objs.size).filter fun a=>(H a).isSome
noncomputable def dh (h:Heap) (H:Hp):Heap:=PySem.W.hideAll h (trk h H)
theorem qi (h:Heap) (H:Hp):(dh h H).objs.size=h.objs.size:=PySem.W.hideAll_size _ _
theorem qO {h:Heap}{H:Hp}{b:Addr}{o:Obj} (e:h.get? b=some o) (n:H b=none):(dh h H).get? b=some o :=
 PySem.W.hideAll_get _ e fun hm=>by
  have q:(H b).isSome=true:=(List.mem_filter.mp hm).2
  rw [n] at q;simp at q
theorem tM {h:Heap}{H:Hp}{b:Addr}{o:Obj} (e:(dh h H).get? b=some o):h.get? b=some o/\H b=none:=by
 have e':h.get? b=some o:=PySem.W.of_hideAll (trk h H) e
 refine⟨e',?_⟩
 cases q:H b with
 | none=>rfl
 | some x =>
  have hm:b∈trk h H:=List.mem_filter.mpr ⟨List.mem_range.mpr (Heap.lt_size e'),by simp [q]⟩
  have z:(dh h H).get? b=none:=PySem.W.hideAll_none (trk h H) hm
  rw [z] at e;cases e
noncomputable def sr (g h:Heap) (L:Addr):List (Addr×Obj):=(List.range h.objs.size).filterMap fun a=>if a=L\/(g.get? a).isSome=true then none else (h.get? a).map fun o=>(a,o)
noncomputable def rest (g h:Heap) (L d:Addr):List (Addr×Obj):=(sr g h L).filter fun p=>decide (p.1≠d)
structure Mod (K:PySem.W.Frag) (mg:Str->Option Value) (base:Heap):Prop where
 kin:K.In base
 glob:base.Ns mainGlobals mg
 blt:∃mb,base.Ns builtinsNs mb/\∀x:Str,x≠"__name__"->mb x=bootBuiltins x
 nolimit:base.NoLimit
structure Cx where
 prog:Program
 w:World
 K:PySem.W.Frag
 mg:Str->Option Value
 base:Heap
 A:Around
 N:List Str
 s₀:Shared
 H₀:Hp
 env:Env
 outer:List Env
 stack:List Env
 ex:List Addr
 fn:Str->Bool
 calm:Bool
 pn:List (Addr×Obj)
 xe:Value->Shared->Prop
noncomputable def frs (l:List Env):List Addr:=l.filterMap (·.frame)
noncomputable abbrev Cx.fs (X:Cx):List Addr:=frs X.outer
noncomputable def Vis (sc:Scope) (x:Str):Prop:=sc.names.lookup x=some .local\/sc.names.lookup x=some .cell\/sc.names.lookup x=some .free
noncomputable def Loc (sc:Scope) (x:Str):Prop:=sc.names.lookup x=some .local\/sc.names.lookup x=some .cell
noncomputable def Look (env:Env) (h:Heap) (m:Str->Option Value) (x:Str) (u:Value):Prop :=
 (env.kindOf x=some .local/\m x=some u)\/((env.kindOf x=some .cell\/env.kindOf x=some .free)/\∃c,env.cells.lookup x=some c/\h.IsCell c (some u))
structure Cx.Ok (X:Cx):Prop where
 mod:Mod X.K X.mg X.base
 kind:X.env.scope.kind=.function
 glob:X.env.globals=mainGlobals
 blt:X.env.builtins=builtinsNs
 above:X.s₀.heap.objs.size<=X.env.locals
 inj:∀x y c,X.env.cells.lookup x=some c->X.env.cells.lookup y=some c->x=y
 has:∀x,(X.env.kindOf x=some .cell\/X.env.kindOf x=some .free)->∃c,X.env.cells.lookup x=some c
 cab:∀x c,X.fn x=true->X.env.cells.lookup x=some c->X.s₀.heap.objs.size<=c
 hd:X.calm=true->X.A.handled=none
 frames:X.A.frames=some X.stack
 stk:X.stack=X.outer\/(X.stack=X.env::X.outer/\X.env.frame=some X.env.locals)
 exf:∀b∈X.ex,b≠X.env.locals/\∀x c,X.env.cells.lookup x=some c->c≠b
 bs:∀b o,X.base.get? b=some o->X.s₀.heap.get? b=some o/\X.H₀ b=none
 bsz:X.base.objs.size<=X.s₀.heap.objs.size
 noex:∀b o,X.base.get? b=some o->b∉X.ex
 exfs:∀b∈X.ex,b∉X.fs
 funs:X.s₀.heap.FunFrames X.base X.outer
 frf:∀b∈X.fs,X.H₀ b=none
structure Inv (X:Cx) (pins:List (Addr×Obj)) (σ:List (Option V)) (H:Hp) (s:Shared):Prop where
 ok:X.Ok
 os:s.os=X.s₀.os
 bare:AllBare s.gens
 base:Un X.fs X.ex X.H₀ H X.s₀.heap s.heap
 loc:∃m,s.heap.Ns X.env.locals m/\∀(i:Nat) (x:Str) (v:V),X.N[i]?=some x->σ[i]?=some (some v)->Vis X.env.scope x->∃u,RelV v u/\Look X.env s.heap m x u
 cell:∀x c,X.env.cells.lookup x=some c->∃v,s.heap.IsCell c v
 free:H X.env.locals=none
 freeC:∀x c,X.env.cells.lookup x=some c->H c=none
 pin:∀p∈X.pn++pins,s.heap.get? p.1=some p.2/\H p.1=none/\p.1≠X.env.locals/\p.1∉X.fs/\∀v,p.2.data≠.cell v
 hok:HOk X.prog X.w H s.heap
 len:σ.length=X.N.length
section
variable {X:Cx}{pins:List (Addr×Obj)}{σ:List (Option V)}{H H':Hp}{s:Shared}{h':Heap}
theorem Cx.Ok.nofr (ok:X.Ok) {b:Addr}{o:Obj} (e:X.base.get? b=some o):b∉X.fs:=fun hb=>by
 have:=(ok.funs.mem hb).1
 rw [e] at this;cases this
theorem Inv.bs (I:Inv X pins σ H s):∀b o,X.base.get? b=some o->s.heap.get? b=some o/\H b=none:=fun b o e =>
 ⟨I.base.keep b o (I.ok.bs b o e).1 (I.ok.bs b o e).2 (I.ok.nofr e) (I.ok.noex b o e),I.base.free b o (I.ok.bs b o e).1 (I.ok.bs b o e).2 (I.ok.noex b o e)⟩
theorem Inv.bk (I:Inv X pins σ H s):∀b o,X.base.get? b=some o->s.heap.get? b=some o:=fun b o e=>(I.bs b o e).1
theorem Inv.mod (I:Inv X pins σ H s):Mod X.K X.mg X.base:=I.ok.mod
theorem Inv.kIn (I:Inv X pins σ H s):X.K.In s.heap:=I.ok.mod.kin.keeps I.bk
theorem Inv.lt (I:Inv X pins σ H s):X.env.locals < s.heap.objs.size:=let ⟨_,hn,_⟩:=I.loc;hn.lt
theorem Inv.sz (I:Inv X pins σ H s):X.s₀.heap.objs.size<=s.heap.objs.size:=Nat.le_trans I.ok.above (Nat.le_of_lt I.lt)
theorem Inv.nofs (I:Inv X pins σ H s) {a:Addr} (h:s.heap.objs.size<=a):a∉X.fs:=fun hb=>by
 obtain⟨_,o,ho,_⟩:=I.ok.funs.mem hb
 exact absurd (Nat.lt_of_lt_of_le (Heap.lt_size ho) (Nat.le_trans I.sz h)) (Nat.lt_irrefl _)
theorem Inv.cne (I:Inv X pins σ H s):∀x c,X.env.cells.lookup x=some c->c≠X.env.locals:=fun x c e z=>by
 obtain⟨v,o,ho,hd⟩:=I.cell x c e
 obtain⟨m,⟨o',es,ep,ho',hd',_⟩,_⟩:=I.loc
 rw [z,ho'] at ho;cases ho;rw [hd'] at hd;cases hd
theorem Inv.funs (I:Inv X pins σ H s):s.heap.FunFrames X.base X.outer:=by
 have all:∀(l:List Env),(∀b∈frs l,b∈X.fs)->X.s₀.heap.FunFrames X.base l->s.heap.FunFrames X.base l:=by
  intro l
  induction l with
  | nil=>intro _ _;trivial
  | cons env r ih =>
   intro hs hl
   obtain⟨hk,⟨L,o,hf,hn,ho,hd⟩,hr⟩:=hl
   have hL:L∈X.fs:=hs L (by unfold frs;rw [List.filterMap_cons,hf];exact List.mem_cons_self)
   obtain⟨sl,e⟩:=I.base.slot L o ho (I.ok.frf L hL) hL fun z=>I.ok.exfs L z hL
   exact⟨hk,⟨L,_,hf,hn,e,hd⟩,ih (fun b hb=>hs b (by unfold frs;rw [List.filterMap_cons,hf];exact List.mem_cons_of_mem _ hb)) hr⟩
 exact all X.outer (fun _ hb=>hb) I.ok.funs
theorem Inv.stack (I:Inv X pins σ H s):s.heap.FunFrames X.base X.stack:=by
 rcases I.ok.stk with e | ⟨e,hf⟩
 ·rw [e];exact I.funs
 ·rw [e]
  obtain⟨m,hn,_⟩:=I.loc
  refine .cons (by rw [I.ok.kind];decide) hf hn ?_ I.funs
  exact Heap.get?_none_of_le (Nat.le_trans I.ok.bsz I.ok.above)
theorem Inv.stkSub (I:Inv X pins σ H s):∀b∈frs X.stack,b∈X.env.locals::X.fs:=fun b hb=>by
 rcases I.ok.stk with e | ⟨e,hf⟩
 ·rw [e] at hb;exact List.mem_cons_of_mem _ hb
 ·rw [e] at hb
  unfold frs at hb
  rw [List.filterMap_cons,hf] at hb
  exact hb
theorem Inv.stkFree (I:Inv X pins σ H s):∀b∈frs X.stack,H b=none:=fun b hb=>by
 rcases List.mem_cons.mp (I.stkSub b hb) with e | hb
 ·rw [e];exact I.free
 ·obtain⟨_,o,ho,_⟩:=I.ok.funs.mem hb
  exact I.base.free b o ho (I.ok.frf b hb) fun z=>I.ok.exfs b z hb
theorem Inv.step {g':Array GenState}{t':Nat}{d':Drawn}{ch:List Addr} (I:Inv X pins σ H s)
  (hch:∀b∈ch,(b∈X.ex\/X.s₀.heap.objs.size<=b)/\b≠X.env.locals/\(∀x c,X.env.cells.lookup x=some c->c≠b)/\∀p∈X.pn++pins,p.1≠b)
  (keep:∀b o,b≠X.env.locals->b∉X.fs->b∉ch->s.heap.get? b=some o->H b=none->h'.get? b=some o)
  (slot:∀b o,b≠X.env.locals->b∈X.fs->b∉ch->s.heap.get? b=some o->H b=none->∃sl,h'.get? b=some { o with slots:=sl }) (free:∀b o,b∉ch->s.heap.get? b=some o->H b=none->H' b=none)
  (there:∀b o,b∉ch->s.heap.get? b=some o->∃o',h'.get? b=some o')
  (tups:∀b xs,H b=some (.tup xs)->H' b=some (.tup xs)) (frzs:∀b o u,H b=some (.frz o u)->H' b=some (.frz o u)) (tbls:∀b ps,H b=some (.tbl ps)->∃more,H' b=some (.tbl (ps++more)))
  (ns:∀m,s.heap.Ns X.env.locals m->h'.Ns X.env.locals m) (hok:HOk X.prog X.w H' h') (hg:AllBare g') :
  Inv X pins σ H' { s with heap:=h',gens:=g',drawn:=d',toks:=t' }:=by
 have neL:∀b o,X.s₀.heap.get? b=some o->b≠X.env.locals:=fun b o e=>Nat.ne_of_lt (Nat.lt_of_lt_of_le (Heap.lt_size e) I.ok.above)
 have neC:∀b o,X.s₀.heap.get? b=some o->b∉X.ex->b∉ch:=fun b o e hx hb=>by
  rcases (hch b hb).1 with z | z
  ·exact hx z
  ·exact absurd (Nat.lt_of_lt_of_le (Heap.lt_size e) z) (Nat.lt_irrefl _)
 have cellK:∀x c,X.env.cells.lookup x=some c->∀v,s.heap.IsCell c v->h'.IsCell c v:=fun x c e v ⟨o,ho,hd⟩=>by
  have nch:c∉ch:=fun z=>(hch c z).2.2.1 x c e rfl
  by_cases hc:c∈X.fs
  ·obtain⟨sl,q⟩:=slot c o (I.cne x c e) hc nch ho (I.freeC x c e)
   exact⟨_,q,hd⟩
  ·exact⟨o,keep c o (I.cne x c e) hc nch ho (I.freeC x c e),hd⟩
 refine⟨I.ok,I.os,hg,⟨fun b o e n hb hx=>?_,fun b o e n hb hx=>?_,fun b o e n hx=>?_,fun b o e hx=>?_,fun b xs e=>tups b xs (I.base.tups b xs e),fun b o xs e=>frzs b o xs (I.base.frzs b o xs e),fun b ps e=>?_⟩,?_,fun x c e=>?_,?_,fun x c e=>?_,fun p hp=>?_,hok,I.len⟩
 ·exact keep b o (neL b o e) hb (neC b o e hx) (I.base.keep b o e n hb hx) (I.base.free b o e n hx)
 ·obtain⟨sl,e1⟩:=I.base.slot b o e n hb hx
  obtain⟨sl',e2⟩:=slot b _ (neL b o e) hb (neC b o e hx) e1 (I.base.free b o e n hx)
  exact⟨sl',e2⟩
 ·obtain⟨o',e1⟩:=I.base.there b o e hx
  exact free b o' (neC b o e hx) e1 (I.base.free b o e n hx)
 ·obtain⟨o',e1⟩:=I.base.there b o e hx
  exact there b o' (neC b o e hx) e1
 ·obtain⟨m1,e1⟩:=I.base.tbls b ps e
  obtain⟨m2,e2⟩:=tbls b _ e1
  exact⟨m1++m2,by rw [e2,Array.append_assoc]⟩
 ·obtain⟨m,hn,hl⟩:=I.loc
  refine⟨m,ns m hn,fun i x v e1 e2 e3=>?_⟩
  obtain⟨u,r,l⟩:=hl i x v e1 e2 e3
  refine⟨u,r,?_⟩
  rcases l with l | ⟨k,c,e,z⟩
  ·exact .inl l
  ·exact .inr ⟨k,c,e,cellK x c e _ z⟩
 ·obtain⟨v,z⟩:=I.cell x c e
  exact⟨v,cellK x c e v z⟩
 ·obtain⟨m,⟨o,_,_,ho,_⟩,_⟩:=I.loc
  exact free _ o (fun z=>(hch _ z).2.1 rfl) ho I.free
 ·obtain⟨v,o,ho,hd⟩:=I.cell x c e
  exact free c o (fun z=>(hch c z).2.2.1 x c e rfl) ho (I.freeC x c e)
 ·obtain⟨e,n,ne,nf,d⟩:=I.pin p hp
  have nch:p.1∉ch:=fun z=>(hch p.1 z).2.2.2 p hp rfl
  exact⟨keep p.1 p.2 ne nf nch e n,free p.1 p.2 nch e n,ne,nf,d⟩
theorem Inv.un {t':Nat} (I:Inv X pins σ H s) (u:Un X.fs [] H H' s.heap h') (hok:HOk X.prog X.w H' h'):Inv X pins σ H' { s with heap:=h',toks:=t' }:=by
 obtain⟨m,⟨o,es,ep,ho,r⟩,_⟩:=id I.loc
 obtain⟨sl,hL⟩:=u.any ho I.free (by simp)
 exact I.step (g':=s.gens) (d':=s.drawn) (ch:=[]) (fun _ z=>nomatch z) (fun b o _ hb _ e n=>u.keep b o e n hb (by simp)) (fun b o _ hb _ e n=>u.slot b o e n hb (by simp)) (fun b o _ e n=>u.free b o e n (by simp)) (fun b o _ e=>u.there b o e (by simp)) u.tups u.frzs u.tbls (fun m' hm=>by
  obtain⟨o',es',ep',ho',r'⟩:=hm
  rw [ho] at ho';cases ho'
  exact⟨_,es',ep',hL,r'⟩) hok I.bare
theorem Inv.call {g':Array GenState}{t':Nat}{d':Drawn}{ch:List Addr} (I:Inv X pins σ H s) (u:Un (frs X.stack) ch H H' s.heap h') (hok:HOk X.prog X.w H' h') (hg:AllBare g')
  (hch:∀b∈ch,(b∈X.ex\/X.s₀.heap.objs.size<=b)/\b≠X.env.locals/\(∀x c,X.env.cells.lookup x=some c->c≠b)/\∀p∈X.pn++pins,p.1≠b) :
  Inv X pins σ H' { s with heap:=h',gens:=g',drawn:=d',toks:=t' }:=by
 obtain⟨m,⟨o,es,ep,ho,r⟩,_⟩:=id I.loc
 obtain⟨sl,hL⟩:=u.any ho I.free fun z=>(hch _ z).2.1 rfl
 exact I.step (ch:=ch) hch (fun b o hL hb hc e n=>u.keep b o e n (fun z=>(List.mem_cons.mp (I.stkSub b z)).elim hL hb) hc) (fun b o _ _ hc e n=>u.any e n hc) (fun b o hc e n=>u.free b o e n hc) (fun b o hc e=>u.there b o e hc) u.tups u.frzs u.tbls (fun m' hm=>by
  obtain⟨o',es',ep',ho',r'⟩:=hm
  rw [ho] at ho';cases ho'
  exact⟨_,es',ep',hL,r'⟩) hok hg
theorem Inv.turned {t':Nat}{it:Addr} (I:Inv X pins σ H s) (k:∀b o,b≠it->s.heap.get? b=some o->h'.get? b=some o) (hn:H it=none) (hL:it≠X.env.locals)
  (h1:it∈X.ex\/X.s₀.heap.objs.size<=it) (h2:∀x c,X.env.cells.lookup x=some c->c≠it) (h3:∀p∈X.pn++pins,p.1≠it):Inv X pins σ H { s with heap:=h',toks:=t' }:=by
 have nit:∀b u,H b=some u->b≠it:=fun b u e z=>by rw [z,hn] at e;cases e
 refine I.step (g':=s.gens) (d':=s.drawn) (ch:=[it]) (fun b hb=>?_) (fun b o _ _ hc e _=>k b o (fun z=>hc (by simp [z])) e) (fun b o _ _ hc e _=>⟨o.slots,k b o (fun z=>hc (by simp [z])) e⟩) (fun _ _ _ _ n=>n)
  (fun b o hc e=>⟨o,k b o (fun z=>hc (by simp [z])) e⟩) (fun _ _ e=>e) (fun _ _ _ e=>e) (fun b ps e=>⟨#[],by rw [e];simp⟩) (fun m hm=>?_) (fun b u e=>?_) I.bare
 ·have e:b=it:=by simpa using hb
  subst e
  exact⟨h1,hL,h2,h3⟩
 ·obtain⟨o,es,ep,ho,r⟩:=hm
  exact⟨o,es,ep,k _ o (Ne.symm hL) ho,r⟩
 ·refine (I.hok b u e).stay (fun c v hc q=>k c v ?_ q) (fun _ q=>q) fun _ _ q=>q
  rcases hc with z | z
  ·rw [z];exact nit b u e
  ·exact nit c _ z
theorem Inv.tok (I:Inv X pins σ H s) (t:Nat):Inv X pins σ H { s with toks:=t }:=I.un (h':=s.heap) (t':=t) Un.refl I.hok
theorem Inv.kept {t':Nat} (I:Inv X pins σ H s) (k:∀b u,s.heap.get? b=some u->h'.get? b=some u):Inv X pins σ H { s with heap:=h',toks:=t' }:=I.un (Un.kept k) (I.hok.kept k)
theorem Inv.laid {a:Addr}{o:HO}{t':Nat} (I:Inv X pins σ H s) (k:∀b u,s.heap.get? b=some u->h'.get? b=some u) (hp:s.heap.objs.size<=a) (new:aM X.prog X.w (upd H a o) h' a o) :
  Inv X pins σ (upd H a o) { s with heap:=h',toks:=t' }:=I.un (Un.laid k hp (I.hok.fresh hp)) (I.hok.laid k hp new)
theorem Inv.write {x e:Addr}{o:HO}{t':Nat} (I:Inv X pins σ H s) (mu:Mut (H x)) (he:e=x\/H e=some (.own x)) (k:∀b u,b≠e->s.heap.get? b=some u->h'.get? b=some u) (heo:∃u,h'.get? e=some u)
  (new:aM X.prog X.w (upd H x o) h' x o):Inv X pins σ (upd H x o) { s with heap:=h',toks:=t' }:=I.un (Un.write mu he k heo) (I.hok.write mu he k heo new)
theorem Inv.pins_of {pins':List (Addr×Obj)} (I:Inv X pins σ H s) (h:∀p∈pins',s.heap.get? p.1=some p.2/\H p.1=none/\p.1≠X.env.locals/\p.1∉X.fs/\∀v,p.2.data≠.cell v):Inv X pins' σ H s :=
 ⟨I.ok,I.os,I.bare,I.base,I.loc,I.cell,I.free,I.freeC,fun p hp=>(List.mem_append.mp hp).elim (fun z=>I.pin p (List.mem_append_left _ z)) (h p),I.hok,I.len⟩
theorem kX {N:List Str} (hN:N.Nodup) {i j:Nat}{x:Str} (a:N[i]?=some x) (b:N[j]?=some x):i=j:=by
 obtain⟨h1,e1⟩:=List.getElem?_eq_some_iff.mp a
 obtain⟨h2,e2⟩:=List.getElem?_eq_some_iff.mp b
 exact (List.getElem_inj hN).mp (e1.trans e2.symm)
theorem fX {M:Model}{A:Around}{E:Value->Shared->Prop}{i:Nat}{x:Str}{v:V}{u:Value}{Q:Unit->Shared->Prop} (I:Inv X pins σ H s) (hN:X.N.Nodup) (hi:X.N[i]?=some x) (hx:Loc X.env.scope x) (r:RelV v u)
  (h:∀s',Inv X pins (σ.set i (some v)) H s'->(∃a,Heap.SameBut a s.heap s'.heap/\(a=X.env.locals\/X.env.cells.lookup x=some a))->Q () s') (hf:X.fn x=true\/X.env.scope.names.lookup x=some .local:=by first | exact .inl rfl | exact .inr rfl | assumption):wpAny M A (storeName X.env x u) Q E s:=by
 obtain⟨m,hn,hl⟩:=id I.loc
 have hcls:(X.env.scope.kind == .class || (X.env.scope.kind == .module && X.env.locals != X.env.globals))=false:=by rw [I.ok.kind];rfl
 have hiσ:i < σ.length:=by rw [I.len];exact (List.getElem?_eq_some_iff.mp hi).1
 have cne:=I.cne
 have tracked:∀{a:Addr}{h':Heap},(∃o,s.heap.get? a=some o/\H a=none)->Heap.SameBut a s.heap h'->HOk X.prog X.w H h':=fun {a h'} ha hs b ob e=>by
  obtain⟨_,_,hfree⟩:=ha
  refine (I.hok b ob e).stay (fun c w' hc q=>(hs.2 c ?_).trans q) (fun _ q=>q) fun _ _ q=>q
  rintro rfl
  rcases hc with rfl | hc
  ·rw [hfree] at e;cases e
  ·rw [hfree] at hc;cases hc
 rcases hx with hk | hk
 ·refine wpAny_storeName_local hk hn (fun h' hn' hs=>?_) hcls
  obtain⟨oL,_,_,hoL,_⟩:=id hn
  refine h _ ⟨I.ok,I.os,I.bare,⟨fun b o e n hb hx=>?_,fun b o e n hb hx=>?_,I.base.free,fun b o e hx=>?_,I.base.tups,I.base.frzs,I.base.tbls⟩,⟨_,hn',fun j y v' e1 e2 e3=>?_⟩,fun y c e=>?_,I.free,I.freeC,fun p hp=>?_,tracked ⟨oL,hoL,I.free⟩ hs,by simpa using I.len⟩ ⟨_,hs,.inl rfl⟩
  ·exact (hs.2 b (Nat.ne_of_lt (Nat.lt_of_lt_of_le (Heap.lt_size e) I.ok.above))).trans (I.base.keep b o e n hb hx)
  ·obtain⟨sl,e1⟩:=I.base.slot b o e n hb hx
   exact⟨sl,(hs.2 b (Nat.ne_of_lt (Nat.lt_of_lt_of_le (Heap.lt_size e) I.ok.above))).trans e1⟩
  ·obtain⟨o',e1⟩:=I.base.there b o e hx
   exact⟨o',(hs.2 b (Nat.ne_of_lt (Nat.lt_of_lt_of_le (Heap.lt_size e) I.ok.above))).trans e1⟩
  ·by_cases hj:j=i
   ·subst hj
    rw [hi] at e1;cases e1
    rw [List.getElem?_set_self hiσ] at e2
    cases e2
    exact⟨u,r,.inl ⟨hk,by simp⟩⟩
   ·rw [List.getElem?_set_ne (Ne.symm hj)] at e2
    obtain⟨u',r',q⟩:=hl j y v' e1 e2 e3
    refine⟨u',r',?_⟩
    rcases q with ⟨k,e⟩ | ⟨k,c,e,z⟩
    ·refine .inl ⟨k,?_⟩
     have:y≠x:=fun e=>hj (kX hN e1 (e ▸ hi))
     simp [this,e]
    ·exact .inr ⟨k,c,e,z.sameBut hs (cne y c e)⟩
  ·obtain⟨w',z⟩:=I.cell y c e
   exact⟨w',z.sameBut hs (cne y c e)⟩
  ·obtain⟨e,n,ne,nf,d⟩:=I.pin p hp
   exact⟨(hs.2 p.1 ne).trans e,n,ne,nf,d⟩
 ·have hfn:X.fn x=true:=by
   rcases hf with z | z
   ·exact z
   ·rw [z] at hk;cases hk
  obtain⟨c,hc⟩:=I.ok.has x (.inl hk)
  obtain⟨w',z⟩:=I.cell x c hc
  refine wpAny_storeName_cell I.ok.kind hk hc z (fun h' hc' hs=>?_)
  obtain⟨oc,hoc,hocd⟩:=id z
  refine h { s with heap:=h' } ⟨I.ok,I.os,I.bare,⟨fun b o e n hb hx=>?_,fun b o e n hb hx=>?_,I.base.free,fun b o e hx=>?_,I.base.tups,I.base.frzs,I.base.tbls⟩,⟨m,hn.sameBut hs (Ne.symm (cne x c hc)),fun j y v' e1 e2 e3=>?_⟩,fun y c' e=>?_,I.free,I.freeC,fun p hp=>?_,tracked ⟨oc,hoc,I.freeC x c hc⟩ hs,by simpa using I.len⟩ ⟨c,hs,.inr hc⟩
  ·exact (hs.2 b (Nat.ne_of_lt (Nat.lt_of_lt_of_le (Heap.lt_size e) (I.ok.cab x c hfn hc)))).trans (I.base.keep b o e n hb hx)
  ·obtain⟨sl,e1⟩:=I.base.slot b o e n hb hx
   exact⟨sl,(hs.2 b (Nat.ne_of_lt (Nat.lt_of_lt_of_le (Heap.lt_size e) (I.ok.cab x c hfn hc)))).trans e1⟩
  ·obtain⟨o',e1⟩:=I.base.there b o e hx
   exact⟨o',(hs.2 b (Nat.ne_of_lt (Nat.lt_of_lt_of_le (Heap.lt_size e) (I.ok.cab x c hfn hc)))).trans e1⟩
  ·by_cases hj:j=i
   ·subst hj
    rw [hi] at e1;cases e1
    rw [List.getElem?_set_self hiσ] at e2
    cases e2
    exact⟨u,r,.inr ⟨.inl hk,c,hc,hc'⟩⟩
   ·rw [List.getElem?_set_ne (Ne.symm hj)] at e2
    obtain⟨u',r',q⟩:=hl j y v' e1 e2 e3
    refine⟨u',r',?_⟩
    rcases q with q | ⟨k,c',e,z'⟩
    ·exact .inl q
    ·refine .inr ⟨k,c',e,z'.sameBut hs ?_⟩
     rintro rfl
     exact hj (kX hN e1 (I.ok.inj _ _ _ e hc ▸ hi))
  ·by_cases hcc:c'=c
   ·subst hcc;exact⟨_,hc'⟩
   ·obtain⟨w2,z2⟩:=I.cell y c' e
    exact⟨w2,z2.sameBut hs hcc⟩
  ·obtain⟨e,n,ne,nf,d⟩:=I.pin p hp
   refine⟨(hs.2 p.1 ?_).trans e,n,ne,nf,d⟩
   intro q
   rw [q,hoc] at e
   have q':oc=p.2:=Option.some.inj e
   exact d w' (by rw [<- q'];exact hocd)
theorem gj {M:Model}{A:Around}{E:Value->Shared->Prop}{i:Nat}{x:Str}{v:V}{u:Value}{Q:Unit->Shared->Prop} (I:Inv X pins σ H s) (hN:X.N.Nodup) (hi:X.N[i]?=some x) (hx:Loc X.env.scope x) (r:RelV v u)
  (h:∀s',Inv X pins (σ.set i (some v)) H s'->Q () s') (hf:X.fn x=true\/X.env.scope.names.lookup x=some .local:=by first | exact .inl rfl | exact .inr rfl | assumption):wpAny M A (storeName X.env x u) Q E s :=
 fX I hN hi hx r (fun s' I' _=>h s' I') hf
theorem Inv.call' {s':Shared}{ch:List Addr} (I:Inv X pins σ H s) (ho:s'.os=s.os) (u:Un (frs X.stack) ch H H' s.heap s'.heap) (hok:HOk X.prog X.w H' s'.heap) (hg:AllBare s'.gens)
  (hch:∀b∈ch,(b∈X.ex\/X.s₀.heap.objs.size<=b)/\b≠X.env.locals/\(∀x c,X.env.cells.lookup x=some c->c≠b)/\∀p∈X.pn++pins,p.1≠b):Inv X pins σ H' s':=by
 obtain⟨h',g',d',t',o'⟩:=s'
 have e:o'=s.os:=ho
 subst e
 exact I.call (g':=g') (t':=t') (d':=d') u hok hg hch
end
noncomputable abbrev XK:=Value->Option Addr->Hp->Prop
noncomputable abbrev St:=List (Option V)
noncomputable abbrev VK:=V->Hp->Prop
noncomputable abbrev TE:=St->Hp->VK->Prop
noncomputable abbrev TT:=St->Hp->(Bool->Hp->Prop)->Prop
noncomputable abbrev TA:=St->Hp->(List V->Hp->Prop)->Prop
structure Ends where
 nx:St->Hp->Prop
 rt:VK
 bk:St->Hp->Prop:=fun _ _=>False
 ct:St->Hp->Prop:=fun _ _=>False
noncomputable abbrev TS:=Ends->St->Hp->Prop
noncomputable def EP (X:Cx) (pins:List (Addr×Obj)) (σ:St) (Q:VK) (u:Value) (s':Shared):Prop:=∃v H',Inv X pins σ H' s'/\RelV v u/\Q v H'
noncomputable def TP (X:Cx) (pins:List (Addr×Obj)) (σ:St) (Q:Bool->Hp->Prop) (b:Bool) (s':Shared):Prop:=∃H',Inv X pins σ H' s'/\Q b H'
noncomputable def AP (X:Cx) (pins:List (Addr×Obj)) (σ:St) (Q:List V->Hp->Prop) (us:List Value) (s':Shared):Prop:=∃vs H',Inv X pins σ H' s'/\av vs us/\Q vs H'
noncomputable def SP (X:Cx) (pins:List (Addr×Obj)) (D:Ends) (f:Flow) (s':Shared):Prop :=
 match f with
 | .next=>∃σ' H',Inv X pins σ' H' s'/\D.nx σ' H'
 | .brk=>∃σ' H',Inv X pins σ' H' s'/\D.bk σ' H'
 | .cont=>∃σ' H',Inv X pins σ' H' s'/\D.ct σ' H'
 | .ret u=>∃v σ' H',Inv X pins σ' H' s'/\RelV v u/\D.rt v H'
noncomputable def PE (X:Cx) (e:Expr) (t:TE):Prop :=
 ∀(pins:List (Addr×Obj)) (s:Shared) (σ:St) (H:Hp) (Q:VK),Inv X pins σ H s->t σ H Q->wpAny (model X.prog X.w) X.A (eval e X.env) (EP X pins σ Q) X.xe s
noncomputable def PT (X:Cx) (e:Expr) (t:TT):Prop :=
 ∀(pins:List (Addr×Obj)) (s:Shared) (σ:St) (H:Hp) (Q:Bool->Hp->Prop),Inv X pins σ H s->t σ H Q->wpAny (model X.prog X.w) X.A (isTrue e X.env (eval e X.env)) (TP X pins σ Q) X.xe s
noncomputable def PW (X:Cx) (e:Expr) (t:TT):Prop :=
 ∀(whole:Sem Value) (pins:List (Addr×Obj)) (s:Shared) (σ:St) (H:Hp) (Q:Bool->Hp->Prop),Inv X pins σ H s->t σ H Q->wpAny (model X.prog X.w) X.A (isTrue e X.env whole) (TP X pins σ Q) X.xe s
theorem PW.pt {X:Cx}{e:Expr}{t:TT} (h:PW X e t):PT X e t:=h _
noncomputable def PA (X:Cx) (es:List Expr) (t:TA):Prop :=
 ∀(pos:Pos) (pins:List (Addr×Obj)) (s:Shared) (σ:St) (H:Hp) (Q:List V->Hp->Prop),Inv X pins σ H s->t σ H Q->wpAny (model X.prog X.w) X.A (spliced (backTo pos (starEach es X.env))) (AP X pins σ Q) X.xe s
noncomputable def PS (X:Cx) (st:Stmt) (t:TS):Prop :=
 ∀(pins:List (Addr×Obj)) (s:Shared) (σ:St) (H:Hp) (D:Ends),Inv X pins σ H s->t D σ H->wpAny (model X.prog X.w) X.A (exec st X.env) (SP X pins D) X.xe s
noncomputable def PSs (X:Cx) (st:List Stmt) (t:TS):Prop :=
 ∀(pins:List (Addr×Obj)) (s:Shared) (σ:St) (H:Hp) (D:Ends),Inv X pins σ H s->t D σ H->wpAny (model X.prog X.w) X.A (execs st X.env) (SP X pins D) X.xe s
theorem thn {α:Type}{t:Sem α}{Q Q':α->Shared->Prop}{M:Model}{A:Around}{E:Value->Shared->Prop}{s:Shared} (h:wpAny M A t Q E s) (hQ:∀a s,Q a s->Q' a s):wpAny M A t Q' E s:=wpAny_mono h hQ fun _ _ x=>x
section
variable {X:Cx}
noncomputable def nR (i:Nat):TE:=fun σ H Q=>∃v,σ[i]?=some (some v)/\Q v H
noncomputable def tC (v:V):TE:=fun _ H Q=>Q v H
theorem uk {i:Nat}{x:Str}{pos:Pos} (hN:X.N[i]?=some x) (hv:Vis X.env.scope x) (hd:(x == ("__debug__":Str))=false:=by decide) (hcd:(x == ("__classdict__":Str))=false:=by decide):PE X (.Name x pos) (nR i):=by
 intro pins s σ H Q I h
 obtain⟨v,e,h⟩:=h
 obtain⟨m,hn,hl⟩:=I.loc
 obtain⟨u,r,l⟩:=hl i x v hN e hv
 have fin:EP X pins σ Q u s:=⟨v,H,I,r,h⟩
 rcases l with ⟨hk,hm⟩ | ⟨hk,c,hc,hcell⟩
 ·exact wpAny_Name (wpAny_loadName_local I.ok.kind hk hn hm fin) hd
 ·rcases hk with hk | hk
  ·exact wpAny_Name (wpAny_loadName_cell I.ok.kind hk hc hcell fin) hd
  ·exact wpAny_Name (wpAny_loadName_free I.ok.kind hk hc hcell fin hcd) hd
theorem ai {i j pos}:PE X (.Constant (.int i) j pos) (tC (.int i)):=fun _ _ _ H _ I h=>wpAny_Constant_int ⟨.int i,H,I.tok _,⟨_,rfl⟩,h⟩
theorem fb {b j pos}:PE X (.Constant (.bool b) j pos) (tC (.bl b)):=fun _ _ _ H _ I h=>Constant_bool ⟨.bl b,H,I,rfl,h⟩
theorem u6 {j pos}:PE X (.Constant .none j pos) (tC .non):=fun _ _ _ H _ I h=>Constant_none ⟨.non,H,I,rfl,h⟩
theorem ef {x j pos}:PE X (.Constant (.str x) j pos) (tC (.str x)):=fun _ _ _ H _ I h=>Calls.Constant_str ⟨.str x,H,I.tok _,⟨_,rfl⟩,h⟩
noncomputable def Gl (X:Cx) (x:Str):Prop:=X.env.kindOf x=some .globalImplicit
theorem lM {E:Value->Shared->Prop}{pins:List (Addr×Obj)}{s:Shared}{σ:St}{H:Hp}{x:Str}{u:Value}{pos:Pos}{Q:Value->Shared->Prop} (I:Inv X pins σ H s) (hg:Gl X x) (hm:X.mg x=some u) (h:Q u s)
  (hd:(x == ("__debug__":Str))=false:=by decide):wpAny (model X.prog X.w) X.A (eval (.Name x pos) X.env) Q E s :=
 Calls.Name_function_global I.ok.kind hg (Calls.loadGlobal_global (by rw [I.ok.glob];exact I.mod.glob.keeps I.bk) hm h) hd
theorem dB {E:Value->Shared->Prop}{pins:List (Addr×Obj)}{s:Shared}{σ:St}{H:Hp}{x:Str}{u:Value}{pos:Pos}{Q:Value->Shared->Prop} (I:Inv X pins σ H s) (hg:Gl X x) (hm:X.mg x=none) (hv:bootBuiltins x=some u) (h:Q u s)
  (hn:x≠"__name__":=by decide) (hd:(x == ("__debug__":Str))=false:=by decide):wpAny (model X.prog X.w) X.A (eval (.Name x pos) X.env) Q E s:=by
 obtain⟨mb,h1,h2⟩:=I.mod.blt
 exact Calls.Name_function_global I.ok.kind hg (Calls.loadGlobal_builtin (by rw [I.ok.glob];exact I.mod.glob.keeps I.bk) hm (by rw [I.ok.blt];exact h1.keeps I.bk) ((h2 x hn).trans hv) h) hd
theorem iX {x:Str}{v:V}{u:Value}{pos:Pos} (hg:Gl X x) (hm:X.mg x=some u) (r:RelV v u) (hd:(x == ("__debug__":Str))=false:=by decide):PE X (.Name x pos) (tC v) :=
 fun _ _ _ H _ I h=>lM I hg hm ⟨v,H,I,r,h⟩ hd
theorem cH {x:Str}{v:V}{u:Value}{pos:Pos} (hg:Gl X x) (hm:X.mg x=none) (hv:bootBuiltins x=some u) (r:RelV v u) (hn:x≠"__name__":=by decide) (hd:(x == ("__debug__":Str))=false:=by decide):PE X (.Name x pos) (tC v) :=
 fun _ _ _ H _ I h=>dB I hg hm hv ⟨v,H,I,r,h⟩ hn hd
variable {a b:Expr}{ta tb:TE}{pos:Pos}
noncomputable def tB (t:TE):TT:=fun σ H Q=>t σ H fun x H1=>∃c,x=.bl c/\Q c H1
theorem bE {e:Expr}{t:TE} (h:PE X e t) (he:∀whole,isTrue e X.env whole=(do let v <- whole;standAt e.pos;holding [v] (truthy v)):=by intro _;rfl):PT X e (tB t):=by
 intro pins s σ H Q I hw
 refine isTrue_plain (thn (h pins s σ H _ I hw) fun v s1 ⟨x,H1,I1,r1,q1⟩=>?_) (he _)
 obtain⟨d,rfl,q⟩:=q1
 cases r1
 exact wpAny_truthy_bool ⟨H1,I1,q⟩
variable {tA tB':TT}{rest:List Expr}
noncomputable def wH (t u:TT):TT:=fun σ H Q=>t σ H fun c H1=>if c=true then u σ H1 Q else Q false H1
noncomputable def tOr (t u:TT):TT:=fun σ H Q=>t σ H fun c H1=>if c=true then Q true H1 else u σ H1 Q
noncomputable def wa (t:TT):TT:=fun σ H Q=>t σ H fun c H1=>Q (!c) H1
theorem gD (ha:PT X a tA):PW X (.BoolOp .And [a] pos) tA:=by
 intro wh pins s σ H Q I h
 refine isTrue_and (thn (ha pins s σ H Q I h) fun c s1 e=>?_)
 cases c with
 | true=>exact isTrue_and_nil e
 | false=>exact e
theorem dY (ha:PT X a tA):PW X (.BoolOp .Or [a] pos) tA:=by
 intro wh pins s σ H Q I h
 refine isTrue_or (thn (ha pins s σ H Q I h) fun c s1 e=>?_)
 cases c with
 | false=>exact isTrue_or_nil e
 | true=>exact e
theorem gG (ha:PT X a tA) (hb:PW X (.BoolOp .And (b::rest) pos) tB'):PW X (.BoolOp .And (a::b::rest) pos) (wH tA tB'):=by
 intro wh pins s σ H Q I h
 refine isTrue_and (thn (ha pins s σ H _ I h) fun c s1 ⟨H1,I1,q1⟩=>?_)
 cases c with
 | true=>exact hb wh pins s1 σ H1 Q I1 q1
 | false=>exact⟨H1,I1,q1⟩
theorem dg (ha:PT X a tA) (hb:PW X (.BoolOp .Or (b::rest) pos) tB'):PW X (.BoolOp .Or (a::b::rest) pos) (tOr tA tB'):=by
 intro wh pins s σ H Q I h
 refine isTrue_or (thn (ha pins s σ H _ I h) fun c s1 ⟨H1,I1,q1⟩=>?_)
 cases c with
 | true=>exact⟨H1,I1,q1⟩
 | false=>exact hb wh pins s1 σ H1 Q I1 q1
theorem bL (ha:PT X a tA):PT X (.UnaryOp .Not a pos) (wa tA):=by
 intro pins s σ H Q I h
 exact isTrue_not (ha pins s σ H (fun c H1=>Q (!c) H1) I h)
noncomputable def vz (ta tb:TE):TE:=fun σ H Q=>ta σ H fun x H1=>∃c,x=.bl c/\if c=true then tb σ H1 Q else Q (.bl false) H1
noncomputable def vN (ta:TE):TE:=fun σ H Q=>ta σ H fun x H1=>∃c,x=.bl c/\Q (.bl (!c)) H1
theorem dC {op}{t:TE} (h:PE X a t):PE X (.BoolOp op [a] pos) t:=fun pins s σ H Q I hw=>BoolOp_one (h pins s σ H Q I hw)
theorem cR (ha:PE X a ta) (hb:PE X (.BoolOp .And (b::rest) pos) tb):PE X (.BoolOp .And (a::b::rest) pos) (vz ta tb):=by
 intro pins s σ H Q I h
 refine BoolOp_and (thn (ha pins s σ H _ I h) fun v s1 ⟨x,H1,I1,r1,q1⟩=>?_)
 obtain⟨c,rfl,q1⟩:=q1
 cases r1
 refine wpAny_truthy_bool ?_
 cases c with
 | true=>exact hb pins s1 σ H1 Q I1 q1
 | false=>exact⟨.bl false,H1,I1,rfl,q1⟩
theorem uD (ha:PE X a ta):PE X (.UnaryOp .Not a pos) (vN ta):=by
 intro pins s σ H Q I h
 refine UnaryOp_ (thn (ha pins s σ H _ I h) fun v s1 ⟨x,H1,I1,r1,q1⟩=>?_)
 obtain⟨c,rfl,q1⟩:=q1
 cases r1
 exact not_of (wpAny_truthy_bool ⟨.bl (!c),H1,I1,rfl,q1⟩)
noncomputable def tIf (t:TT) (ta tb:TE):TE:=fun σ H Q=>t σ H fun c H1=>if c=true then ta σ H1 Q else tb σ H1 Q
theorem kS {c:Expr} (hc:PT X c tA) (ha:PE X a ta) (hb:PE X b tb):PE X (.IfExp c a b pos) (tIf tA ta tb):=by
 intro pins s σ H Q I h
 refine wpAny_IfExp (thn (hc pins s σ H _ I h) fun d s1 ⟨H1,I1,q1⟩=>?_)
 cases d with
 | true=>exact ha pins s1 σ H1 Q I1 q1
 | false=>exact hb pins s1 σ H1 Q I1 q1
end
noncomputable def SqL (K:PySem.W.Frag) (H:Hp) (a:Addr) (xs:List V):Prop :=
 Rd H a (.lst xs) \/
  ∃(o:Obj) (its:Array Value) (n:Nat),K.lookup a=some o/\o.cls=.type "list"/\o.dict=none/\o.data=.seq its n/\its.size<=sizeLine/\av xs its.toList
noncomputable def SqT (K:PySem.W.Frag) (H:Hp) (a:Addr) (xs:List V):Prop :=
 Rd H a (.tup xs) \/
  ∃(o:Obj) (its:Array Value) (n:Nat),K.lookup a=some o/\o.cls=.type "tuple"/\o.data=.seq its n/\its.size<=sizeLine/\av xs its.toList
noncomputable def wn:Value->Option V
 | .none=>some .non
 | .bool b=>some (.bl b)
 | .int i _=>some (.int i)
 | .str x _=>some (.str x)
 | .bytes b _=>some (.byt b)
 | .float b _=>some (.flt b)
 | .ref a=>some (.ref a)
 | .type n=>some (.ty n)
 | _=>none
theorem RelV.abs {x:V}{u:Value} (r:RelV x u):wn u=some x:=by
 cases x with
 | non=>cases r;rfl
 | bl _=>cases r;rfl
 | int _=>obtain⟨t,rfl⟩:=r;rfl
 | str _=>obtain⟨t,rfl⟩:=r;rfl
 | byt _=>obtain⟨t,rfl⟩:=r;rfl
 | flt _=>obtain⟨t,rfl⟩:=r;rfl
 | ref _=>cases r;rfl
 | ty _=>cases r;rfl
theorem RelV.inj {x y:V}{u:Value} (r:RelV x u) (q:RelV y u):x=y:=Option.some.inj (r.abs.symm.trans q.abs)
theorem av.inj:∀{xs ys:List V}{us:List Value},av xs us->av ys us->xs=ys
 | _,_,_,.nil,.nil=>rfl
 | _,_,_,.cons r t,.cons r' t'=>by rw [r.inj r',av.inj t t']
section
variable {X:Cx}{pins:List (Addr×Obj)}{σ:St}{H:Hp}{s:Shared}{a:Addr}{xs ys:List V}
theorem SqL.of {K:PySem.W.Frag} (h:H a=some (.lst xs)):SqL K H a xs:=.inl (.inl h)
theorem SqT.of {K:PySem.W.Frag} (h:H a=some (.tup xs)):SqT K H a xs:=.inl (.inl h)
theorem Inv.list (I:Inv X pins σ H s) (h:SqL X.K H a xs):∃its:List Value,av xs its/\PlainL s.heap a its.toArray/\xs.length<=sizeLine:=by
 rcases h with h | ⟨o,its,n,hk,hc,hd,hs,hz,r⟩
 ·obtain⟨z,its,n,r,e⟩:=h.ok I.hok
  exact⟨its,r,⟨_,n,e,rfl,rfl,rfl⟩,z⟩
 ·refine⟨its.toList,r,⟨o,n,I.kIn a o hk,hc,hd,by simpa using hs⟩,?_⟩
  have e:=r.length
  simp only [Array.length_toList] at e
  omega
theorem Inv.tuple (I:Inv X pins σ H s) (h:SqT X.K H a xs):∃its:List Value,av xs its/\IsTup s.heap a its.toArray/\xs.length<=sizeLine:=by
 rcases h with h | ⟨o,its,n,hk,hc,hs,hz,r⟩
 ·obtain⟨z,its,r,p⟩:=h.ok I.hok
  exact⟨its,r,p,z⟩
 ·refine⟨its.toList,r,⟨o,I.kIn a o hk,hc,n,by simpa using hs⟩,?_⟩
  have e:=r.length
  simp only [Array.length_toList] at e
  omega
theorem Inv.list_inj (I:Inv X pins σ H s) (h:SqL X.K H a xs) (h':SqL X.K H a ys):xs=ys:=by
 obtain⟨its,r,⟨o,n,e,_,_,d⟩,_⟩:=I.list h
 obtain⟨its',r',⟨o',n',e',_,_,d'⟩,_⟩:=I.list h'
 rw [e] at e';cases e'
 rw [d] at d'
 injection d' with d1 _
 have:its=its':=by simpa using congrArg Array.toList d1
 subst this
 exact r.inj r'
theorem Inv.tuple_inj (I:Inv X pins σ H s) (h:SqT X.K H a xs) (h':SqT X.K H a ys):xs=ys:=by
 obtain⟨its,r,⟨o,e,_,n,d⟩,_⟩:=I.tuple h
 obtain⟨its',r',⟨o',e',_,n',d'⟩,_⟩:=I.tuple h'
 rw [e] at e';cases e'
 rw [d] at d'
 injection d' with d1 _
 have:its=its':=by simpa using congrArg Array.toList d1
 subst this
 exact r.inj r'
end
noncomputable abbrev Cx.wish (X:Cx) (E:Value->Shared->Prop):Cx:={ X with xe:=E }
noncomputable abbrev Cx.nox (X:Cx):Cx:=X.wish fun _ _=>False
theorem Cx.Ok.wish {X:Cx} (ok:X.Ok) (E:Value->Shared->Prop):(X.wish E).Ok :=
 ⟨ok.mod,ok.kind,ok.glob,ok.blt,ok.above,ok.inj,ok.has,ok.cab,ok.hd,ok.frames,ok.stk,ok.exf,ok.bs,ok.bsz,ok.noex,ok.exfs,ok.funs,ok.frf⟩
theorem Cx.Ok.unwish {X:Cx}{E:Value->Shared->Prop} (ok:(X.wish E).Ok):X.Ok :=
 ⟨ok.mod,ok.kind,ok.glob,ok.blt,ok.above,ok.inj,ok.has,ok.cab,ok.hd,ok.frames,ok.stk,ok.exf,ok.bs,ok.bsz,ok.noex,ok.exfs,ok.funs,ok.frf⟩
section
variable {X:Cx}{pins:List (Addr×Obj)}{σ:St}{H:Hp}{s:Shared}{E:Value->Shared->Prop}
theorem Inv.wish (I:Inv X pins σ H s) (E:Value->Shared->Prop):Inv (X.wish E) pins σ H s:=⟨I.ok.wish E,I.os,I.bare,I.base,I.loc,I.cell,I.free,I.freeC,I.pin,I.hok,I.len⟩
theorem Inv.unwish (I:Inv (X.wish E) pins σ H s):Inv X pins σ H s:=⟨I.ok.unwish,I.os,I.bare,I.base,I.loc,I.cell,I.free,I.freeC,I.pin,I.hok,I.len⟩
theorem SP.unwish {D:Ends}{f:Flow}{s':Shared} (h:SP (X.wish E) pins D f s'):SP X pins D f s':=by
 cases f with
 | next=>obtain⟨σ',H',I,q⟩:=h;exact⟨σ',H',I.unwish,q⟩
 | brk=>obtain⟨σ',H',I,q⟩:=h;exact⟨σ',H',I.unwish,q⟩
 | cont=>obtain⟨σ',H',I,q⟩:=h;exact⟨σ',H',I.unwish,q⟩
 | ret u=>obtain⟨v,σ',H',I,r,q⟩:=h;exact⟨v,σ',H',I.unwish,r,q⟩
theorem PE.nox {e:Expr}{t:TE} (h:PE X.nox e t):PE X e t:=fun pins s σ H Q I hw =>
 wpAny_mono (h pins s σ H Q (I.wish _) hw) (fun _ _ ⟨v,H',I',r,q⟩=>⟨v,H',I'.unwish,r,q⟩) fun _ _ z=>False.elim z
theorem PSs.nox {st:List Stmt}{t:TS} (h:PSs X.nox st t):PSs X st t:=fun pins s σ H D I hw =>
 wpAny_mono (h pins s σ H D (I.wish _) hw) (fun _ _ q=>q.unwish) fun _ _ z=>False.elim z
end
section
variable {X:Cx}{st:Stmt}{rest:List Stmt}{t u:TS}{e:Expr}{te:TE}{pos:Pos}
noncomputable def vt:TS:=fun D σ H=>D.nx σ H
noncomputable def jG (t u:TS):TS:=fun D σ H=>t { D with nx:=u D } σ H
theorem bf:PSs X [] vt:=fun _ _ σ H _ I h=>wpAny_execs_nil ⟨σ,H,I,h⟩
theorem ao (h1:PS X st t) (h2:PSs X rest u):PSs X (st::rest) (jG t u):=by
 intro pins s σ H D I h
 refine wpAny_execs_cons (thn (h1 pins s σ H { D with nx:=u D } I h) fun f s1 q=>?_)
 cases f with
 | next =>
  obtain⟨σ',H',I',q⟩:=q
  exact h2 pins s1 σ' H' D I' q
 | ret v=>exact q
 | brk=>exact q
 | cont=>exact q
theorem ax (h1:PS X st t):PSs X [st] t:=by
 intro pins s σ H D I h
 refine wpAny_execs_cons (thn (h1 pins s σ H D I h) fun f s1 q=>?_)
 cases f with
 | next=>exact wpAny_execs_nil q
 | ret v=>exact q
 | brk=>exact q
 | cont=>exact q
theorem Inv.quiet {pins:List (Addr×Obj)}{σ:St}{H:Hp}{s:Shared} (I:Inv X pins σ H s):interactive X.env=false:=by simp [interactive,I.ok.kind]
noncomputable def vg (te:TE):TS:=fun D σ H=>te σ H fun _ H1=>D.nx σ H1
theorem bT (he:PE X e te) (hs:swapsWith e none pos.line X.env=pure false:=by rfl):PS X (.Expr e pos) (vg te):=by
 intro pins s σ H D I h
 exact wpAny_Expr_any (thn (he pins s σ H _ I h) fun v s1 ⟨x,H1,I1,r1,q1⟩=>⟨σ,H1,I1,q1⟩) I.quiet hs
noncomputable def wf (te:TE):TS:=fun D σ H=>te σ H D.rt
theorem aI (he:PE X e te):PS X (.Return (some e) pos) (wf te):=by
 intro pins s σ H D I h
 exact wpAny_Return_some (thn (he pins s σ H _ I h) fun v s1 ⟨x,H1,I1,r1,q1⟩=>⟨x,σ,H1,I1,r1,q1⟩)
noncomputable def wb (c:TT) (t u:TS):TS:=fun D σ H=>c σ H fun b H1=>if b=true then t D σ H1 else u D σ H1
theorem bh {c:Expr}{a b:List Stmt}{tc:TT} (hc:PT X c tc) (ha:PSs X a t) (hb:PSs X b u):PS X (.If c a b pos) (wb tc t u):=by
 intro pins s σ H D I h
 refine wpAny_If (thn (hc pins s σ H _ I h) fun d s1 ⟨H1,I1,q1⟩=>?_)
 cases d with
 | true=>exact ha pins s1 σ H1 D I1 q1
 | false=>exact hb pins s1 σ H1 D I1 q1
noncomputable def uB:TS:=fun _ _ _=>False
theorem cx {sts:List Stmt}:PSs X sts uB:=fun _ _ _ _ _ _ h=>h.elim
end
noncomputable abbrev TG:=V->St->Hp->(St->Hp->Prop)->Prop
noncomputable abbrev TGs:=List V->St->Hp->(St->Hp->Prop)->Prop
noncomputable def PG (X:Cx) (target:Expr) (t:TG):Prop :=
 ∀(pins:List (Addr×Obj)) (s:Shared) (σ:St) (H:Hp) (v:V) (u:Value) (Q:St->Hp->Prop),Inv X pins σ H s->RelV v u->t v σ H Q ->
  wpAny (model X.prog X.w) X.A (assign target X.env u) (fun _ s'=>∃σ' H',Inv X pins σ' H' s'/\Q σ' H') X.xe s
noncomputable def PGs (X:Cx) (ts:List Expr) (t:TGs):Prop :=
 ∀(pins:List (Addr×Obj)) (s:Shared) (σ:St) (H:Hp) (vs:List V) (us:List Value) (Q:St->Hp->Prop),Inv X pins σ H s->av vs us->t vs σ H Q ->
  wpAny (model X.prog X.w) X.A (assignInOrder ((assignEach ts X.env).map (·.2)) us) (fun _ s'=>∃σ' H',Inv X pins σ' H' s'/\Q σ' H') X.xe s
noncomputable abbrev jI:=V->V->V->Hp->(Hp->Prop)->Prop
noncomputable def nZ (X:Cx) (t:jI):Prop :=
 ∀(pins:List (Addr×Obj)) (s:Shared) (σ:St) (H:Hp) (o i v:V) (ov iv u:Value) (Q:Hp->Prop),Inv X pins σ H s->RelV o ov->RelV i iv->RelV v u->t o i v H Q ->
  wpAny (model X.prog X.w) X.A (setItem ov iv u) (fun _ s'=>∃H',Inv X pins σ H' s'/\Q H') X.xe s
section
variable {X:Cx}{pos:Pos}
noncomputable def bH (i:Nat):TG:=fun v σ H Q=>Q (σ.set i (some v)) H
theorem aX {i:Nat}{x:Str} (hN:X.N.Nodup) (hi:X.N[i]?=some x) (hx:Loc X.env.scope x) (hf:X.fn x=true\/X.env.scope.names.lookup x=some .local:=by first | exact .inl rfl | exact .inr rfl | assumption):PG X (.Name x pos) (bH i):=by
 intro pins s σ H v u Q I r h
 exact wpAny_assign_Name (gj I hN hi hx r (fun s' I'=>⟨_,H,I',h⟩) hf)
noncomputable def wy:TGs:=fun vs σ H Q=>vs=[]/\Q σ H
noncomputable def vB (t:TG) (u:TGs):TGs:=fun vs σ H Q=>∃v r,vs=v::r/\t v σ H fun σ' H'=>u r σ' H' Q
theorem cI:PGs X [] wy:=by
 intro pins s σ H vs us Q I r h
 obtain⟨e,h⟩:=h
 subst e
 cases r
 exact assignInOrder_nil ⟨σ,H,I,h⟩
theorem bB {e:Expr}{es:List Expr}{t:TG}{u:TGs} (h1:PG X e t) (h2:PGs X es u)
  (hs:(assignEach (e::es) X.env).map (·.2)=assign e X.env::(assignEach es X.env).map (·.2):=by rfl):PGs X (e::es) (vB t u):=by
 intro pins s σ H vs us Q I r h
 obtain⟨v,vr,e1,h⟩:=h
 subst e1
 cases r with
 | cons r rr =>
  rw [hs]
  refine assignInOrder_cons (thn (h1 pins s σ H _ _ _ I r h) fun _ s1 ⟨σ1,H1,I1,q1⟩=>?_)
  exact h2 pins s1 σ1 H1 _ _ Q I1 rr q1
noncomputable def nG (K:PySem.W.Frag) (n:Nat) (t:TGs):TG:=fun v σ H Q=>∃a xs,v=.ref a/\SqT K H a xs/\xs.length=n/\t xs σ H Q
theorem c9 {es:List Expr}{k:Nat}{t:TGs}{n:Nat} (hc:X.calm=true) (h:PGs X es t)
  (hn:(assignEach es X.env).length=n:=by rfl) (hst:(assignEach es X.env).findIdx? (·.1)=none:=by rfl):PG X (.Tuple es k pos) (nG X.K n t):=by
 intro pins s σ H v u Q I r hw
 obtain⟨a,xs,e1,hq,hl,hw⟩:=hw
 subst e1
 cases r
 obtain⟨its,rv,ht,hz⟩:=I.tuple hq
 refine assign_Tuple_tuple (I.ok.hd hc) ht (by simp [hn,<- hl,rv.length]) hst fun h' hx=>?_
 have I1:Inv X pins σ H { s with heap:=h' }:=I.kept (t':=s.toks) fun b o e=>hx b o (Nat.ne_of_lt (Heap.lt_size e)) e
 exact h pins _ σ H xs _ Q I1 (by simpa using rv) hw
noncomputable def v7 (to ti:TE) (t:jI):TG:=fun v σ H Q=>to σ H fun o H1=>ti σ H1 fun i H2=>t o i v H2 fun H3=>Q σ H3
theorem nc {o i:Expr}{to ti:TE}{t:jI} (ho:PE X o to) (hi:PE X i ti) (hs:nZ X t)
  (ha:∀v,assign (.Subscript o i pos) X.env v=(do
   let ov <- holding [v] (eval o X.env)
   let iv <- holding [v,ov] (eval i X.env)
   standAt pos
   holding [v,ov,iv] (setItem ov iv v)
   release [v,ov,iv] []):=by intro _;rfl):PG X (.Subscript o i pos) (v7 to ti t):=by
 intro pins s σ H v u Q I r h
 rw [ha]
 refine wpAny_bind (wpAny_holding (thn (ho pins s σ H _ I h) fun ov s1 ⟨x,H1,I1,r1,q1⟩=>?_))
 refine wpAny_bind (wpAny_holding (thn (hi pins s1 σ H1 _ I1 q1) fun iv s2 ⟨y,H2,I2,r2,q2⟩=>?_))
 refine wpAny_bind (wpAny_standAt (wpAny_bind (wpAny_holding (thn (hs pins s2 σ H2 x y v ov iv u _ I2 r1 r2 r q2) fun _ s3 ⟨H3,I3,q3⟩=>?_))))
 exact wpAny_release ⟨σ,H3,I3,q3⟩
noncomputable def nN (te:TE) (g:TG):TS:=fun D σ H=>te σ H fun x H1=>g x σ H1 D.nx
theorem dA {tg e:Expr}{te:TE}{g:TG} (he:PE X e te) (hg:PG X tg g) (hs:swapsWithSole [tg] e pos.line X.env=pure false:=by rfl) (hw:swappedStores [tg] e X.env=pure none:=by rfl)
  (h1:(assignEach [tg] X.env).map (·.2)=[assign tg X.env]:=by rfl):PS X (.Assign [tg] e pos) (nN te g):=by
 intro pins s σ H D I h
 refine wpAny_Assign_stores (thn (he pins s σ H _ I h) fun v s1 ⟨x,H1,I1,r1,q1⟩=>?_) hs hw
 rw [h1]
 exact thn (hg pins s1 σ H1 x v _ I1 r1 q1) fun _ s2 q=>q
theorem aL {i:Nat}{x:Str}{e:Expr}{te:TE}{pos':Pos} (hN:X.N.Nodup) (hi:X.N[i]?=some x) (hx:Loc X.env.scope x) (he:PE X e te) (hs:swapsWith e (some (.Name x pos')) pos.line X.env=pure false:=by rfl) (hf:X.fn x=true\/X.env.scope.names.lookup x=some .local:=by first | exact .inl rfl | exact .inr rfl | assumption) :
  PS X (.Assign [.Name x pos'] e pos) (nN te (bH i)):=by
 intro pins s σ H D I h
 refine wpAny_Assign_Name (thn (he pins s σ H _ I h) fun v s1 ⟨y,H1,I1,r1,q1⟩=>?_) hs
 exact gj I1 hN hi hx r1 (fun s2 I2=>⟨_,H1,I2,q1⟩) hf
noncomputable def we (i j:Nat) (ta:TA):TS:=fun D σ H=>ta σ H fun vs H1=>∃v w,vs=[v,w]/\D.nx ((σ.set i (some v)).set j (some w)) H1
theorem uA {i j:Nat}{x y:Str}{a b:Expr}{ta:TA}{px py pt:Pos}{kt k2 pt2} (hc:X.calm=true) (hN:X.N.Nodup) (hi:X.N[i]?=some x) (hj:X.N[j]?=some y) (hij:i≠j)
  (hx:X.env.scope.names.lookup x=some .local) (hy:X.env.scope.names.lookup y=some .local) (ha:PA X [a,b] ta)
  (hw:swappedStores [.Tuple [.Name x px,.Name y py] kt pt] (.Tuple [a,b] k2 pt2) X.env=pure (some [x,y]))
  (hs:swapsWithSole [.Tuple [.Name x px,.Name y py] kt pt] (.Tuple [a,b] k2 pt2) pos.line X.env=pure false:=by rfl) :
  PS X (.Assign [.Tuple [.Name x px,.Name y py] kt pt] (.Tuple [a,b] k2 pt2) pos) (we i j ta):=by
 intro pins s σ H D I h
 rw [exec_Assign_arm]
 refine wpAny_bind (wpAny_standAt ?_)
 rw [hs]
 refine wpAny_bind (wpAny_pure ?_)
 rw [if_neg (by decide)]
 refine wpAny_bind (Tuple_ (thn (ha _ pins s σ H _ I h) fun us s1 ⟨vs,H1,I1,r1,q1⟩=>?_))
 obtain⟨v,w,e1,q1⟩:=q1
 subst e1
 obtain⟨u1,u2,rfl,rv,rw'⟩:∃u1 u2,us=[u1,u2]/\RelV v u1/\RelV w u2:=by
  cases r1 with
  | cons p q =>
   cases q with
   | cons p' q' =>
    cases q'
    exact⟨_,_,rfl,p,p'⟩
 refine wpAny_newObj_type ?_ (by show 2<=sizeLine;decide)
 have I2:Inv X pins σ H1 { s1 with heap:=s1.heap.push { cls:=.type "tuple",data:=.seq [u1,u2].toArray } }:=I1.kept (t':=s1.toks) fun b o e=>Heap.get?_push_of_some _ e
 rw [hw]
 refine wpAny_bind (wpAny_pure ?_)
 show wpAny (model X.prog X.w) X.A (do rule "assign.swapped-stores";let items <- unpackItems (.ref s1.heap.objs.size) 2 none;assignInOrder [fun v=>bindName X.env y v,fun v=>bindName X.env x v] items.reverse;pure Flow.next) _ _ _
 refine wpAny_bind (wpAny_rule (wpAny_bind (unpackItems_tuple (items:=#[u1,u2]) (I.ok.hd hc) (IsTup.new s1.heap _) fun h' hx'=>?_)))
 have I3:=I2.kept (h':=h') (t':=s1.toks) fun b o e=>hx' b o (Nat.ne_of_lt (Heap.lt_size e)) e
 show wpAny _ _ (assignInOrder [fun v=>bindName X.env y v,fun v=>bindName X.env x v] [u2,u1] >>= fun _=>pure Flow.next) _ _ _
 refine wpAny_bind (assignInOrder_cons (wpAny_bindName (gj I3 hN hj (.inl hy) rw' (fun s2 I4=>?_) (.inr hy))))
 refine assignInOrder_cons (wpAny_bindName (gj I4 hN hi (.inl hx) rv (fun s3 I5=>assignInOrder_nil (wpAny_pure ?_)) (.inr hx)))
 rw [List.set_comm _ _ (Ne.symm hij)] at I5
 exact⟨_,H1,I5,q1⟩
end
section
variable {X:Cx}{pos:Pos}
noncomputable def uI (c:TT) (tb:TS):TS:=fun D σ H=>∃W:Nat->St->Hp->Prop,(∃m,W m σ H)/\∀m σ H,W m σ H ->
 c σ H fun b H1=>if b=true then ∃N:St->Hp->Prop,(∀σ' H',N σ' H'->∃m',m' < m/\W m' σ' H')/\tb { D with nx:=N,ct:=N,bk:=D.nx } σ H1 else D.nx σ H1
theorem rT {c:Expr}{body:List Stmt}{tc:TT}{tb:TS} (hp:PassesOwn (model X.prog X.w) X.A X.env X.xe) (hc:PT X c tc) (hb:PSs X body tb):PS X (.While c body [] pos) (uI tc tb):=by
 intro pins s σ H D I h
 obtain⟨W,⟨m0,w0⟩,turn⟩:=h
 refine wpAny_While (codeAny_whileLoop (fun n s'=>∃σ' H',Inv X pins σ' H' s'/\W n σ' H') ?_ m0 ⟨σ,H,I,w0⟩)
 rintro n s1 ⟨σ1,H1,I1,w1⟩
 refine wpAny_passesOwn hp (thn (hc pins s1 σ1 H1 _ I1 (turn n σ1 H1 w1)) fun b s2 ⟨H2,I2,q2⟩=>?_)
 cases b with
 | true =>
  obtain⟨N,hN,q2⟩:=q2
  rw [if_pos rfl]
  refine wpAny_passesOwn hp (thn (hb pins s2 σ1 H2 _ I2 q2) fun f s3 q3=>?_)
  cases f with
  | next =>
   obtain⟨σ3,H3,I3,n3⟩:=q3
   obtain⟨m',hm,w3⟩:=hN σ3 H3 n3
   exact⟨m',hm,σ3,H3,I3,w3⟩
  | cont =>
   obtain⟨σ3,H3,I3,n3⟩:=q3
   obtain⟨m',hm,w3⟩:=hN σ3 H3 n3
   exact⟨m',hm,σ3,H3,I3,w3⟩
  | brk=>exact q3
  | ret v=>exact q3
 | false =>
  rw [if_neg Bool.false_ne_true]
  exact wpAny_execs_nil ⟨σ1,H2,I2,q2⟩
end
structure It where
 go:Nat->Hp->Prop
 yld:Nat->Hp->V->Hp->Prop
 stop:Nat->Hp->Prop
noncomputable def aY (X:Cx) (pins:List (Addr×Obj)) (H:Hp) (b:Addr):Prop :=
 H b=none/\b≠X.env.locals/\b∉X.fs/\(b∈X.ex\/X.s₀.heap.objs.size<=b)/\(∀x c,X.env.cells.lookup x=some c->c≠b)/\∀p∈X.pn++pins,p.1≠b
theorem Inv.fpOk {X:Cx}{pins:List (Addr×Obj)}{σ:St}{H H':Hp}{s:Shared}{b:Addr} (I:Inv X pins σ H s) (hb:s.heap.objs.size<=b) (hn:H' b=none):aY X pins H' b:=by
 refine⟨hn,Nat.ne_of_gt (Nat.lt_of_lt_of_le I.lt hb),I.nofs hb,.inr (Nat.le_trans I.sz hb),fun x c e z=>?_,fun p hp z=>?_⟩
 ·obtain⟨v,q⟩:=I.cell x c e
  exact absurd (Nat.lt_of_lt_of_le q.lt (by rw [z];exact hb)) (Nat.lt_irrefl _)
 ·exact absurd (Nat.lt_of_lt_of_le (Heap.lt_size (I.pin p hp).1) (by rw [z];exact hb)) (Nat.lt_irrefl _)
structure Turn (P:Program) (w:World) (K:PySem.W.Frag) (tg:Expr) (J:It) (fp:List Addr) (it:Addr) (tn:Nat->Heap->Prop):Prop where
 mem:it∈fp
 obj:∀i h,tn i h->∀b∈fp,∃o,h.get? b=some o/\∀v,o.data≠.cell v
 keep:∀i h h',tn i h->(∀b∈fp,∀o,h.get? b=some o->h'.get? b=some o)->tn i h'
 item:∀(X:Cx),X.prog=P->X.w=w->X.K=K->X.calm=true->∀(i:Nat) (pins:List (Addr×Obj)) (s:Shared) (σ:St) (H:Hp) (E:Value->Shared->Prop),Inv X pins σ H s->(∀b∈fp,aY X pins H b)->tn i s.heap->J.go i H ->
  wpAny (model P w) X.A (pyNext (.ref it)) (fun r s1=>∃u,r=some u /\
   wpAny (model P w) X.A (letOwnedTupleGo tg (.ref it) u) (fun _ s2=>∃x H',Inv X pins σ H' s2/\RelV x u/\J.yld i H x H'/\tn (i + 1) s2.heap/\∀b∈fp,H' b=none) E s1) E s
 done:∀(X:Cx),X.prog=P->X.w=w->X.K=K->X.calm=true->∀(i:Nat) (pins:List (Addr×Obj)) (s:Shared) (σ:St) (H:Hp) (E:Value->Shared->Prop),Inv X pins σ H s->(∀b∈fp,aY X pins H b)->tn i s.heap->J.stop i H ->
  wpAny (model P w) X.A (pyNext (.ref it)) (fun r s1=>r=none/\Inv X pins σ H s1) E s
 self:∀(A:Around) (i:Nat) (s:Shared) (Q:Value->Shared->Prop) (E:Value->Shared->Prop),tn i s.heap->Q (.ref it) s->wpAny (model P w) A (pyIter (.ref it)) Q E s
noncomputable abbrev TI:=St->Hp->(It->Hp->Prop)->Prop
noncomputable def PIE (X:Cx) (pins:List (Addr×Obj)) (σ:St) (tg:Expr) (R:It->Hp->Prop) (itv:Value) (s2:Shared):Prop :=
 ∃(it:Addr) (fp:List Addr) (tn:Nat->Heap->Prop) (J:It) (H':Hp),itv=.ref it/\Inv X pins σ H' s2/\Turn X.prog X.w X.K tg J fp it tn/\tn 0 s2.heap/\(∀b∈fp,aY X pins H' b)/\R J H'
noncomputable def PI (X:Cx) (tg iter:Expr) (wi:TI):Prop :=
 ∀(pins:List (Addr×Obj)) (s:Shared) (σ:St) (H:Hp) (R:It->Hp->Prop),Inv X pins σ H s->wi σ H R ->
  wpAny (model X.prog X.w) X.A (eval iter X.env) (fun v s1=>wpAny (model X.prog X.w) X.A (pyIter v) (PIE X pins σ tg R) X.xe s1) X.xe s
theorem ff {M:Model}{A:Around}{E:Value->Shared->Prop}{s:Shared}{tg:Expr}{it:Addr}{u:Value}{o:Obj}{n:String}{vs:Array Value}{Q:Unit->Shared->Prop} (ho:s.heap.get? it=some o) (hc:o.cls=.type n) (hd:o.data=.fields vs)
  (hn:["enumerate","zip","dict_itemiterator","dict_reverseitemiterator","odict_iterator","itertools.zip_longest","itertools.pairwise"].contains n=false) (hQ:Q () s):wpAny M A (letOwnedTupleGo tg (.ref it) u) Q E s:=by
 unfold letOwnedTupleGo
 cases tg <;> first
  | exact wpAny_pure hQ
  | (cases u <;> first
    | exact wpAny_pure hQ
    | (refine wpAny_bind (wpAny_load ho ?_)
       rw [hc,hd]
       show wpAny M A (if (["enumerate","zip","dict_itemiterator","dict_reverseitemiterator","odict_iterator","itertools.zip_longest","itertools.pairwise"].contains n && vs[0]? == some (rawInt _))=true then _ else _) Q E s
       rw [if_neg (by intro h;rw [hn,Bool.false_and] at h;cases h)]
       exact wpAny_pure hQ))
noncomputable def Itl (K:PySem.W.Frag) (a:Addr):It :=
 ⟨fun i H=>∃xs x,SqL K H a xs/\xs[i]?=some x,fun i H x H'=>H'=H/\∀xs,SqL K H a xs->xs[i]?=some x,fun i H=>∃xs,SqL K H a xs/\xs.length<=i⟩
noncomputable def Itt (K:PySem.W.Frag) (a:Addr):It :=
 ⟨fun i H=>∃xs x,SqT K H a xs/\xs[i]?=some x,fun i H x H'=>H'=H/\∀xs,SqT K H a xs->xs[i]?=some x,fun i H=>∃xs,SqT K H a xs/\xs.length<=i⟩
noncomputable def Itr (lo:Int) (n:Nat):It:=⟨fun i _=>i < n,fun i H x H'=>H'=H/\x=.int (lo + i),fun i _=>n<=i⟩
theorem pT {P:Program}{w:World}{K:PySem.W.Frag}{tg:Expr} (a it:Addr):Turn P w K tg (Itl K a) [it] it (fun i h=>h.IsListIter it a i) where
 mem:=by simp
 obj:=fun i h st b hb=>by
  have e:b=it:=by simpa using hb
  subst e
  obtain⟨o,e,c,d⟩:=st
  exact⟨o,e,fun v z=>by rw [d] at z;cases z⟩
 keep:=fun i h h' st k=>st.at fun o e=>k it (by simp) o e
 item:=by
  intro X hP hw hK hc i pins s σ H E I hf st hg
  subst hP hw hK
  obtain⟨xs,x,hq,hx⟩:=hg
  obtain⟨its,rv,p,hz⟩:=I.list hq
  obtain⟨u,hu,ru⟩:=rv.get hx
  obtain⟨f0,f1,f2,f3,f4,f5⟩:=hf it (by simp)
  refine wpAny_pyNext_list_item st p.isList (x:=u) (by simpa using hu) fun h' st' sb=>?_
  have I1:Inv X pins σ H { s with heap:=h' }:=I.turned (t':=s.toks) (fun b o hb e=>(sb.2 b hb).trans e) f0 f1 f3 f4 f5
  obtain⟨o,e,c,d⟩:=id st'
  exact⟨u,rfl,ff (s:={ s with heap:=h' }) e c d (by decide) ⟨x,H,I1,ru,⟨rfl,fun ys hy=>by rw [I.list_inj hy hq];exact hx⟩,st',fun b hb=>(hf b hb).1⟩⟩
 done:=by
  intro X hP hw hK hc i pins s σ H E I hf st hg
  subst hP hw hK
  obtain⟨xs,hq,hx⟩:=hg
  obtain⟨its,rv,p,hz⟩:=I.list hq
  obtain⟨f0,f1,f2,f3,f4,f5⟩:=hf it (by simp)
  have hl:=rv.length
  exact wpAny_pyNext_list_end (I.ok.hd hc) st p.isList (by simp;omega) fun h' eb=>⟨rfl,I.turned (t':=s.toks) (fun b o hb e=>eb b o hb e) f0 f1 f3 f4 f5⟩
 self:=fun _ _ _ _ _ st h=>wpAny_pyIter_listiter st h
theorem pM {P:Program}{w:World}{K:PySem.W.Frag}{tg:Expr} (a it:Addr):Turn P w K tg (Itt K a) [it] it (fun i h=>h.IsTupleIter it a i) where
 mem:=by simp
 obj:=fun i h st b hb=>by
  have e:b=it:=by simpa using hb
  subst e
  obtain⟨o,e,c,d⟩:=st
  exact⟨o,e,fun v z=>by rw [d] at z;cases z⟩
 keep:=fun i h h' st k=>st.at fun o e=>k it (by simp) o e
 item:=by
  intro X hP hw hK hc i pins s σ H E I hf st hg
  subst hP hw hK
  obtain⟨xs,x,hq,hx⟩:=hg
  obtain⟨its,rv,p,hz⟩:=I.tuple hq
  obtain⟨u,hu,ru⟩:=rv.get hx
  obtain⟨f0,f1,f2,f3,f4,f5⟩:=hf it (by simp)
  refine wpAny_pyNext_tuple_item st (show s.heap.IsTuple a its.toArray from p) (x:=u) (by simpa using hu) fun h' st' sb=>?_
  have I1:Inv X pins σ H { s with heap:=h' }:=I.turned (t':=s.toks) (fun b o hb e=>(sb.2 b hb).trans e) f0 f1 f3 f4 f5
  obtain⟨o,e,c,d⟩:=id st'
  exact⟨u,rfl,ff (s:={ s with heap:=h' }) e c d (by decide) ⟨x,H,I1,ru,⟨rfl,fun ys hy=>by rw [I.tuple_inj hy hq];exact hx⟩,st',fun b hb=>(hf b hb).1⟩⟩
 done:=by
  intro X hP hw hK hc i pins s σ H E I hf st hg
  subst hP hw hK
  obtain⟨xs,hq,hx⟩:=hg
  obtain⟨its,rv,p,hz⟩:=I.tuple hq
  obtain⟨f0,f1,f2,f3,f4,f5⟩:=hf it (by simp)
  have hl:=rv.length
  exact wpAny_pyNext_tuple_end (I.ok.hd hc) st (show s.heap.IsTuple a its.toArray from p) (by simp;omega) fun h' eb=>⟨rfl,I.turned (t':=s.toks) (fun b o hb e=>eb b o hb e) f0 f1 f3 f4 f5⟩
 self:=fun _ _ _ _ _ st h=>wpAny_pyIter_tupleiter st h
theorem pE {P:Program}{w:World}{K:PySem.W.Frag}{tg:Expr} (it:Addr) (lo:Int) (n:Nat):Turn P w K tg (Itr lo n) [it] it (fun i h=>IsRangeIter h it (lo + (i:Nat) * 1) ((n:Int) - (i:Nat)) 1) where
 mem:=by simp
 obj:=fun i h st b hb=>by
  have e:b=it:=by simpa using hb
  subst e
  exact⟨_,st,fun v z=>by
   have z':Data.fields _=Data.cell v:=z
   cases z'⟩
 keep:=fun i h h' st k=>k it (by simp) _ st
 item:=by
  intro X hP hw hK hc i pins s σ H E I hf st hg
  subst hP hw hK
  obtain⟨f0,f1,f2,f3,f4,f5⟩:=hf it (by simp)
  have W:=Walks.range (prog:=X.prog) (w:=X.w) (I.ok.hd hc) it lo 1 n
  refine W.item i s _ _ hg st fun v h' tk hv st' kk=>?_
  obtain⟨t,rfl⟩:=hv
  have I1:Inv X pins σ H { s with heap:=h',toks:=tk }:=I.turned (fun b o hb e=>kk b o (by simpa using hb) e) f0 f1 f3 f4 f5
  refine⟨_,rfl,ff (s:={ s with heap:=h',toks:=tk }) (n:="range_iterator") st' rfl rfl (by decide) ⟨.int (lo + i),H,I1,⟨t,?_⟩,⟨rfl,rfl⟩,st',fun b hb=>(hf b hb).1⟩⟩
  rw [Int.mul_one]
 done:=by
  intro X hP hw hK hc i pins s σ H E I hf st hg
  subst hP hw hK
  obtain⟨f0,f1,f2,f3,f4,f5⟩:=hf it (by simp)
  exact wpAny_pyNext_range_end (I.ok.hd hc) st (by have:n<=i:=hg;omega) fun h' eb=>⟨rfl,I.turned (t':=s.toks) (fun b o hb e=>eb b o hb e) f0 f1 f3 f4 f5⟩
 self:=fun _ _ _ _ _ st h=>wpAny_pyIter_rangeiter st h
section
variable {X:Cx}{tg:Expr}
noncomputable def jw (K:PySem.W.Frag) (tl:TE):TI:=fun σ H R=>tl σ H fun x H1=>∃a,x=.ref a/\(∃xs,SqL K H1 a xs)/\R (Itl K a) H1
noncomputable def gR (K:PySem.W.Frag) (tl:TE):TI:=fun σ H R=>tl σ H fun x H1=>∃a,x=.ref a/\(∃xs,SqT K H1 a xs)/\R (Itt K a) H1
theorem bg {l:Expr}{tl:TE} (hl:PE X l tl):PI X tg l (jw X.K tl):=by
 intro pins s σ H R I h
 refine thn (hl pins s σ H _ I h) fun v s1 ⟨x,H1,I1,r1,q1⟩=>?_
 obtain⟨a,e,⟨xs,hq⟩,q⟩:=q1
 subst e
 cases r1
 obtain⟨its,rv,p,hz⟩:=I1.list hq
 refine wpAny_pyIter_list p.isList ?_
 refine⟨s1.heap.objs.size,[s1.heap.objs.size],_,_,H1,rfl,I1.kept (t':=s1.toks) fun b o e=>Heap.get?_push_of_some _ e,pT a _,⟨_,Heap.get?_push_size _ rfl,rfl,rfl⟩,fun b hb=>?_,q⟩
 have e:b=s1.heap.objs.size:=by simpa using hb
 subst e
 exact I1.fpOk (Nat.le_refl _) (I1.hok.fresh (Nat.le_refl _))
theorem bW {l:Expr}{tl:TE} (hl:PE X l tl):PI X tg l (gR X.K tl):=by
 intro pins s σ H R I h
 refine thn (hl pins s σ H _ I h) fun v s1 ⟨x,H1,I1,r1,q1⟩=>?_
 obtain⟨a,e,⟨xs,hq⟩,q⟩:=q1
 subst e
 cases r1
 obtain⟨its,rv,p,hz⟩:=I1.tuple hq
 refine wpAny_pyIter_tuple (show s1.heap.IsTuple a its.toArray from p) ?_
 refine⟨s1.heap.objs.size,[s1.heap.objs.size],_,_,H1,rfl,I1.kept (t':=s1.toks) fun b o e=>Heap.get?_push_of_some _ e,pM a _,⟨_,Heap.get?_push_size _ rfl,rfl,rfl⟩,fun b hb=>?_,q⟩
 have e:b=s1.heap.objs.size:=by simpa using hb
 subst e
 exact I1.fpOk (Nat.le_refl _) (I1.hok.fresh (Nat.le_refl _))
theorem lA {pins:List (Addr×Obj)}{σ:St}{H:Hp}{s:Shared}{R:It->Hp->Prop}{E:Value->Shared->Prop}{lo hi:Int}{t u v:Tok}{tk:Nat} (I:Inv X pins σ H s) (h1:-(2 ^ 62)<=lo) (h2:lo < 2 ^ 62) (h3:-(2 ^ 62)<=hi) (h4:hi < 2 ^ 62)
  (q:R (Itr lo (hi - lo).toNat) H):wpAny (model X.prog X.w) X.A (pyIter (.ref s.heap.objs.size)) (PIE X pins σ tg R) E { s with heap:=s.heap.push { cls:=.type "range",data:=.fields #[.int lo t,.int hi u,.int 1 v] },toks:=tk }:=by
 refine wpAny_pyIter_range (IsRange.new ..) (small_one h1 h2 h3 h4) ?_
 have I1:Inv X pins σ H { s with heap:=s.heap.push { cls:=.type "range",data:=.fields #[.int lo t,.int hi u,.int 1 v] },toks:=tk }:=I.kept fun b o e=>Heap.get?_push_of_some _ e
 refine⟨(s.heap.push { cls:=.type "range",data:=.fields #[.int lo t,.int hi u,.int 1 v] }).objs.size,[(s.heap.push { cls:=.type "range",data:=.fields #[.int lo t,.int hi u,.int 1 v] }).objs.size],_,_,H,rfl,
  I1.kept (t':=tk) fun b o e=>Heap.get?_push_of_some _ e,pE _ lo (hi - lo).toNat,?_,fun b hb=>?_,q⟩
 ·have e1:lo + ((0:Nat):Int) * 1=lo:=by simp
  have e2:(((hi - lo).toNat:Nat):Int) - ((0:Nat):Int)=Builtin.Range.rangeSize lo hi 1:=by rw [rangeSize_one];split <;> omega
  show IsRangeIter _ _ (lo + ((0:Nat):Int) * 1) ((((hi - lo).toNat:Nat):Int) - ((0:Nat):Int)) 1
  rw [e1,e2]
  exact Heap.get?_push_size _ rfl
 ·have e:b=(s.heap.push { cls:=.type "range",data:=.fields #[.int lo t,.int hi u,.int 1 v] }).objs.size:=by simpa using hb
  subst e
  exact I1.fpOk (Nat.le_refl _) (I1.hok.fresh (Nat.le_refl _))
noncomputable def vv (ta:TA):TI:=fun σ H R=>ta σ H fun vs H1=>∃j:Int,vs=[.int j]/\-(2 ^ 62)<=j/\j < 2 ^ 62/\R (Itr 0 j.toNat) H1
noncomputable def vm (ta:TA):TI:=fun σ H R=>ta σ H fun vs H1=>∃i j:Int,vs=[.int i,.int j]/\(-(2 ^ 62)<=i/\i < 2 ^ 62/\-(2 ^ 62)<=j/\j < 2 ^ 62)/\R (Itr i (j - i).toNat) H1
theorem cW {a:Expr}{ta:TA}{p pos:Pos} (hg:Gl X "range") (hm:X.mg "range"=none) (ha:PA X [a] ta) (hs:starEach [a] X.env=[(false,eval a X.env)]:=by rfl):PI X tg (.Call (.Name "range" p) [a] [] pos) (vv ta):=by
 intro pins s σ H R I h
 refine Call_ (dB I hg hm boot_range (PyProof.Rows.callWith_type1 (thn (ha pos pins s σ H _ I h) fun us s1 ⟨vs,H1,I1,r1,q1⟩=>?_) hs rfl))
 obtain⟨j,e,q1,q2,q⟩:=q1
 subst e
 cases r1 with
 | cons r rr =>
  cases rr
  obtain⟨t,rfl⟩:=r
  exact call_range_1 (lA I1 (by omega) (by omega) q1 q2 (by simpa using q))
theorem kA {a b:Expr}{ta:TA}{p pos:Pos} (hg:Gl X "range") (hm:X.mg "range"=none) (ha:PA X [a,b] ta) (hs:starEach [a,b] X.env=[(false,eval a X.env),(false,eval b X.env)]:=by rfl) (hs2:starEach [b] X.env=[(false,eval b X.env)]:=by rfl) :
  PI X tg (.Call (.Name "range" p) [a,b] [] pos) (vm ta):=by
 intro pins s σ H R I h
 refine Call_ (dB I hg hm boot_range (PyProof.Rows.callWith_type1 (thn (ha pos pins s σ H _ I h) fun us s1 ⟨vs,H1,I1,r1,q1⟩=>?_) (by rw [hs,hs2]) (by rw [hs2];rfl)))
 obtain⟨i,j,e,⟨q1,q2,q3,q4⟩,q⟩:=q1
 subst e
 cases r1 with
 | cons r rr =>
  cases rr with
  | cons r' rr =>
   cases rr
   obtain⟨t,rfl⟩:=r
   obtain⟨t',rfl⟩:=r'
   exact call_range_2 (lA I1 q1 q2 q3 q4 q)
noncomputable def nH (wi:TI) (g:TG) (tb:TS):TS:=fun D σ H=>wi σ H fun J H1=>∃W:Nat->Nat->St->Hp->Prop,(∃m,W 0 m σ H1)/\∀i m σ H,W i m σ H ->
 (J.stop i H/\D.nx σ H)\/(J.go i H/\∃N:St->Hp->Prop,(∀σ' H',N σ' H'->∃m',m' < m/\W (i + 1) m' σ' H')/\∀x H',J.yld i H x H'->g x σ H' fun σ2 H2=>tb { D with nx:=N,ct:=N,bk:=D.nx } σ2 H2)
noncomputable def cg (fp:List Addr) (h:Heap):List (Addr×Obj):=fp.filterMap fun b=>(h.get? b).map fun o=>(b,o)
theorem bS {fp:List Addr}{h:Heap}{b:Addr}{o:Obj} (hb:b∈fp) (e:h.get? b=some o):(b,o)∈cg fp h:=List.mem_filterMap.mpr ⟨b,hb,by rw [e];rfl⟩
theorem kg {fp:List Addr}{h:Heap}{p:Addr×Obj} (hp:p∈cg fp h):p.1∈fp/\h.get? p.1=some p.2:=by
 obtain⟨b,hb,e⟩:=List.mem_filterMap.mp hp
 cases q:h.get? b with
 | none=>rw [q] at e;cases e
 | some o =>
  rw [q] at e
  have e':(b,o)=p:=Option.some.inj e
  subst e'
  exact⟨hb,q⟩
theorem Inv.pinned {pins:List (Addr×Obj)}{σ:St}{H:Hp}{s:Shared}{fp:List Addr} (I:Inv X pins σ H s) (hf:∀b∈fp,aY X pins H b) (ho:∀b∈fp,∃o,s.heap.get? b=some o/\∀v,o.data≠.cell v):Inv X (pins++cg fp s.heap) σ H s :=
 I.pins_of fun p hp=>(List.mem_append.mp hp).elim (fun z=>I.pin p (List.mem_append_right _ z)) fun z=>by
  obtain⟨hb,e⟩:=kg z
  obtain⟨f0,f1,f2,_⟩:=hf p.1 hb
  obtain⟨o,e',d⟩:=ho p.1 hb
  rw [e] at e';cases e'
  exact⟨e,f0,f1,f2,d⟩
theorem Inv.unpinned {pins pl:List (Addr×Obj)}{σ:St}{H:Hp}{s:Shared} (I:Inv X (pins++pl) σ H s):Inv X pins σ H s:=I.pins_of fun p hp=>I.pin p (List.mem_append_right _ (List.mem_append_left _ hp))
theorem bP {iter:Expr}{body:List Stmt}{wi:TI}{g:TG}{tb:TS}{pos:Pos} (hp:PassesOwn (model X.prog X.w) X.A X.env X.xe) (hc:X.calm=true) (hi:PI X tg iter wi) (hg:PG X tg g) (hb:PSs X body tb)
  (hs:∀x,foldedSetIterable iter X.env x=pure x:=by intro _;rfl):PS X (.For tg iter body [] pos) (nH wi g tb):=by
 intro pins s σ H D I h
 refine wpAny_For (thn (hi pins s σ H _ I h) fun v s1 h1=>thn h1 fun itv s2 h2=>?_) hs
 obtain⟨it,fp,tn,J,H2,e,I2,T,st2,f2,W,⟨m0,w0⟩,turn⟩:=h2
 subst e
 have stat:∀{H':Hp},(∀b∈fp,H' b=none)->∀b∈fp,aY X pins H' b:=fun hn b hb=>⟨hn b hb,(f2 b hb).2⟩
 refine codeAny_forLoop_any (fun n s'=>∃i σ' H',Inv X pins σ' H' s'/\tn i s'.heap/\(∀b∈fp,H' b=none)/\W i n σ' H') ?_ m0 ⟨0,σ,H2,I2,st2,fun b hb=>(f2 b hb).1,w0⟩
 rintro n s3 ⟨i,σ3,H3,I3,st3,fr3,w3⟩
 rcases turn i n σ3 H3 w3 with ⟨stop,qn⟩ | ⟨go,N,hN,step⟩
 ·refine wpAny_passesOwn hp (thn (T.done X rfl rfl rfl hc i pins s3 σ3 H3 X.xe I3 (stat fr3) st3 stop) fun r s4 ⟨hr,I4⟩=>?_)
  subst hr
  exact wpAny_execs_nil ⟨σ3,H3,I4,qn⟩
 ·refine wpAny_passesOwn hp (thn (T.item X rfl rfl rfl hc i pins s3 σ3 H3 X.xe I3 (stat fr3) st3 go) fun r s4 ⟨u,hr,h4⟩=>?_)
  subst hr
  refine wpAny_passesOwn hp (thn h4 fun _ s5 ⟨x,H5,I5,r5,y5,st5,fr5⟩=>?_)
  have I5':=I5.pinned (stat fr5) (T.obj _ _ st5)
  refine wpAny_passesOwn hp (thn (hg _ s5 σ3 H5 x u _ I5' r5 (step x H5 y5)) fun _ s6 ⟨σ6,H6,I6,q6⟩=>?_)
  refine wpAny_passesOwn hp (thn (hb _ s6 σ6 H6 _ I6 q6) fun f s7 q7=>?_)
  have again:∀{σ7:St}{H7:Hp},Inv X (pins++cg fp s5.heap) σ7 H7 s7->N σ7 H7->∃m,m < n/\∃i σ' H',Inv X pins σ' H' s7/\tn i s7.heap/\(∀b∈fp,H' b=none)/\W i m σ' H':=fun {σ7 H7} I7 n7=>by
   obtain⟨m',hm,w7⟩:=hN σ7 H7 n7
   refine⟨m',hm,i + 1,σ7,H7,I7.unpinned,T.keep _ _ _ st5 fun b hb o e=>(I7.pin (b,o) (List.mem_append_right _ (List.mem_append_right _ (bS hb e)))).1,fun b hb=>?_,w7⟩
   obtain⟨o,e,d⟩:=T.obj _ _ st5 b hb
   exact (I7.pin (b,o) (List.mem_append_right _ (List.mem_append_right _ (bS hb e)))).2.1
  cases f with
  | next=>obtain⟨σ7,H7,I7,n7⟩:=q7;exact again I7 n7
  | cont=>obtain⟨σ7,H7,I7,n7⟩:=q7;exact again I7 n7
  | brk=>obtain⟨σ7,H7,I7,q7⟩:=q7;exact⟨σ7,H7,I7.unpinned,q7⟩
  | ret v=>obtain⟨x7,σ7,H7,I7,r7,q7⟩:=q7;exact⟨x7,σ7,H7,I7.unpinned,r7,q7⟩
end
theorem dr {K:PySem.W.Frag}{a:Addr}{xs:List V}{g:TG}{tb:TS}{D:Ends}{σ:St}{H:Hp} (Pv:Nat->St->Hp->Prop) (h0:Pv 0 σ H) (hl:∀i σ H,i<=xs.length->Pv i σ H->SqL K H a xs)
  (hs:∀i x σ H,xs[i]?=some x->Pv i σ H->g x σ H fun σ2 H2=>tb { D with nx:=Pv (i + 1),ct:=Pv (i + 1),bk:=D.nx } σ2 H2) (hd:∀σ H,Pv xs.length σ H->D.nx σ H) :
  ∃W:Nat->Nat->St->Hp->Prop,(∃m,W 0 m σ H)/\∀i m σ H,W i m σ H ->
   ((Itl K a).stop i H/\D.nx σ H)\/((Itl K a).go i H/\∃N:St->Hp->Prop,(∀σ' H',N σ' H'->∃m',m' < m/\W (i + 1) m' σ' H')/\∀x H',(Itl K a).yld i H x H'->g x σ H' fun σ2 H2=>tb { D with nx:=N,ct:=N,bk:=D.nx } σ2 H2):=by
 refine⟨fun i m σ H=>m=xs.length - i/\i<=xs.length/\Pv i σ H,⟨xs.length,by simp,Nat.zero_le _,h0⟩,?_⟩
 rintro i m σ H ⟨rfl,hi,p⟩
 have q:=hl i σ H hi p
 by_cases hlt:i < xs.length
 ·refine .inr ⟨⟨xs,xs[i],q,by simp [hlt]⟩,Pv (i + 1),fun σ' H' p'=>⟨xs.length - (i + 1),by omega,rfl,hlt,p'⟩,fun x H' y=>?_⟩
  obtain⟨e,y⟩:=y
  subst e
  exact hs i x σ _ (y xs q) p
 ·have e:i=xs.length:=by omega
  subst e
  exact .inl ⟨⟨xs,q,Nat.le_refl _⟩,hd σ H p⟩
theorem sS {K:PySem.W.Frag}{a:Addr}{xs:List V}{g:TG}{tb:TS}{D:Ends}{σ:St}{H:Hp} (Pv:Nat->St->Hp->Prop) (h0:Pv 0 σ H) (hl:∀i σ H,i<=xs.length->Pv i σ H->SqT K H a xs)
  (hs:∀i x σ H,xs[i]?=some x->Pv i σ H->g x σ H fun σ2 H2=>tb { D with nx:=Pv (i + 1),ct:=Pv (i + 1),bk:=D.nx } σ2 H2) (hd:∀σ H,Pv xs.length σ H->D.nx σ H) :
  ∃W:Nat->Nat->St->Hp->Prop,(∃m,W 0 m σ H)/\∀i m σ H,W i m σ H ->
   ((Itt K a).stop i H/\D.nx σ H)\/((Itt K a).go i H/\∃N:St->Hp->Prop,(∀σ' H',N σ' H'->∃m',m' < m/\W (i + 1) m' σ' H')/\∀x H',(Itt K a).yld i H x H'->g x σ H' fun σ2 H2=>tb { D with nx:=N,ct:=N,bk:=D.nx } σ2 H2):=by
 refine⟨fun i m σ H=>m=xs.length - i/\i<=xs.length/\Pv i σ H,⟨xs.length,by simp,Nat.zero_le _,h0⟩,?_⟩
 rintro i m σ H ⟨rfl,hi,p⟩
 have q:=hl i σ H hi p
 by_cases hlt:i < xs.length
 ·refine .inr ⟨⟨xs,xs[i],q,by simp [hlt]⟩,Pv (i + 1),fun σ' H' p'=>⟨xs.length - (i + 1),by omega,rfl,hlt,p'⟩,fun x H' y=>?_⟩
  obtain⟨e,y⟩:=y
  subst e
  exact hs i x σ _ (y xs q) p
 ·have e:i=xs.length:=by omega
  subst e
  exact .inl ⟨⟨xs,q,Nat.le_refl _⟩,hd σ H p⟩
theorem fH {lo:Int}{n:Nat}{g:TG}{tb:TS}{D:Ends}{σ:St}{H:Hp} (Pv:Nat->St->Hp->Prop) (h0:Pv 0 σ H)
  (hs:∀i σ H,i < n->Pv i σ H->g (.int (lo + i)) σ H fun σ2 H2=>tb { D with nx:=Pv (i + 1),ct:=Pv (i + 1),bk:=D.nx } σ2 H2) (hd:∀σ H,Pv n σ H->D.nx σ H) :
  ∃W:Nat->Nat->St->Hp->Prop,(∃m,W 0 m σ H)/\∀i m σ H,W i m σ H ->
   ((Itr lo n).stop i H/\D.nx σ H)\/((Itr lo n).go i H/\∃N:St->Hp->Prop,(∀σ' H',N σ' H'->∃m',m' < m/\W (i + 1) m' σ' H')/\∀x H',(Itr lo n).yld i H x H'->g x σ H' fun σ2 H2=>tb { D with nx:=N,ct:=N,bk:=D.nx } σ2 H2):=by
 refine⟨fun i m σ H=>m=n - i/\i<=n/\Pv i σ H,⟨n,by simp,Nat.zero_le _,h0⟩,?_⟩
 rintro i m σ H ⟨rfl,hi,p⟩
 by_cases hlt:i < n
 ·refine .inr ⟨hlt,Pv (i + 1),fun σ' H' p'=>⟨n - (i + 1),by omega,rfl,hlt,p'⟩,fun x H' y=>?_⟩
  obtain⟨e,y⟩:=y
  subst e y
  exact hs i σ _ hlt p
 ·have e:i=n:=by omega
  subst e
  exact .inl ⟨Nat.le_refl _,hd σ H p⟩
noncomputable abbrev R2:=V->V->Hp->VK->Prop
noncomputable def OpR (X:Cx) (f:Value->Value->Sem Value) (r:R2):Prop :=
 ∀(pins:List (Addr×Obj)) (s:Shared) (σ:St) (H:Hp) (x y:V) (v u:Value) (Q:VK),Inv X pins σ H s->RelV x v->RelV y u->r x y H Q ->
  wpAny (model X.prog X.w) X.A (f v u) (EP X pins σ Q) X.xe s
noncomputable def bC (X:Cx) (f:Value) (r:List V->Hp->VK->Prop):Prop :=
 ∀(pins:List (Addr×Obj)) (s:Shared) (σ:St) (H:Hp) (xs:List V) (us:List Value) (Q:VK),Inv X pins σ H s->av xs us->r xs H Q ->
  wpAny (model X.prog X.w) X.A (call f us) (EP X pins σ Q) X.xe s
noncomputable def tOp (r:R2) (ta tb:TE):TE:=fun σ H Q=>ta σ H fun x H1=>tb σ H1 fun y H2=>r x y H2 Q
noncomputable def rI (C:Int->Int->Prop) (g:Int->Int->V):R2:=fun x y H Q=>∃i j,x=.int i/\y=.int j/\C i j/\Q (g i j) H
noncomputable def rI0 (g:Int->Int->V):R2:=fun x y H Q=>∃i j,x=.int i/\y=.int j/\Q (g i j) H
section
variable {X:Cx}{a b c:Expr}{ta tb tc:TE}{pos:Pos}
theorem jM (ha:PE X a ta) (hb:PE X b tb) {pins:List (Addr×Obj)}{s:Shared}{σ:St}{H:Hp}{R:V->V->Hp->Prop} (I:Inv X pins σ H s)
  (h:ta σ H fun x H1=>tb σ H1 fun y H2=>R x y H2) {Q:Value->Shared->Prop}{f:Value->Value->Sem Value}
  (hf:∀v u s2 x y H2,Inv X pins σ H2 s2->RelV x v->RelV y u->R x y H2->wpAny (model X.prog X.w) X.A (f v u) Q X.xe s2) :
  wpAny (model X.prog X.w) X.A (eval a X.env) (fun v s₁=>wpAny (model X.prog X.w) X.A (eval b X.env) (fun u s₂=>wpAny (model X.prog X.w) X.A (f v u) Q X.xe s₂) X.xe s₁) X.xe s:=by
 refine thn (ha pins s σ H _ I h) fun v s1 ⟨x,H1,I1,r1,q1⟩=>?_
 refine thn (hb pins s1 σ H1 _ I1 q1) fun u s2 ⟨y,H2,I2,r2,q2⟩=>?_
 exact hf v u s2 x y H2 I2 r1 r2 q2
theorem aB {op:Operator}{r:R2} (ho:OpR X (binaryOp op) r) (ha:PE X a ta) (hb:PE X b tb):PE X (.BinOp a op b pos) (tOp r ta tb):=by
 intro pins s σ H Q I h
 exact wpAny_BinOp (jM ha hb I h fun v u s2 x y H2 I2 rx ry q=>ho pins s2 σ H2 x y v u Q I2 rx ry q)
theorem opI {f:Value->Value->Sem Value}{C:Int->Int->Prop}{g:Int->Int->Int}
  (rule:∀(i j:Int) (t u:Tok) (s:Shared) (Q:Value->Shared->Prop) (E:Value->Shared->Prop),C i j->Q (.int (g i j) s.toks) { s with toks:=s.toks + 1 }->wpAny (model X.prog X.w) X.A (f (.int i t) (.int j u)) Q E s) :
  OpR X f (rI C fun i j=>.int (g i j)):=by
 intro pins s σ H x y v u Q I rx ry h
 obtain⟨i,j,rfl,rfl,hc,q⟩:=h
 obtain⟨t,rfl⟩:=rx
 obtain⟨t',rfl⟩:=ry
 exact rule i j t t' s _ _ hc ⟨.int (g i j),H,I.tok _,⟨_,rfl⟩,q⟩
theorem nX {f:Value->Value->Sem Value}{g:Int->Int->Int}
  (rule:∀(i j:Int) (t u:Tok) (s:Shared) (Q:Value->Shared->Prop) (E:Value->Shared->Prop),Q (.int (g i j) s.toks) { s with toks:=s.toks + 1 }->wpAny (model X.prog X.w) X.A (f (.int i t) (.int j u)) Q E s) :
  OpR X f (rI0 fun i j=>.int (g i j)):=by
 intro pins s σ H x y v u Q I rx ry h
 obtain⟨i,j,rfl,rfl,q⟩:=h
 obtain⟨t,rfl⟩:=rx
 obtain⟨t',rfl⟩:=ry
 exact rule i j t t' s _ _ ⟨.int (g i j),H,I.tok _,⟨_,rfl⟩,q⟩
theorem jE {f:Value->Value->Sem Value}{g:Int->Int->Bool}
  (rule:∀(i j:Int) (t u:Tok) (s:Shared) (Q:Value->Shared->Prop) (E:Value->Shared->Prop),Q (.bool (g i j)) s->wpAny (model X.prog X.w) X.A (f (.int i t) (.int j u)) Q E s) :
  OpR X f (rI0 fun i j=>.bl (g i j)):=by
 intro pins s σ H x y v u Q I rx ry h
 obtain⟨i,j,rfl,rfl,q⟩:=h
 obtain⟨t,rfl⟩:=rx
 obtain⟨t',rfl⟩:=ry
 exact rule i j t t' s _ _ ⟨.bl (g i j),H,I,rfl,q⟩
noncomputable def nV (i j:Int):Prop:=0 < j/\j < 1073741824
noncomputable def wx (i j:Int):Prop:=0<=j/\j<=1000000/\i.natAbs < 2 ^ 64
noncomputable def jN (i j:Int):Prop:=(-(2 ^ 64) < i/\i < 2 ^ 64)\/(-(2 ^ 64) < j/\j < 2 ^ 64)
theorem jN.ok {i j:Int} (h:jN i j):IntMulOk i j:=by
 rcases h with ⟨h1,h2⟩ | ⟨h1,h2⟩
 ·exact .of_left (intBits_le_64 h1 h2)
 ·exact .of_right (intBits_le_64 h1 h2)
theorem bU:OpR X (binaryOp .Add) (rI0 fun i j=>.int (i + j)):=nX fun _ _ _ _ _ _ _ q=>add_int q
theorem dw:OpR X (binaryOp .Sub) (rI0 fun i j=>.int (i - j)):=nX fun _ _ _ _ _ _ _ q=>sub_int q
theorem eU:OpR X (binaryOp .Mult) (rI jN fun i j=>.int (i * j)):=opI fun _ _ _ _ _ _ _ hc q=>mul_int q hc.ok
theorem fO:OpR X (binaryOp .FloorDiv) (rI nV fun i j=>.int (i / j)):=opI fun i j _ _ _ _ _ hc q=>by
 have h1:(0:Int) < j:=hc.1
 have h2:j < 1073741824:=hc.2
 exact floordiv_int (by omega) (by rw [Int.fdiv_eq_ediv_of_nonneg i (by omega)];exact q) (.inl (PyProof.noPylong_small (by omega)))
theorem da:OpR X (binaryOp .Mod) (rI (fun _ j=>0 < j) fun i j=>.int (i % j)):=opI fun i j _ _ _ _ _ hc q=>by
 have h1:(0:Int) < j:=hc
 exact mod_int' (by omega) (by rw [Int.fmod_eq_emod_of_nonneg i (by omega)];exact q)
theorem uX:OpR X (binaryOp .Pow) (rI wx fun i j=>.int (i ^ j.toNat)):=opI fun _ _ _ _ _ _ _ hc q=>pow_int_small hc.1 hc.2.1 hc.2.2 q
end
noncomputable def nQ:V->V->Bool
 | .non,.non=>true | .non,.int _=>true | .int _,.non=>true | .non,.bl _=>true | .bl _,.non=>true | .non,.str _=>true | .str _,.non=>true
 | .int _,.int _=>true | .bl _,.bl _=>true | .str _,.str _=>true | .byt _,.byt _=>true
 | .int _,.str _=>true | .str _,.int _=>true | .bl _,.str _=>true | .str _,.bl _=>true
 | _,_=>false
noncomputable def rEq:R2:=fun x y H Q=>nQ x y=true/\Q (.bl (decide (x=y))) H
noncomputable def rNe:R2:=fun x y H Q=>nQ x y=true/\Q (.bl (!decide (x=y))) H
theorem mj {i j:Int}:decide (V.int i=V.int j)=(i == j):=by
 rw [Bool.eq_iff_iff]
 simp
theorem m7 {i j:Bool}:decide (V.bl i=V.bl j)=(i == j):=by
 rw [Bool.eq_iff_iff]
 simp
theorem mh {i j:Str}:decide (V.str i=V.str j)=(i == j):=by
 rw [Bool.eq_iff_iff]
 simp
theorem lC {i j:Array UInt8}:decide (V.byt i=V.byt j)=(i.toList == j.toList):=by
 rw [Bool.eq_iff_iff]
 cases i
 cases j
 simp
section
variable {X:Cx}{a b c:Expr}{ta tb tc:TE}{pos:Pos}
theorem a8 {pins:List (Addr×Obj)}{σ:St}{H:Hp}{s:Shared}{Q:VK}{k k':Bool} (I:Inv X pins σ H s) (q:Q (.bl k) H) (e:k=k'):EP X pins σ Q (.bool k') s:=by
 subst e
 exact⟨.bl k,H,I,rfl,q⟩
theorem dE:OpR X (compareOp .Eq) rEq:=by
 intro pins s σ H x y v u Q I rx ry h
 obtain⟨hs,q⟩:=h
 cases x with
 | non =>
  cases rx
  cases y with
  | non=>cases ry;exact PySem.EqNone.eq_none_none (a8 I q (by simp))
  | bl j=>cases ry;exact PySem.EqNone.eq_none_bool (a8 I q (by simp))
  | int j=>obtain⟨t',rfl⟩:=ry;exact PySem.EqNone.eq_none_int (a8 I q (by simp))
  | str j=>obtain⟨t',rfl⟩:=ry;exact PySem.EqNone.eq_none_str (a8 I q (by simp))
  | _=>exact absurd (show false=true from hs) Bool.false_ne_true
 | bl i =>
  cases rx
  cases y with
  | non=>cases ry;exact PySem.EqNone.eq_bool_none (a8 I q (by simp))
  | bl j=>cases ry;exact eq_bool (a8 I q m7)
  | str j=>obtain⟨t',rfl⟩:=ry;exact PySem.EqMixed.eq_bool_str (a8 I q (by simp))
  | _=>exact absurd (show false=true from hs) Bool.false_ne_true
 | int i =>
  obtain⟨t,rfl⟩:=rx
  cases y with
  | non=>cases ry;exact PySem.EqNone.eq_int_none (a8 I q (by simp))
  | int j=>obtain⟨t',rfl⟩:=ry;exact eq_int (a8 I q mj)
  | str j=>obtain⟨t',rfl⟩:=ry;exact PySem.EqMixed.eq_int_str (a8 I q (by simp))
  | _=>exact absurd (show false=true from hs) Bool.false_ne_true
 | str i =>
  obtain⟨t,rfl⟩:=rx
  cases y with
  | non=>cases ry;exact PySem.EqNone.eq_str_none (a8 I q (by simp))
  | bl j=>cases ry;exact PySem.EqMixed.eq_str_bool (a8 I q (by simp))
  | int j=>obtain⟨t',rfl⟩:=ry;exact PySem.EqMixed.eq_str_int (a8 I q (by simp))
  | str j=>obtain⟨t',rfl⟩:=ry;exact eq_str (a8 I q mh)
  | _=>exact absurd (show false=true from hs) Bool.false_ne_true
 | byt i =>
  obtain⟨t,rfl⟩:=rx
  cases y with
  | byt j=>obtain⟨t',rfl⟩:=ry;exact PySem.W.eq_bytes (a8 I q lC)
  | _=>exact absurd (show false=true from hs) Bool.false_ne_true
 | _=>cases y <;> exact absurd (show false=true from hs) Bool.false_ne_true
theorem dH:OpR X (compareOp .NotEq) rNe:=by
 intro pins s σ H x y v u Q I rx ry h
 obtain⟨hs,q⟩:=h
 cases x with
 | non =>
  cases rx
  cases y with
  | non=>cases ry;exact PySem.EqNone.ne_none_none (a8 I q (by simp))
  | bl j=>cases ry;exact PySem.EqNone.ne_none_bool (a8 I q (by simp))
  | int j=>obtain⟨t',rfl⟩:=ry;exact PySem.EqNone.ne_none_int (a8 I q (by simp))
  | str j=>obtain⟨t',rfl⟩:=ry;exact PySem.EqNone.ne_none_str (a8 I q (by simp))
  | _=>exact absurd (show false=true from hs) Bool.false_ne_true
 | bl i =>
  cases rx
  cases y with
  | non=>cases ry;exact PySem.EqNone.ne_bool_none (a8 I q (by simp))
  | bl j=>cases ry;exact ne_bool (a8 I q (congrArg not m7))
  | str j=>obtain⟨t',rfl⟩:=ry;exact PySem.EqMixed.ne_bool_str (a8 I q (by simp))
  | _=>exact absurd (show false=true from hs) Bool.false_ne_true
 | int i =>
  obtain⟨t,rfl⟩:=rx
  cases y with
  | non=>cases ry;exact PySem.EqNone.ne_int_none (a8 I q (by simp))
  | int j=>obtain⟨t',rfl⟩:=ry;exact ne_int (a8 I q (congrArg not mj))
  | str j=>obtain⟨t',rfl⟩:=ry;exact PySem.EqMixed.ne_int_str (a8 I q (by simp))
  | _=>exact absurd (show false=true from hs) Bool.false_ne_true
 | str i =>
  obtain⟨t,rfl⟩:=rx
  cases y with
  | non=>cases ry;exact PySem.EqNone.ne_str_none (a8 I q (by simp))
  | bl j=>cases ry;exact PySem.EqMixed.ne_str_bool (a8 I q (by simp))
  | int j=>obtain⟨t',rfl⟩:=ry;exact PySem.EqMixed.ne_str_int (a8 I q (by simp))
  | str j=>obtain⟨t',rfl⟩:=ry;exact ne_str (a8 I q (congrArg not mh))
  | _=>exact absurd (show false=true from hs) Bool.false_ne_true
 | byt i =>
  obtain⟨t,rfl⟩:=rx
  cases y with
  | byt j=>obtain⟨t',rfl⟩:=ry;exact PySem.W.ne_bytes (a8 I q (congrArg not lC))
  | _=>exact absurd (show false=true from hs) Bool.false_ne_true
 | _=>cases y <;> exact absurd (show false=true from hs) Bool.false_ne_true
theorem fg:OpR X (compareOp .Lt) (rI0 fun i j=>.bl (decide (i < j))):=jE fun _ _ _ _ _ _ _ q=>lt_int q
theorem gL:OpR X (compareOp .LtE) (rI0 fun i j=>.bl (decide (i<=j))):=jE fun _ _ _ _ _ _ _ q=>le_int q
theorem fc:OpR X (compareOp .Gt) (rI0 fun i j=>.bl (decide (j < i))):=jE fun _ _ _ _ _ _ _ q=>gt_int q
theorem qo:OpR X (compareOp .Lt) (fun x y H Q=>∃i j,x=.str i/\y=.str j/\Q (.bl (decide (i.cps.toList < j.cps.toList))) H):=by
 intro pins s σ H x y v u Q I rx ry h
 obtain⟨i,j,rfl,rfl,q⟩:=h
 obtain⟨t,rfl⟩:=rx
 obtain⟨t',rfl⟩:=ry
 exact lt_str (a8 I q rfl)
theorem ba (b:Expr) {op:CmpOp} (h:op≠.In:=by decide) (h2:op≠.NotIn:=by decide):behindInMarks op b=false:=by
 have e1:(op == CmpOp.In)=false:=by cases op <;> first | rfl | exact absurd rfl h
 have e2:(op == CmpOp.NotIn)=false:=by cases op <;> first | rfl | exact absurd rfl h2
 cases b <;> simp [behindInMarks,e1,e2]
theorem b4 {op:CmpOp}{r:R2} (ho:OpR X (compareOp op) r) (ha:PE X a ta) (hb:PE X b tb) (hm:behindInMarks op b=false):PE X (.Compare a [op] [b] pos) (tOp r ta tb):=by
 intro pins s σ H Q I h
 exact wpAny_Compare1 (jM ha hb I h fun v u s2 x y H2 I2 rx ry q=>ho pins s2 σ H2 x y v u Q I2 rx ry q) hm
noncomputable def nh (t:TE):TT:=fun σ H Q=>t σ H fun x H'=>∃k,x=.bl k/\Q k H'
theorem aZ {op:CmpOp}{r:R2} (ho:OpR X (compareOp op) r) (ha:PE X a ta) (hb:PE X b tb) (hm:behindInMarks op b=false):PT X (.Compare a [op] [b] pos) (nh (tOp r ta tb)):=by
 intro pins s σ H Q I h
 refine wpAny_isTrue_Compare1 (thn (ha pins s σ H _ I h) fun v s1 ⟨x,H1,I1,r1,q1⟩=>thn (hb pins s1 σ H1 _ I1 q1) fun u s2 ⟨y,H2,I2,r2,q2⟩ =>
  thn (ho pins s2 σ H2 x y v u _ I2 r1 r2 q2) fun c s3 ⟨z,H3,I3,r3,k,e,q3⟩=>?_) hm
 subst e
 cases r3
 exact wpAny_truthy_bool ⟨H3,I3,q3⟩
noncomputable def mZ (r r':R2) (ta tb tc:TE):TE:=fun σ H Q=>ta σ H fun x H1=>tb σ H1 fun y H2=>r x y H2 fun z H3=>∃k,z=.bl k /\
 (if k=true then tc σ H3 fun w' H4=>r' y w' H4 Q else Q (.bl false) H3)
theorem qS {op op':CmpOp}{r r':R2} (ho:OpR X (compareOp op) r) (ho':OpR X (compareOp op') r') (ha:PE X a ta) (hb:PE X b tb) (hc:PE X c tc)
  (hm:lastMarks [op,op'] [b,c]=false:=by with_unfolding_all rfl):PE X (.Compare a [op,op'] [b,c] pos) (mZ r r' ta tb tc):=by
 intro pins s σ H Q I h
 refine Compare_chain (thn (ha pins s σ H _ I h) fun v s1 ⟨x,H1,I1,r1,q1⟩=>chain_link (thn (hb pins s1 σ H1 _ I1 q1) fun u s2 ⟨y,H2,I2,r2,q2⟩ =>
  thn (ho pins s2 σ H2 x y v u _ I2 r1 r2 q2) fun d s3 ⟨z,H3,I3,r3,k,e,q3⟩=>?_)) hm
 subst e
 cases r3
 refine wpAny_truthy_bool ?_
 cases k with
 | false=>exact ite_ff ⟨.bl false,H3,I3,rfl,q3⟩
 | true=>exact ite_tt (chain_last (thn (hc pins s3 σ H3 _ I3 q3) fun w' s4 ⟨z',H4,I4,r4,q4⟩=>ho' pins s4 σ H4 y z' u w' Q I4 r2 r4 q4))
theorem iH {op op':CmpOp}{r r':R2} (ho:OpR X (compareOp op) r) (ho':OpR X (compareOp op') r') (ha:PE X a ta) (hb:PE X b tb) (hc:PE X c tc)
  (hm:lastMarks [op,op'] [b,c]=false:=by with_unfolding_all rfl):PT X (.Compare a [op,op'] [b,c] pos) (nh (mZ r r' ta tb tc)):=by
 intro pins s σ H Q I h
 refine isTrue_chain (thn (ha pins s σ H _ I h) fun v s1 ⟨x,H1,I1,r1,q1⟩=>test_link (thn (hb pins s1 σ H1 _ I1 q1) fun u s2 ⟨y,H2,I2,r2,q2⟩ =>
  thn (ho pins s2 σ H2 x y v u _ I2 r1 r2 q2) fun d s3 ⟨z,H3,I3,r3,k,e,q3⟩=>?_)) hm
 subst e
 cases r3
 refine wpAny_truthy_bool ?_
 cases k with
 | false =>
  obtain⟨k',e',q'⟩:=q3
  cases e'
  exact ite_ff ⟨H3,I3,q'⟩
 | true =>
  refine ite_tt (test_last (thn (hc pins s3 σ H3 _ I3 q3) fun w' s4 ⟨z',H4,I4,r4,q4⟩=>thn (ho' pins s4 σ H4 y z' u w' _ I4 r2 r4 q4) fun d' s5 ⟨z2,H5,I5,r5,k2,e2,q5⟩=>?_))
  subst e2
  cases r5
  exact wpAny_truthy_bool ⟨H5,I5,q5⟩
theorem eX:(sizeLine:Nat) < 2 ^ 63:=by rw [sizeLine_eq];decide
theorem fW:OpR X (binaryOp .Add) (fun x y H Q=>∃i j,x=.str i/\y=.str j/\i.length + j.length<=sizeLine/\Q (.str (i++j)) H):=by
 intro pins s σ H x y v u Q I rx ry h
 obtain⟨i,j,rfl,rfl,hz,q⟩:=h
 obtain⟨t,rfl⟩:=rx
 obtain⟨t',rfl⟩:=ry
 exact add_str (fun t' tk=>⟨.str (i++j),H,I.tok _,⟨_,rfl⟩,q⟩) hz
theorem vals1 {x:V}{us:List Value} (r:av [x] us):∃u,us=[u]/\RelV x u:=by
 cases r with
 | cons r1 r2=>cases r2;exact⟨_,rfl,r1⟩
theorem vals2 {x y:V}{us:List Value} (r:av [x,y] us):∃u w',us=[u,w']/\RelV x u/\RelV y w':=by
 cases r with
 | cons r1 r2 =>
  cases r2 with
  | cons r3 r4=>cases r4;exact⟨_,_,rfl,r1,r3⟩
theorem kq (hc:X.calm=true):bC X (.builtin "max") (fun xs H Q=>∃i j,xs=[.int i,.int j]/\Q (.int (if j > i then j else i)) H):=by
 intro pins s σ H xs us Q I r h
 obtain⟨i,j,rfl,q⟩:=h
 obtain⟨u,w',rfl,⟨t,rfl⟩,⟨t',rfl⟩⟩:=vals2 r
 refine max_two_ints (I.ok.hd hc) fun h' tk k=>⟨_,H,I.kept k,?_,q⟩
 by_cases hj:j > i
 ·rw [if_pos hj,if_pos hj];exact⟨_,rfl⟩
 ·rw [if_neg hj,if_neg hj];exact⟨_,rfl⟩
theorem iD (hc:X.calm=true):bC X (.builtin "min") (fun xs H Q=>∃i j,xs=[.int i,.int j]/\Q (.int (if j < i then j else i)) H):=by
 intro pins s σ H xs us Q I r h
 obtain⟨i,j,rfl,q⟩:=h
 obtain⟨u,w',rfl,⟨t,rfl⟩,⟨t',rfl⟩⟩:=vals2 r
 refine min_two_ints (I.ok.hd hc) fun h' tk k=>⟨_,H,I.kept k,?_,q⟩
 by_cases hj:j < i
 ·rw [if_pos hj,if_pos hj];exact⟨_,rfl⟩
 ·rw [if_neg hj,if_neg hj];exact⟨_,rfl⟩
theorem ko:bC X (.type "int") (fun xs H Q=>(∃i,xs=[.int i]/\Q (.int i) H)\/∃k,xs=[.bl k]/\Q (.int (if k then 1 else 0)) H):=by
 intro pins s σ H xs us Q I r h
 rcases h with ⟨i,rfl,q⟩ | ⟨k,rfl,q⟩
 ·obtain⟨u,rfl,t,rfl⟩:=vals1 r
  exact call_int_int ⟨.int i,H,I,⟨_,rfl⟩,q⟩
 ·obtain⟨u,rfl,r1⟩:=vals1 r
  cases r1
  exact call_int_bool ⟨.int (if k then 1 else 0),H,I.tok _,⟨_,rfl⟩,q⟩
theorem oW:bC X (.builtin "divmod") (fun xs H Q=>∃i j,xs=[.int i,.int j]/\nV i j/\∀p,H p=none->Q (.ref p) (upd H p (.tup [.int (i / j),.int (i % j)]))):=by
 intro pins s σ H xs us Q I r h
 obtain⟨i,j,rfl,⟨h1,h2⟩,q⟩:=h
 obtain⟨u,w',rfl,⟨t,rfl⟩,⟨t',rfl⟩⟩:=vals2 r
 refine divmod_int (by omega) ?_ (.inl (PyProof.noPylong_small (by omega)))
 rw [Int.fdiv_eq_ediv_of_nonneg i (by omega),Int.fmod_eq_emod_of_nonneg i (by omega)]
 have hn:H s.heap.objs.size=none:=I.hok.fresh (Nat.le_refl _)
 refine⟨.ref s.heap.objs.size,_,?_,rfl,q _ hn⟩
 refine I.laid (fun b o e=>Heap.get?_push_of_some _ e) (Nat.le_refl _) ⟨by simp only [List.length_cons,List.length_nil];rw [sizeLine_eq];decide,[.int (i / j) s.toks,.int (i % j) (s.toks + 1)],.cons ⟨_,rfl⟩ (.cons ⟨_,rfl⟩ .nil),?_⟩
 exact⟨_,Heap.get?_push_size s.heap rfl,rfl,0,rfl⟩
end
structure jA (h:Heap) (x dx C:Addr) (mA:Str->Option Value):Prop where
 obj:h.get? x=some (PySem.W.instObj C dx)
 ns:h.Ns1 dx mA
 ne:dx≠x
theorem qh {h:Heap}{dx:Addr}{mA:Str->Option Value} (n:h.Ns1 dx mA):∃od,h.get? dx=some od/\∀name,PySem.W.lookIn name od=some (mA name):=by
 obtain⟨o,es,ep,ho,hd,hk,_,hm⟩:=n
 refine⟨o,ho,fun name=>?_⟩
 have e:=hm name
 unfold nsFind findBy at e
 rw [<- Array.find?_toList] at e
 unfold PySem.W.lookIn
 rw [hd]
 dsimp only
 split
 ·rename_i y q
  rw [q] at e
  exact congrArg some e
 ·rename_i q
  rw [q] at e
  have a:es.toList.any (·.refKey)=false:=by
   rw [List.any_eq_false]
   intro y hy
   obtain⟨z,t,hkey⟩:=hk y (Array.mem_toList_iff.mp hy)
   simp [DictEntry.refKey,hkey]
  have a':¬ es.toList.any (·.refKey)=true:=by rw [a];exact Bool.false_ne_true
  rw [if_neg a']
  exact congrArg some e
theorem jA.look {h:Heap}{x dx C:Addr}{mA:Str->Option Value} (I:jA h x dx C mA):∃od,PySem.W.InstAt h x (PySem.W.instObj C dx) C (some od)/\∀name,PySem.W.lookIn name od=some (mA name) :=
 let ⟨od,ho,hl⟩:=qh I.ns
 ⟨od,⟨I.obj,rfl,rfl,ho⟩,hl⟩
section
variable {prog:Program}{w:World}{A:Around}{E:Value->Shared->Prop}{s:Shared}{K:PySem.W.Frag}{x dx C f:Addr}{mA:Str->Option Value}{name:Str}{v:Value}
end
theorem cL.some_of {v:V}{o:Option Value} (r:cL (some v) o):∃u,o=some u/\RelV v u:=by
 cases o with
 | none=>exact (show False from r).elim
 | some u=>exact⟨u,rfl,r⟩
section
variable {P:Program}{w:World}{H H':Hp}{h h':Heap}{a C dx:Addr}{fs fs':List (Str×V)}
theorem tY (hok:HOk P w H h) (e:H a=some (.ins C dx fs)):∃mA,jA h a dx C mA/\(∀f,cL (fs.lookup f) (mA f))/\PySem.Within mA (fs.map (·.1))/\fs.length<=1000/\H dx=some (.own a):=by
 obtain⟨d,z,ne,ob,mA,n,r,q⟩:=(show aM P w H h a (.ins C dx fs) from hok a _ e)
 exact⟨mA,⟨ob,n,ne⟩,r,q,z,d⟩
end
structure Cls (K:PySem.W.Frag) (C:Addr):Prop where
 pg:PySem.W.plainGet K C Str.empty=true
 hd:PySem.W.hasDictIn K C=true
 po:PySem.W.plainOver K C=true
 sa:PySem.W.findIn K (.ref C) "__setattr__"=some (some (.builtin "object.__setattr__"))
theorem Cls.get {K:PySem.W.Frag}{C:Addr} (c:Cls K C) (f:Str):PySem.W.plainGet K C f=true:=c.pg
structure Con (K:PySem.W.Frag) (C:Addr) (f:Str) (v:V) (u:Value):Prop where
 at_:PySem.W.findIn K (.ref C) f=some (some u)
 rel:RelV v u
 get:PySem.W.specialIn K u "__get__"=some none
 cp:PySem.W.copiedNames.contains f=false
structure xc (K:PySem.W.Frag) (C:Addr) (m:Str) (f:Addr):Prop where
 at_:PySem.W.findIn K (.ref C) m=some (some (.ref f))
 fn:PySem.W.isFn K (.ref f)=true
 kp:PySem.W.keepIn K (.ref f)=true
section
variable {X:Cx}{pins:List (Addr×Obj)}{σ:St}{H:Hp}{s:Shared}{a C dx:Addr}{fs:List (Str×V)}{f:Str}{v:V}{A:Around}{E:Value->Shared->Prop}
end
noncomputable def jD (X:Cx) (op:Operator) (rd:V->V->Hp->VK->Prop):Prop :=
 ∀(pins:List (Addr×Obj)) (s:Shared) (σ:St) (H:Hp) (x y:V) (u v:Value) (Q:VK),Inv X pins σ H s->RelV x u->RelV y v->rd x y H Q->wpAny (model X.prog X.w) X.A (inplaceOp op u v) (EP X pins σ Q) X.xe s
section
variable {X:Cx}{o e value:Expr}{f:Str}{pos pos' tpos:Pos}{ta tv:TE}
noncomputable def wo:V->V->Hp->VK->Prop:=fun x y H Q=>∃i j,x=.int i/\y=.int j/\Q (.int (i + j)) H
noncomputable def vO:V->V->Hp->VK->Prop:=fun x y H Q=>∃i j,x=.int i/\y=.int j/\Q (.int (i - j)) H
theorem ve:jD X .Add wo:=by
 rintro pins s σ H x y u v Q I rx ry ⟨i,j,rfl,rfl,q⟩
 obtain⟨t,rfl⟩:=(show ∃t,u=Value.int i t from rx)
 obtain⟨t',rfl⟩:=(show ∃t',v=Value.int j t' from ry)
 exact PyProof.Rows.iadd_int ⟨.int (i + j),H,I.tok _,⟨_,rfl⟩,q⟩
theorem uy:jD X .Sub vO:=by
 rintro pins s σ H x y u v Q I rx ry ⟨i,j,rfl,rfl,q⟩
 obtain⟨t,rfl⟩:=(show ∃t,u=Value.int i t from rx)
 obtain⟨t',rfl⟩:=(show ∃t',v=Value.int j t' from ry)
 exact PyProof.Rows.isub_int ⟨.int (i - j),H,I.tok _,⟨_,rfl⟩,q⟩
end
section
variable {X:Cx}{pins:List (Addr×Obj)}{σ:St}{H:Hp}{s:Shared}{A:Around}{E:Value->Shared->Prop}{Q:Value->Shared->Prop}{c:Value}{b:Bool}
inductive cw (K:PySem.W.Frag) (H:Hp):V->Value->Prop where
 | non:cw K H .non (.type "NoneType")
 | bl (x:Bool):cw K H (.bl x) (.type "bool")
 | int (i:Int):cw K H (.int i) (.type "int")
 | str (x:Str):cw K H (.str x) (.type "str")
 | flt (x:UInt64):cw K H (.flt x) (.type "float")
 | lst {a:Addr}{xs:List V} (e:H a=some (.lst xs)):cw K H (.ref a) (.type "list")
 | frz {a:Addr}{o:Obj}{xs:List V} (e:H a=some (.frz o (.lst xs))):cw K H (.ref a) (.type "list")
 | tup {a:Addr}{xs:List V} (e:H a=some (.tup xs)):cw K H (.ref a) (.type "tuple")
 | dK {a:Addr}{kvs:List (Key×V)} (e:H a=some (.dK kvs)):cw K H (.ref a) (.type "dict")
 | dT {a:Addr}{kvs:List (List Key×V)} (e:H a=some (.dT kvs)):cw K H (.ref a) (.type "dict")
 | ins {a C dx:Addr}{fs:List (Str×V)} (e:H a=some (.ins C dx fs)) (cl:Cls K C) (ha:PySem.W.findIn K (.ref C) "__class__"=some (some (.builtin "object.__class__")))
   (hn:PySem.W.specialIn K (.builtin "object.__class__") "__get__"=some (some (.builtin "getset_descriptor.__get__"))) (htk:PySem.W.takesIn K (.builtin "object.__class__")=some true)
   (hm:PySem.W.mroIn K C (.type "object")=some true):cw K H (.ref a) (.ref C)
theorem p6 {x:V}{u t:Value} (I:Inv X pins σ H s) (rx:RelV x u) (ty:cw X.K H x t) (e:PySem.W.kitOne X.K t c=some b) (h:∀tk,Q (.bool b) { s with toks:=tk }) :
  wpAny (model X.prog X.w) A (call (.builtin "isinstance") [u,c]) Q E s:=by
 cases ty with
 | non=>cases (show u=Value.none from rx);exact PySem.W.kia_one PySem.W.kitx_none I.kIn True.intro e (fun z=>nomatch z) h
 | bl y=>cases (show u=Value.bool y from rx);exact PySem.W.kia_one PySem.W.kitx_bool I.kIn True.intro e (fun z=>nomatch z) h
 | int i=>obtain⟨t,q⟩:=(show ∃t,u=Value.int i t from rx);cases q;exact PySem.W.kia_one PySem.W.kitx_int I.kIn True.intro e (fun z=>nomatch z) h
 | str y=>obtain⟨t,q⟩:=(show ∃t,u=Value.str y t from rx);cases q;exact PySem.W.kia_one PySem.W.kitx_str I.kIn True.intro e (fun z=>nomatch z) h
 | flt y=>obtain⟨t,q⟩:=(show ∃t,u=Value.float y t from rx);cases q;exact PySem.W.kia_one PySem.W.kitx_float I.kIn True.intro e (fun z=>nomatch z) h
 | @lst a xs ea =>
  cases (show u=Value.ref a from rx)
  obtain⟨_,_,n,_,h1⟩:=(show aM X.prog X.w H s.heap a (.lst xs) from I.hok a _ ea)
  exact PySem.W.kia_one PySem.W.kitx_list I.kIn ⟨_,h1,rfl⟩ e (fun z=>nomatch z) h
 | @frz a ob xs ea =>
  cases (show u=Value.ref a from rx)
  obtain⟨_,_,_,n,_,h1⟩:=(show aM X.prog X.w H s.heap a (.frz ob (.lst xs)) from I.hok a _ ea)
  exact PySem.W.kia_one PySem.W.kitx_list I.kIn ⟨_,h1,rfl⟩ e (fun z=>nomatch z) h
 | @tup a xs ea =>
  cases (show u=Value.ref a from rx)
  obtain⟨_,_,_,p⟩:=(show aM X.prog X.w H s.heap a (.tup xs) from I.hok a _ ea)
  obtain⟨o,h1,h2,_⟩:=p
  exact PySem.W.kia_one PySem.W.kitx_tuple I.kIn ⟨o,h1,h2⟩ e (fun z=>nomatch z) h
 | @dK a kvs ea =>
  cases (show u=Value.ref a from rx)
  obtain⟨_,_,vs,_,p⟩:=(show aM X.prog X.w H s.heap a (.dK kvs) from I.hok a _ ea)
  obtain⟨o,es,ep,h1,h2,_⟩:=p
  exact PySem.W.kia_one PySem.W.kitx_dict I.kIn ⟨o,h1,h2.1⟩ e (fun z=>nomatch z) h
 | @dT a kvs ea =>
  cases (show u=Value.ref a from rx)
  obtain⟨_,_,xs,_,o,es,ep,h1,h2,_⟩:=(show aM X.prog X.w H s.heap a (.dT kvs) from I.hok a _ ea)
  exact PySem.W.kia_one PySem.W.kitx_dict I.kIn ⟨o,h1,h2.1⟩ e (fun z=>nomatch z) h
 | @ins a C dx fs ea cl ha hn htk hm =>
  cases (show u=Value.ref a from rx)
  obtain⟨mA,O,_⟩:=tY I.hok ea
  obtain⟨od,J,_⟩:=O.look
  exact PySem.W.kia_one (PySem.W.kitx_own (cl.get _) cl.hd ha hn htk hm) I.kIn J e (fun z=>nomatch z) h
end
structure aN (k:Nat) (A:Around):Prop where
 hd:A.handled=none
 dp:A.depth + 3 * k + 5 < recursionLimit
 un:A.units + 16 * k + 200 < cLine
 gd:A.guards=some []
theorem aN.mono {j k:Nat}{A:Around} (r:aN k A) (h:j<=k):aN j A:=⟨r.hd,by have:=r.dp;omega,by have:=r.un;omega,r.gd⟩
theorem aN.deeper {k:Nat}{A:Around} (r:aN (k + 1) A) (env:Env):aN k (A.deeper env) :=
 ⟨r.hd,by have:=r.dp;show A.depth + 1 + 3 * k + 5 < _;omega,by have:=r.un;show A.units + 3 + 16 * k + 200 < _;omega,r.gd⟩
theorem aN.depth {k:Nat}{A:Around} (r:aN k A):A.depth < recursionLimit:=by have:=r.dp;omega
theorem aN.units {k:Nat}{A:Around} (r:aN k A):A.units + 64 < cLine:=by have:=r.un;omega
noncomputable def wt:TA:=fun _ H Q=>Q [] H
noncomputable def nr (ta:TE) (tr:TA):TA:=fun σ H Q=>ta σ H fun x H1=>tr σ H1 fun xs H2=>Q (x::xs) H2
section
variable {X:Cx}{e:Expr}{es:List Expr}{te:TE}{t:TA}{pos:Pos}
theorem ae:PA X [] wt:=fun _ _ _ _ H Q I h=>Calls.spliced_nil ⟨[],H,I,.nil,h⟩
theorem aa (ha:PE X e te) (hr:PA X es t) (hs:starEach (e::es) X.env=(false,eval e X.env)::starEach es X.env:=by rfl):PA X (e::es) (nr te t):=by
 intro pos pins s σ H Q I h
 rw [hs]
 show wpAny _ _ (spliced ((false,eval e X.env)::backTo pos (starEach es X.env))) _ _ s
 refine Calls.spliced_cons (thn (ha pins s σ H _ I h) fun u s1 ⟨x,H1,I1,r1,q1⟩=>?_)
 exact thn (hr pos pins s1 σ H1 _ I1 q1) fun us s2 ⟨xs,H2,I2,r2,q2⟩=>⟨x::xs,H2,I2,.cons r1 r2,q2⟩
noncomputable def wG (t:TA):TE:=fun σ H Q=>t σ H fun xs H1=>xs.length<=sizeLine/\∀p,H1 p=none->Q (.ref p) (upd H1 p (.tup xs))
noncomputable def wA (t:TA):TE:=fun σ H Q=>t σ H fun xs H1=>xs.length<=sizeLine/\∀p,H1 p=none->Q (.ref p) (upd H1 p (.lst xs))
theorem bV {x1} (h:PA X es t):PE X (.Tuple es x1 pos) (wG t):=by
 intro pins s σ H Q I hq
 refine wpAny_Tuple_spliced (thn (h pos pins s σ H _ I hq) fun us s1 ⟨xs,H1,I1,r,z,q⟩=>⟨by rw [<- r.length];exact z,?_⟩)
 have hf:H1 s1.heap.objs.size=none:=I1.hok.fresh (Nat.le_refl _)
 refine⟨.ref s1.heap.objs.size,upd H1 s1.heap.objs.size (.tup xs),I1.laid (t':=s1.toks) (fun b u e=>Heap.get?_push_of_some _ e) (Nat.le_refl _) ?_,rfl,q _ hf⟩
 exact⟨z,us,r,⟨_,Heap.get?_push_size _ rfl,rfl,_,rfl⟩⟩
theorem bD (h:PA X es t):PE X (.List es pos) (wA t):=by
 intro pins s σ H Q I hq
 refine wpAny_List_spliced (thn (h pos pins s σ H _ I hq) fun us s1 ⟨xs,H1,I1,r,z,q⟩=>⟨by rw [<- r.length];exact z,?_⟩)
 have hf:H1 s1.heap.objs.size=none:=I1.hok.fresh (Nat.le_refl _)
 refine⟨.ref s1.heap.objs.size,upd H1 s1.heap.objs.size (.lst xs),I1.laid (t':=s1.toks) (fun b u e=>Heap.get?_push_of_some _ e) (Nat.le_refl _) ?_,rfl,q _ hf⟩
 exact⟨z,us,0,r,Heap.get?_push_size _ rfl⟩
end
noncomputable abbrev Sp:=List V->Hp->VK->XK->Prop
noncomputable abbrev CXT:=List Env->Hp->Shared->XK->Value->Shared->Prop
structure ie (P:Program) (w:World) (K:PySem.W.Frag) (mg:Str->Option Value) (base:Heap) (A:Around) (outer:List Env) (s:Shared) (H:Hp):Prop where
 frames:A.frames=some outer
 mod:Mod K mg base
 bs:∀b o,base.get? b=some o->s.heap.get? b=some o/\H b=none
 bsz:base.objs.size<=s.heap.objs.size
 funs:s.heap.FunFrames base outer
 frf:∀b∈frs outer,H b=none
 hok:HOk P w H s.heap
 bare:AllBare s.gens
noncomputable def CE (outer:List Env) (P:Program) (w:World) (H:Hp) (s:Shared) (Q:VK) (u:Value) (s':Shared):Prop :=
 ∃v H',s'.os=s.os/\AllBare s'.gens/\Un (frs outer) [] H H' s.heap s'.heap/\HOk P w H' s'.heap/\RelV v u/\Q v H'
noncomputable def CR (CX:CXT) (outer:List Env) (P:Program) (w:World) (H:Hp) (s:Shared) (Q:VK) (E:XK) (r:Result) (s':Shared):Prop :=
 match r with
 | .ok (.ret u)=>CE outer P w H s Q u s'
 | .ok _=>False
 | .error e=>CX outer H s E e s'
structure aG (P:Program) (w:World) (K:PySem.W.Frag) (mg:Str->Option Value) (base:Heap) (CX:CXT) (k:Nat) (f:Addr) (fd:FuncData) (ps:List Str) (sp:Sp):Prop where
 len:∀vs H Q E,sp vs H Q E->vs.length=ps.length
 run:∀(A:Around) (outer:List Env) (s:Shared) (H:Hp) (args:Args) (us:List Value) (vs:List V) (Q:VK) (E:XK),aN k A->ie P w K mg base A outer s H->BindsTo s fd args (ps.zip us)->av vs us->sp vs H Q E ->
  codeAny (model P w) A (.call (.ref f) args) (CR CX outer P w H s Q E) s
section
variable {X:Cx}{pins:List (Addr×Obj)}{σ:St}{H:Hp}{s s':Shared}
theorem Inv.env0 (I:Inv X pins σ H s):ie X.prog X.w X.K X.mg X.base X.A X.stack s H :=
 ⟨I.ok.frames,I.ok.mod,I.bs,Nat.le_trans I.ok.bsz I.sz,I.stack,I.stkFree,I.hok,I.bare⟩
theorem Inv.after {Q:VK}{u:Value} (I:Inv X pins σ H s) (h:CE X.stack X.prog X.w H s Q u s'):EP X pins σ Q u s':=by
 obtain⟨v,H',os,bare,un,hok,r,q⟩:=h
 obtain⟨hh,g,d,t,os'⟩:=s'
 obtain rfl:os'=s.os:=os
 exact⟨v,H',I.call (h':=hh) (g':=g) (d':=d) (t':=t) (ch:=[]) un hok bare (fun b z=>absurd z (by simp)),r,q⟩
end
noncomputable def nA (sp:Sp) (dvs:List V) (E:XK) (t:TA):TE:=fun σ H Q=>t σ H fun vs H1=>sp (vs++dvs) H1 Q E
noncomputable def Binds (K:PySem.W.Frag) (fd:FuncData) (ps:List Str) (ds:List Value):Prop :=
 ∀(s:Shared) (us:List Value),K.In s.heap->(us++ds).length=ps.length->BindsTo s fd ⟨us,[]⟩ (ps.zip (us++ds))
theorem Binds.all {K:PySem.W.Frag}{fd:FuncData}{ps:List Str} (h:∀us:List Value,us.length=ps.length->bindArgs fd ⟨us,[]⟩=pure (ps.zip us)):Binds K fd ps []:=fun s us _ hl=>by
 rw [List.append_nil] at hl ⊢
 exact .of_eq (h us hl)
noncomputable def i9 (CX:CXT) (X:Cx) (E:XK):Prop:=∀(pins:List (Addr×Obj)) (σ:St) (H:Hp) (s:Shared) (e:Value) (s':Shared),Inv X pins σ H s->CX X.stack H s E e s'->X.xe e s'
section
variable {X:Cx}{CX:CXT}{k:Nat}{f C:Addr}{fd:FuncData}{ps:List Str}{sp:Sp}{dvs:List V}{ds:List Value}{E:XK}{x m:Str}{p pos apos:Pos}{e o:Expr}{es:List Expr}{ta:TE}{t:TA}
theorem uW {pins:List (Addr×Obj)}{σ:St}{H:Hp}{s:Shared}{Q:VK}{us:List Value}{vs:List V} (F:aG X.prog X.w X.K X.mg X.base CX k f fd ps sp) (hr:aN k X.A) (hb:Binds X.K fd ps ds) (hd:av dvs ds) (hx:i9 CX X E)
  (I:Inv X pins σ H s) (r:av vs us) (h:sp (vs++dvs) H Q E):wpAny (model X.prog X.w) X.A (call (.ref f) us) (EP X pins σ Q) X.xe s:=by
 have r2:av (vs++dvs) (us++ds):=r.append hd
 have hl:(us++ds).length=ps.length:=by rw [<- r2.length];exact F.len _ _ _ _ h
 refine wpAny_call (codeAny_mono (F.run X.A X.stack s H ⟨us,[]⟩ (us++ds) (vs++dvs) Q E hr I.env0 (hb s us I.kIn hl) r2 h) fun r s' hq=>?_)
 cases r with
 | error e=>exact hx pins σ H s e s' I hq
 | ok fl =>
  cases fl with
  | ret u=>exact I.after hq
  | next=>exact False.elim hq
  | brk=>exact False.elim hq
  | cont=>exact False.elim hq
theorem tL (F:aG X.prog X.w X.K X.mg X.base CX k f fd ps sp) (hr:aN k X.A) (hg:Gl X x) (hm:X.mg x=some (.ref f)) (hk:PySem.W.keepIn X.K (.ref f)=true) (hb:Binds X.K fd ps ds) (hd:av dvs ds) (hx:i9 CX X E)
  (ha:PA X (e::es) t) (hdb:(x == ("__debug__":Str))=false:=by decide) (he:starEach (e::es) X.env=(false,eval e X.env)::starEach es X.env:=by rfl) (hpl:(backTo pos (starEach es X.env)).any (·.1)=false:=by rfl) :
  PE X (.Call (.Name x p) (e::es) [] pos) (nA sp dvs E t):=by
 intro pins s σ H Q I h
 refine wpAny_Call_Name_kw (lM I hg hm ?_ hdb)
 refine PySem.W.callWith_K (h₀:=X.base) I.ok.mod.kin hk (thn (ha pos pins s σ H _ I h) fun us s1 ⟨vs,H1,I1,r,q⟩=>⟨I1.kIn,?_⟩) he hpl
 exact uW F hr hb hd hx I1 r q
structure Mk (K:PySem.W.Frag) (C f:Addr):Prop where
 makes:PySem.W.makesIn K C=true
 init:PySem.W.findIn K (.ref C) "__init__"=some (some (.ref f))
 fn:PySem.W.isFn K (.ref f)=true
 kp:PySem.W.keepIn K (.ref C)=true
end
section
variable {X:Cx}{CX:CXT}{k:Nat}{f C:Addr}{fd:FuncData}{ps ks:List Str}{sp:Sp}{E:XK}{x m:Str}{p pos apos kpos:Pos}{e o:Expr}{es:List Expr}{kws:List Keyword}{te ta:TE}{t tk:TA}{nm:Option Str}
structure wX (K:PySem.W.Frag) (fd:FuncData) (ps ks:List Str) (g:List Value->List Value->List Value) (gV:List V->List V->List V):Prop where
 to:∀(s:Shared) (us ws:List Value),K.In s.heap->(g us ws).length=ps.length->BindsTo s fd ⟨us,ks.zip ws⟩ (ps.zip (g us ws))
 rel:∀{vs:List V}{us:List Value}{zs:List V}{ws:List Value},av vs us->av zs ws->av (gV vs zs) (g us ws)
variable {g:List Value->List Value->List Value}{gV:List V->List V->List V}
end
structure aP (N P:List Str) (sc:Scope):Prop where
 kind:sc.kind=.function
 co:sc.isCoroutine=false
 gen:sc.isGenerator=false
 nd:N.Nodup
 pre:N.take P.length=P
 par:∀x∈P,sc.names.lookup x=some .local\/sc.names.lookup x=some .cell
 nofree:∀y∈sc.names,y.2≠.free
theorem kF {kindOf:Str->Option NameKind}{x:Str}:∀{binds:List (Str×Value)}{m:Str->Option Value},(∀v,(x,v)∉binds)->bindL kindOf binds m x=m x
 | [],_,_=>rfl
 | (n,v)::r,m,h=>by
  unfold bindL
  rw [kF fun w hw=>h w (List.mem_cons_of_mem _ hw)]
  split
  ·have:x≠n:=by rintro rfl;exact h v List.mem_cons_self
   simp [this]
  ·rfl
theorem kr {kindOf:Str->Option NameKind}{x:Str}:∀{binds:List (Str×Value)}{m:Str->Option Value},(∀v,(x,v)∉binds)->bindC kindOf binds m x=m x
 | [],_,_=>rfl
 | (n,v)::r,m,h=>by
  unfold bindC
  rw [kr fun w hw=>h w (List.mem_cons_of_mem _ hw)]
  split
  ·rfl
  ·have:x≠n:=by rintro rfl;exact h v List.mem_cons_self
   simp [this]
theorem kJ {kindOf:Str->Option NameKind}{x:Str}{v:Value}:∀{P:List Str}{vs:List Value}{i:Nat}{m:Str->Option Value},P.Nodup->P[i]?=some x->vs[i]?=some v->kindOf x=some .local ->
  bindL kindOf (P.zip vs) m x=some v
 | [],_,_,_,_,h,_,_=>by simp at h
 | _::_,[],_,_,_,_,h,_=>by simp at h
 | p::P,w::vs,0,m,nd,h1,h2,hk=>by
  simp at h1 h2;subst h1;subst h2
  show bindL kindOf ((p,w)::P.zip vs) m p=_
  unfold bindL
  rw [kF fun v hv=>(List.nodup_cons.mp nd).1 (List.of_mem_zip hv).1,if_pos hk]
  simp
 | p::P,w::vs,i + 1,m,nd,h1,h2,hk=>by
  show bindL kindOf ((p,w)::P.zip vs) m x=_
  unfold bindL
  exact kJ (i:=i) (List.nodup_cons.mp nd).2 (by simpa using h1) (by simpa using h2) hk
theorem kh {kindOf:Str->Option NameKind}{x:Str}{v:Value}:∀{P:List Str}{vs:List Value}{i:Nat}{m:Str->Option Value},P.Nodup->P[i]?=some x->vs[i]?=some v->kindOf x≠some .local ->
  bindC kindOf (P.zip vs) m x=some v
 | [],_,_,_,_,h,_,_=>by simp at h
 | _::_,[],_,_,_,_,h,_=>by simp at h
 | p::P,w::vs,0,m,nd,h1,h2,hk=>by
  simp at h1 h2;subst h1;subst h2
  show bindC kindOf ((p,w)::P.zip vs) m p=_
  unfold bindC
  rw [kr fun v hv=>(List.nodup_cons.mp nd).1 (List.of_mem_zip hv).1,if_neg hk]
  simp
 | p::P,w::vs,i + 1,m,nd,h1,h2,hk=>by
  show bindC kindOf ((p,w)::P.zip vs) m x=_
  unfold bindC
  exact kh (i:=i) (List.nodup_cons.mp nd).2 (by simpa using h1) (by simpa using h2) hk
noncomputable def start (N:List Str) (vs:List V):St:=vs.map some++List.replicate (N.length - vs.length) none
noncomputable def fi (CX:CXT) (P:Program) (w:World) (K:PySem.W.Frag) (mg:Str->Option Value) (base:Heap) (N:List Str) (qual:Str) (scope:Scope) (f:Addr) (cd:Value) (A:Around) (outer:List Env) (s:Shared) (H:Hp) (E:XK):Cx where
 prog:=P
 w:=w
 K:=K
 mg:=mg
 base:=base
 A:=A.deeper (envOfC qual scope s.heap.objs.size f cd)
 N:=N
 s₀:=s
 H₀:=H
 env:=envOfC qual scope s.heap.objs.size f cd
 outer:=outer
 stack:=envOfC qual scope s.heap.objs.size f cd::outer
 ex:=[]
 calm:=true
 fn:=fun _=>true
 pn:=[]
 xe:=fun e s'=>wpAny (model P w) (A.deeper (envOfC qual scope s.heap.objs.size f cd)) (leaving (envOfC qual scope s.heap.objs.size f cd) e) (fun _ s''=>CX outer H s E e s'') (fun e' s''=>CX outer H s E e' s'') s'
theorem iL {sc:Scope}{n:Nat}{x:Str} (h:sc.names.lookup x=some .cell):∃c,(cellsFrom n sc.names []).lookup x=some c:=by
 have q:=PySem.W.cellsFrom_some sc.names n [] (.inl h)
 exact Option.isSome_iff_exists.mp q
theorem qz {CX:CXT}{P:Program}{w:World}{K:PySem.W.Frag}{mg:Str->Option Value}{base:Heap}{N ps:List Str}{qual:Str}{scope:Scope}{f:Addr}{cd:Value}{A:Around}{outer:List Env}{s s1:Shared}{H:Hp}{E:XK}{us:List Value}{vs:List V}
  (S:aP N ps scope) (hd:A.handled=none) (e0:ie P w K mg base A outer s H) (hl:vs.length=ps.length) (r:av vs us)
  (x:InCallC s s.heap.objs.size (bindL (envOfC qual scope s.heap.objs.size f cd).kindOf (ps.zip us) fun _=>none) (cellsFrom (s.heap.objs.size + 1) scope.names []) (bindC (envOfC qual scope s.heap.objs.size f cd).kindOf (ps.zip us) fun _=>none) s1) :
  Inv (fi CX P w K mg base N qual scope f cd A outer s H E) [] (start N vs) H s1:=by
 have hpl:ps.length<=N.length:=by have:=congrArg List.length S.pre;rw [List.length_take] at this;omega
 obtain⟨h1,tk,rfl,hk⟩:=x.done
 have noA:∀b:Addr,b∉(fi CX P w K mg base N qual scope f cd A outer s H E).ex:=fun b z=>absurd (show b∈([]:List Addr) from z) (by simp)
 refine⟨⟨e0.mod,S.kind,rfl,rfl,Nat.le_refl _,fun y z c h1 h2=>?_,fun y hy=>?_,fun y c _ h=>?_,fun _=>hd,Around.frames_deeper e0.frames,.inr ⟨rfl,rfl⟩,fun b z=>absurd z (noA b),e0.bs,e0.bsz,fun b _ _=>noA b,fun b z=>absurd z (noA b),e0.funs,e0.frf⟩,
  rfl,e0.bare,Un.kept hk,⟨_,x.toInCall.ns,fun i y v h1 h2 h3=>?_⟩,fun y c h=>⟨_,x.cell y c h⟩,e0.hok.fresh (Nat.le_refl _),fun y c h=>?_,fun p hp=>absurd (show p∈([]:List (Addr×Obj)) from hp) (by simp),e0.hok.kept hk,?_⟩
 ·exact name_of_addr x.apart (PySem.mem_of_lookup h1) (PySem.mem_of_lookup h2)
 ·have hy:scope.names.lookup y=some .cell\/scope.names.lookup y=some .free:=hy
  rcases hy with hy | hy
  ·exact iL hy
  ·exact absurd rfl (S.nofree _ (PySem.mem_of_lookup hy))
 ·exact Nat.le_of_lt (x.above y c (PySem.mem_of_lookup h))
 ·have hi:i < vs.length:=by
   unfold start at h2
   by_cases hi:i < vs.length
   ·exact hi
   ·rw [List.getElem?_append_right (by simpa using hi)] at h2
    rw [List.getElem?_replicate] at h2
    split at h2 <;> cases h2
  have ha:vs[i]?=some v:=by
   unfold start at h2
   rw [List.getElem?_append_left (by simpa using hi),List.getElem?_map] at h2
   cases e:vs[i]? with
   | none=>rw [e] at h2;cases h2
   | some a=>rw [e] at h2;cases h2;rfl
  obtain⟨u,hu,rv⟩:=r.get ha
  have hp:ps[i]?=some y:=by
   rw [<- S.pre,List.getElem?_take_of_lt (by omega)];exact h1
  have ndP:ps.Nodup:=by rw [<- S.pre];exact S.nd.sublist (List.take_sublist _ _)
  refine⟨u,rv,?_⟩
  rcases S.par y (List.mem_of_getElem? hp) with k | k
  ·exact .inl ⟨k,kJ ndP hp hu k⟩
  ·obtain⟨c,e⟩:=iL (n:=s.heap.objs.size + 1) k
   refine .inr ⟨.inl k,c,e,?_⟩
   have q:=x.cell y c e
   rw [kh ndP hp hu (by show scope.names.lookup y≠_;rw [k];decide)] at q
   exact q
 ·exact e0.hok.fresh (Nat.le_of_lt (x.above y c (PySem.mem_of_lookup h)))
 ·unfold start
  show _=N.length
  rw [List.length_append,List.length_map,List.length_replicate]
  omega
theorem vL {CX:CXT}{P:Program}{w:World}{K:PySem.W.Frag}{mg:Str->Option Value}{base:Heap}{k:Nat}{f:Addr}{name qual:Str}{params:Arguments}{body:List Stmt}{scope:Scope}{dV kV doc pm cdv ct oc:Value}{an od:Option Addr}
  {osl:Array (Option Value)}{N ps:List Str}{sp:Sp} (lk:K.lookup f=some ⟨oc,od,.func (PySem.W.fnOf name qual params body scope dV kV doc pm an cdv ct),osl⟩) (hcd:PySem.W.codeIn K cdv qual=true) (S:aP N ps scope)
  (len:∀vs H Q E,sp vs H Q E->vs.length=ps.length)
  (hbody:∀(A:Around) (outer:List Env) (s:Shared) (H:Hp) (vs:List V) (Q:VK) (E:XK),aN k (A.deeper (envOfC qual scope s.heap.objs.size f cdv))->sp vs H Q E ->
   ∃t,PSs (fi CX P w K mg base N qual scope f cdv A outer s H E) body t/\t { nx:=fun _ H'=>Q .non H',rt:=Q } (start N vs) H) :
  aG P w K mg base CX (k + 1) f (PySem.W.fnOf name qual params body scope dV kV doc pm an cdv ct) ps sp:=by
 refine⟨len,fun A outer s H args us vs Q E hr e0 hb r hsp=>?_⟩
 have hl:=len _ _ _ _ hsp
 have KX:K.In s.heap:=e0.mod.kin.keeps fun b o e=>(e0.bs b o e).1
 have lim:s.heap.NoLimit:=e0.mod.nolimit.keeps fun b o e=>(e0.bs b o e).1
 have hkind:∀y∈ps.zip us,scope.names.lookup y.1=some .local\/(scope.names.lookup y.1=some .cell/\((cellsFrom (s.heap.objs.size + 1) scope.names []).lookup y.1).isSome=true):=fun ⟨n,v⟩ hy=>by
  rcases S.par n (List.of_mem_zip hy).1 with q | q
  ·exact .inl q
  ·exact .inr ⟨q,PySem.W.cellsFrom_some _ _ _ (.inl q)⟩
 refine codeAny_call_function hr.depth (KX _ _ lk) rfl S.co S.gen rfl (PySem.W.codeRec_of KX hcd) (hb _ _ _ _ ?_)
 refine wpAny_newFunctionEnv_cells S.kind hkind fun env he s1 x=>?_
 subst he
 refine⟨lim.keeps x.toInCall.keep,codeAny_func ?_⟩
 obtain⟨t,ht,hq⟩:=hbody A outer s H vs Q E (hr.deeper _) hsp
 have I:Inv (fi CX P w K mg base N qual scope f cdv A outer s H E) [] (start N vs) H s1:=qz S hr.hd e0 hl r x
 refine wpAny_mono (ht [] s1 (start N vs) H _ I hq) (fun fl s' hs=>?_) fun e s' hs=>hs
 have fin:∀{σ':St}{H':Hp}{v:V}{u:Value},Inv (fi CX P w K mg base N qual scope f cdv A outer s H E) [] σ' H' s'->RelV v u->Q v H'->CE outer P w H s Q u s' :=
  fun {σ' H' v u} J rv q=>⟨v,H',J.os,J.bare,J.base,J.hok,rv,q⟩
 cases fl with
 | ret u =>
  obtain⟨v,σ',H',J,rv,q⟩:=hs
  exact fin J rv q
 | next =>
  obtain⟨σ',H',J,q⟩:=hs
  exact fin (v:=V.non) (u:=Value.none) J rfl q
 | brk =>
  obtain⟨_,_,_,q⟩:=hs
  exact False.elim q
 | cont =>
  obtain⟨_,_,_,q⟩:=hs
  exact False.elim q
section
variable {X:Cx}{x:Str}{p pos:Pos}{e:Expr}{es:List Expr}{t:TA}{id T:String}{r:List V->Hp->VK->Prop}
noncomputable def tCB (r:List V->Hp->VK->Prop) (t:TA):TE:=fun σ H Q=>t σ H fun vs H1=>r vs H1 Q
theorem aA (hc:bC X (.builtin id) r) (hg:Gl X x) (hm:X.mg x=none) (hv:bootBuiltins x=some (.builtin id)) (ha:PA X (e::es) t) (hn:x≠"__name__":=by decide) (hdb:(x == ("__debug__":Str))=false:=by decide)
  (he:starEach (e::es) X.env=(false,eval e X.env)::starEach es X.env:=by rfl) (hpl:(backTo pos (starEach es X.env)).any (·.1)=false:=by rfl):PE X (.Call (.Name x p) (e::es) [] pos) (tCB r t):=by
 intro pins s σ H Q I h
 refine wpAny_Call_Name_kw (dB I hg hm hv ?_ hn hdb)
 exact PyProof.Rows.callWith_builtin1 (thn (ha pos pins s σ H _ I h) fun us s1 ⟨vs,H1,I1,r1,q1⟩=>hc pins s1 σ H1 vs us Q I1 r1 q1) he hpl
theorem cb (hc:bC X (.type T) r) (hg:Gl X x) (hm:X.mg x=none) (hv:bootBuiltins x=some (.type T)) (ha:PA X (e::es) t) (hn:x≠"__name__":=by decide) (hdb:(x == ("__debug__":Str))=false:=by decide)
  (he:starEach (e::es) X.env=(false,eval e X.env)::starEach es X.env:=by rfl) (hpl:(backTo pos (starEach es X.env)).any (·.1)=false:=by rfl):PE X (.Call (.Name x p) (e::es) [] pos) (tCB r t):=by
 intro pins s σ H Q I h
 refine wpAny_Call_Name_kw (dB I hg hm hv ?_ hn hdb)
 exact PyProof.Rows.callWith_type1 (thn (ha pos pins s σ H _ I h) fun us s1 ⟨vs,H1,I1,r1,q1⟩=>hc pins s1 σ H1 vs us Q I1 r1 q1) he hpl
end
end L2
namespace HT
open PySem PyProof.Rows
section
open PySem.SeqAt
open PySem.AutoSeq1 (wpAny_loadPart')
open PySem.MeetsSeq PySem.MeetsSeq2 PySem.MeetsSeq3
end
section
variable {prog:Program}{w:World}{A:Around}{E:Value->Shared->Prop}{s:Shared}
theorem wV {t b:Addr}{vs ws:List Value}{Q:Value->Shared->Prop} (ht:IsTup s.heap t vs.toArray) (hb:IsTup s.heap b ws.toArray) (hv:vs≠[])
  (h1:ws=[]->Q (.ref t) s) (h2:ws≠[]->Q (.ref s.heap.objs.size) { s with heap:=s.heap.push { cls:=.type "tuple",data:=.seq (vs++ws).toArray } })
  (hsz:vs.length + ws.length<=sizeLine):wpAny (model prog w) A (binaryOp .Add (.ref t) (.ref b)) Q E s:=by
 obtain⟨⟨cls,dd,data,sl⟩,ho,hc,n,hd⟩:=id ht
 obtain⟨⟨cls2,dd2,data2,sl2⟩,ho2,hc2,n2,hd2⟩:=id hb
 simp only at hc hd hc2 hd2
 subst hc hd hc2 hd2
 have e:vs.toArray++ws.toArray=(vs++ws).toArray:=by simp
 by_cases hw:ws=[]
 ·exact concat_meets ⟨_,ho,rfl⟩ ⟨_,ho2,rfl⟩ noFill_tuple_add seq_tuple_add PySem.F.slot_tuple_add PySem.F.entry_tuple_add (PySem.F.args_tuple_add_2 _ _)
   (tuple_addW1 t b vs.toArray ws.toArray n n2 dd dd2 sl sl2 (by simpa using hv) (by simp [hw])) ⟨ho,ho2,h1 hw⟩
 ·refine concat_meets ⟨_,ho,rfl⟩ ⟨_,ho2,rfl⟩ noFill_tuple_add seq_tuple_add PySem.F.slot_tuple_add PySem.F.entry_tuple_add (PySem.F.args_tuple_add_2 _ _)
   (tuple_addW2 t b vs.toArray ws.toArray n n2 dd dd2 sl sl2 (by simpa using hv) (by simpa using hw) (by rw [List.size_toArray,List.size_toArray];exact hsz)) ⟨ho,ho2,?_⟩
  rw [e]
  exact h2 hw
noncomputable def sIx (n d:Nat):Option Int->Nat
 | none=>d
 | some v=>if v < 0 then (v + (n:Int)).toNat else min v.toNat n
theorem vb (n d:Nat) (hd:d<=n) (o:Option Int):sIx n d o<=n:=by
 cases o with
 | none=>exact hd
 | some v =>
  show (if v < 0 then (v + (n:Int)).toNat else min v.toNat n)<=n
  by_cases hv:v < 0
  ·rw [if_pos hv];omega
  ·rw [if_neg hv];exact Nat.min_le_right _ _
theorem mf (v:Int) (n d:Nat):(if v < 0 then max (v + (n:Int)) 0 else min v (n:Int))=((sIx n d (some v):Nat):Int):=by
 show (if v < 0 then max (v + (n:Int)) 0 else min v (n:Int))=(((if v < 0 then (v + (n:Int)).toNat else min v.toNat n):Nat):Int)
 by_cases hv:v < 0
 ·simp only [if_pos hv];omega
 ·simp only [if_neg hv];omega
theorem pd (lo hi:Option Int) (n:Nat):Builtin.Slice.sliceAdjust lo hi 1 (n:Int)=(((sIx n 0 lo:Nat):Int),((sIx n n hi:Nat):Int)):=by
 have h1:¬ ((1:Int) < 0):=by omega
 unfold Builtin.Slice.sliceAdjust
 simp only [h1,if_false]
 refine Prod.ext ?_ ?_
 ·cases lo with
  | none=>rfl
  | some v=>exact mf v n 0
 ·cases hi with
  | none=>rfl
  | some v=>exact mf v n n
theorem pA (i j:Nat):Builtin.Slice.slicePlaces (i:Int) (j:Int) 1=j - i:=by
 unfold Builtin.Slice.slicePlaces
 have h1:(1:Int) > 0:=by omega
 simp only [h1,if_true,Int.ediv_one]
 split <;> omega
theorem jW {v:Value}{o:Option Int}{Q:Option Int->Shared->Prop} (p:IsPart v o) (h:Q o s):wpAny (model prog w) A (Builtin.Slice.slicePartIndex v) Q E s:=by
 cases p with
 | none=>exact slicePart_none h
 | int i t=>exact slicePart_int h
theorem og {sl:Addr}{vl vu:Value}{lo hi:Option Int}{n:Nat}{Q:Int×Int×Nat->Shared->Prop} (hs:s.heap.IsSliceOf sl vl vu .none) (pl:IsPart vl lo) (pu:IsPart vu hi)
  (h:Q (((sIx n 0 lo:Nat):Int),1,sIx n n hi - sIx n 0 lo) s):wpAny (model prog w) A (Builtin.Slice.sliceApplied (.ref sl) (pure (n:Int))) Q E s:=by
 obtain⟨os,hos,hcs,hds⟩:=id hs
 unfold Builtin.Slice.sliceApplied Builtin.Slice.sliceFields
 refine wpAny_bind (wpAny_bind (wpAny_field hos hds (x:=vl) rfl (wpAny_bind (wpAny_field hos hds (x:=vu) rfl (wpAny_bind (wpAny_field hos hds (x:=.none) rfl (wpAny_pure ?_)))))))
 refine wpAny_bind (slicePart_none ?_)
 show wpAny _ _ (if ((1:Int) == 0)=true then _ else _) _ _ s
 rw [if_neg (by decide)]
 refine wpAny_bind (jW pl (wpAny_bind (jW pu (wpAny_bind (wpAny_pure ?_)))))
 show wpAny _ _ (match Builtin.Slice.sliceAdjust lo hi 1 (n:Int) with | (lo,hi)=>pure (lo,(1:Int),Builtin.Slice.slicePlaces lo hi 1)) _ _ s
 rw [pd lo hi n]
 show wpAny _ _ (pure (((sIx n 0 lo:Nat):Int),(1:Int),Builtin.Slice.slicePlaces ((sIx n 0 lo:Nat):Int) ((sIx n n hi:Nat):Int) 1)) _ _ s
 rw [pA]
 exact wpAny_pure h
theorem rR (xs:Array Value) (i k:Nat):((List.range k).filterMap fun (m:Nat)=>xs[((i:Int) + (m:Int) * 1).toNat]?).toArray=((xs.toList.drop i).take k).toArray:=by
 have e:(fun (m:Nat)=>xs[((i:Int) + (m:Int) * 1).toNat]?)=fun m=>xs[i + m]?:=by
  funext m
  have:((i:Int) + (m:Int) * 1).toNat=i + m:=by omega
  rw [this]
 rw [e]
 have:=pick_run xs i k
 rw [List.filterMap_map] at this
 have e2:((fun x=>xs[x]?) ∘ fun x=>i + x)=fun m=>xs[i + m]?:=rfl
 rw [e2] at this
 rw [this]
theorem wN {t sl:Addr}{items:Array Value}{vl vu:Value}{lo hi:Option Int}{Q:Value->Shared->Prop} (ht:IsTup s.heap t items) (hs:s.heap.IsSliceOf sl vl vu .none) (pl:IsPart vl lo) (pu:IsPart vu hi)
  (hw:¬ (sIx items.size 0 lo=0/\sIx items.size items.size hi=items.size))
  (h:Q (.ref s.heap.objs.size) { s with heap:=s.heap.push { cls:=.type "tuple",data:=.seq ((items.toList.drop (sIx items.size 0 lo)).take (sIx items.size items.size hi - sIx items.size 0 lo)).toArray } })
  (hsz:items.size<=sizeLine):wpAny (model prog w) A (getItem (.ref t) (.ref sl)) Q E s:=by
 have htake:sizeOk (.seq ((items.toList.drop (sIx items.size 0 lo)).take (sIx items.size items.size hi - sIx items.size 0 lo)).toArray):=by
  show ((items.toList.drop (sIx items.size 0 lo)).take (sIx items.size items.size hi - sIx items.size 0 lo)).toArray.size<=sizeLine
  rw [List.size_toArray,List.length_take,List.length_drop,Array.length_toList]
  omega
 have hj:sIx items.size items.size hi<=items.size:=vb _ _ (Nat.le_refl _) hi
 obtain⟨os,hos,hcs,hds⟩:=id hs
 have hTs:s.TypeIs (.ref sl) "slice":=⟨os,hos,hcs⟩
 unfold getItem
 try with_reducible refine wpAny_holding ?_
 first | refine wpAny_bind (wpAny_pure ?_) | skip
 refine wpAny_bind (wpAny_sequenceKey ht.typeIs (by decide) ?_)
 refine wpAny_bind (wpAny_callSpecial?_slot (name:=Str.ofString "__getitem__") ht.typeIs PyProof.Rows.slot_tuple_getitem
  (wpAny_call_entry PyProof.Rows.slot_tuple_getitem ht.typeIs entry_tuple_getitem ?_ (args_tuple_getitem _ _)))
 show wpAny _ _ (Builtin.Tuple.tupleItemsOf (.ref t) >>= _) _ _ s
 refine wpAny_bind (tupleItemsOf_ ht ?_)
 refine wpAny_bind (wpAny_typeOf hTs ?_)
 rw [if_pos (by decide)]
 refine wpAny_bind (og hs pl pu ?_)
 have hno:¬ ((((sIx items.size 0 lo:Nat):Int) == 0 && (1:Int) == 1 && (sIx items.size items.size hi - sIx items.size 0 lo) == items.size)=true):=by
  intro q
  rw [Bool.and_eq_true,Bool.and_eq_true] at q
  have q1:((sIx items.size 0 lo:Nat):Int)=0:=eq_of_beq q.1.1
  have q2:sIx items.size items.size hi - sIx items.size 0 lo=items.size:=eq_of_beq q.2
  exact hw ⟨by omega,by omega⟩
 show wpAny _ _ (if (((sIx items.size 0 lo:Nat):Int) == 0 && (1:Int) == 1 && (sIx items.size items.size hi - sIx items.size 0 lo) == items.size)=true then _ else _) _ _ s
 rw [if_neg hno,rR]
 first
  | exact wpAny_bind (m:=Builtin.Tuple.tupleExact _) (wpAny_newObj_type (wpAny_pure ⟨_,rfl,wpAny_pure h⟩) htake)
  | exact wpAny_bind (m:=Builtin.Tuple.tupleExact _) (wpAny_newObj_type (wpAny_bind (wpAny_pure (wpAny_pure ⟨_,rfl,wpAny_pure h⟩))) htake)
  | exact wpAny_bind (wpAny_bind (m:=Builtin.Tuple.tupleExact _) (wpAny_newObj_type (wpAny_pure (wpAny_pure ⟨_,rfl,wpAny_pure h⟩)) htake))
  | exact wpAny_bind (wpAny_bind (m:=Builtin.Tuple.tupleExact _) (wpAny_newObj_type (wpAny_pure ⟨_,rfl,wpAny_pure h⟩) htake))
end
end HT
namespace L2
open PySem PySem.Spec PyProof.Rows
noncomputable abbrev TO:=St->Hp->(Option Int->Hp->Prop)->Prop
noncomputable def PO (X:Cx) (e:Option Expr) (t:TO):Prop :=
 ∀(pins:List (Addr×Obj)) (s:Shared) (σ:St) (H:Hp) (Q:Option Int->Hp->Prop),Inv X pins σ H s->t σ H Q ->
  wpAny (model X.prog X.w) X.A (evalPart e X.env) (fun u s'=>∃o H',Inv X pins σ H' s'/\IsPart u o/\Q o H') X.xe s
noncomputable def sP:TO:=fun _ H Q=>Q none H
noncomputable def vn (t:TE):TO:=fun σ H Q=>t σ H fun x H1=>∃i,x=.int i/\Q (some i) H1
section
variable {X:Cx}{e:Expr}{te:TE}{lo hi:Option Expr}{tl th:TO}{pos p2:Pos}
theorem eR:PO X none sP:=by
 intro pins s σ H Q I h
 rw [evalPart_none]
 exact wpAny_pure ⟨none,H,I,.none,h⟩
theorem eQ (h:PE X e te):PO X (some e) (vn te):=by
 intro pins s σ H Q I hw
 rw [evalPart_some]
 refine thn (h pins s σ H _ I hw) fun u s1 ⟨x,H1,I1,r1,q1⟩=>?_
 obtain⟨i,rfl,q⟩:=q1
 obtain⟨t,rfl⟩:=r1
 exact⟨some i,H1,I1,.int i t,q⟩
noncomputable def SlR (X:Cx) (r:V->Option Int->Option Int->Hp->VK->Prop):Prop :=
 ∀(pins:List (Addr×Obj)) (s:Shared) (σ:St) (H:Hp) (x:V) (v vl vu:Value) (lo hi:Option Int) (sl:Addr) (Q:VK),Inv X pins σ H s->RelV x v->s.heap.IsSliceOf sl vl vu .none->IsPart vl lo->IsPart vu hi->r x lo hi H Q ->
  ∃T id,typeLookup (.type T) "__getitem__"=pure (some (.builtin id))/\s.TypeIs v T/\wpAny (model X.prog X.w) X.A (getItem v (.ref sl)) (EP X pins σ Q) X.xe s
noncomputable def tSl (r:V->Option Int->Option Int->Hp->VK->Prop) (te:TE) (tl th:TO):TE:=fun σ H Q=>te σ H fun x H1=>tl σ H1 fun l H2=>th σ H2 fun u H3=>r x l u H3 Q
theorem eN {r:V->Option Int->Option Int->Hp->VK->Prop} (hr:SlR X r) (he:PE X e te) (hl:PO X lo tl) (hu:PO X hi th):PE X (.Subscript e (.Slice lo hi none p2) pos) (tSl r te tl th):=by
 intro pins s σ H Q I h
 refine Subscript_ (thn (he pins s σ H _ I h) fun v s1 ⟨x,H1,I1,r1,q1⟩=>?_)
 refine wpAny_Slice (thn (hl pins s1 σ H1 _ I1 q1) fun vl s2 ⟨l,H2,I2,pl,q2⟩=>thn (hu pins s2 σ H2 _ I2 q2) fun vu s3 ⟨u,H3,I3,pu,q3⟩=>?_)
 rw [evalPart_none]
 refine wpAny_pure ?_
 have I4:Inv X pins σ H3 { s3 with heap:=s3.heap.push { cls:=.type "slice",data:=.fields #[vl,vu,.none] } }:=I3.kept (t':=s3.toks) fun b ob q=>Heap.get?_push_of_some _ q
 obtain⟨T,id,hT,ht,hg⟩:=hr pins { s3 with heap:=s3.heap.push { cls:=.type "slice",data:=.fields #[vl,vu,.none] } } σ H3 x v vl vu l u s3.heap.objs.size Q I4 r1 (Heap.IsSliceOf.new ..) pl pu q3
 show wpAny (model X.prog X.w) X.A (subscriptTail e (.Slice lo hi none p2) v (.ref s3.heap.objs.size)) (EP X pins σ Q) X.xe { s3 with heap:=s3.heap.push { cls:=.type "slice",data:=.fields #[vl,vu,.none] } }
 exact tail_any (ops:=[.ref s3.heap.objs.size,v]) ht hT hg (by with_unfolding_all rfl)
noncomputable def bR (xs:List V) (lo hi:Option Int):List V:=(xs.drop (HT.sIx xs.length 0 lo)).take (HT.sIx xs.length xs.length hi - HT.sIx xs.length 0 lo)
theorem jT (xs:List V) (lo hi:Option Int):(bR xs lo hi).length<=xs.length:=by
 unfold bR
 rw [List.length_take,List.length_drop]
 omega
noncomputable def vU (K:PySem.W.Frag):V->Option Int->Option Int->Hp->VK->Prop:=fun x lo hi H Q=>∃a xs,x=.ref a/\SqT K H a xs /\
 ¬ (HT.sIx xs.length 0 lo=0/\HT.sIx xs.length xs.length hi=xs.length)/\∀p,H p=none->Q (.ref p) (upd H p (.tup (bR xs lo hi)))
theorem ug:SlR X (vU X.K):=by
 intro pins s σ H x v vl vu lo hi sl Q I rx hs pl pu h
 obtain⟨a,xs,rfl,hx,hw,q⟩:=h
 cases rx
 obtain⟨its,r,ht,hz⟩:=I.tuple hx
 have hlen:its.toArray.size=xs.length:=by rw [List.size_toArray];exact r.length.symm
 refine⟨"tuple",_,PyProof.Rows.slot_tuple_getitem.lookup,ht.typeIs,?_⟩
 refine HT.wN ht hs pl pu (by rw [hlen];exact hw) ?_ (by rw [hlen];exact hz)
 rw [hlen]
 refine⟨.ref s.heap.objs.size,_,I.laid (t':=s.toks) (o:=.tup (bR xs lo hi)) (fun b ob q=>Heap.get?_push_of_some _ q) (Nat.le_refl _) ?_,rfl,q _ (I.hok.fresh (Nat.le_refl _))⟩
 exact⟨Nat.le_trans (jT xs lo hi) hz,_,(r.drop (HT.sIx xs.length 0 lo)).take (HT.sIx xs.length xs.length hi - HT.sIx xs.length 0 lo),IsTup.new _ _⟩
noncomputable def vk (K:PySem.W.Frag):R2:=fun x y H Q=>∃a b xs ys,x=.ref a/\y=.ref b/\SqT K H a xs/\SqT K H b ys/\xs≠[]/\xs.length + ys.length<=sizeLine /\
 (ys=[]->Q (.ref a) H)/\(ys≠[]->∀p,H p=none->Q (.ref p) (upd H p (.tup (xs++ys))))
theorem av.nil_iff {xs:List V}{us:List Value} (r:av xs us):us=[] ↔ xs=[]:=by
 cases r with
 | nil=>simp
 | cons _ _=>simp
theorem sR:OpR X (binaryOp .Add) (vk X.K):=by
 intro pins s σ H x y v u Q I rx ry h
 obtain⟨a,b,xs,ys,rfl,rfl,ha,hb,hx,hz,q1,q2⟩:=h
 cases rx
 cases ry
 obtain⟨its,r1,p1,_⟩:=I.tuple ha
 obtain⟨its2,r2,p2,_⟩:=I.tuple hb
 refine HT.wV p1 p2 (fun z=>hx (r1.nil_iff.mp z)) (fun z=>⟨.ref a,H,I,rfl,q1 (r2.nil_iff.mp z)⟩) (fun z=>?_) (by rw [<- r1.length,<- r2.length];exact hz)
 refine⟨.ref s.heap.objs.size,_,I.laid (t':=s.toks) (o:=.tup (xs++ys)) (fun b ob q=>Heap.get?_push_of_some _ q) (Nat.le_refl _) ?_,rfl,q2 (fun w=>z (r2.nil_iff.mpr w)) _ (I.hok.fresh (Nat.le_refl _))⟩
 exact⟨by rw [List.length_append];exact hz,_,r1.append r2,IsTup.new _ _⟩
end
noncomputable def ixN (n:Nat) (i:Int):Option Nat:=if 0<=i then (if i < n then some i.toNat else none) else if -(n:Int)<=i then some (i + n).toNat else none
noncomputable def atI {α:Type} (xs:List α) (i:Int):Option α:=(ixN xs.length i).bind fun j=>xs[j]?
theorem mr {n:Nat}{i:Int}{j:Nat} (h:ixN n i=some j):seqIndex? i n=some j/\j < n/\-(n:Int)<=i/\i < n:=by
 unfold ixN at h
 by_cases h0:0<=i
 ·rw [if_pos h0] at h
  by_cases h1:i < n
  ·rw [if_pos h1] at h
   have e:i.toNat=j:=Option.some.inj h
   exact⟨by rw [seqIndex_of h0 h1,e],by omega,by omega,h1⟩
  ·rw [if_neg h1] at h;cases h
 ·rw [if_neg h0] at h
  by_cases h1:-(n:Int)<=i
  ·rw [if_pos h1] at h
   have e:(i + n).toNat=j:=Option.some.inj h
   exact⟨by rw [seqIndex_neg (by omega) h1,e],by omega,h1,by omega⟩
  ·rw [if_neg h1] at h;cases h
theorem i7 {α:Type}{xs:List α}{i:Int}{v:α} (h:atI xs i=some v):∃j,seqIndex? i xs.length=some j/\xs[j]?=some v/\j < xs.length/\-(xs.length:Int)<=i/\i < xs.length:=by
 unfold atI at h
 cases e:ixN xs.length i with
 | none=>rw [e] at h;cases h
 | some j =>
  rw [e] at h
  obtain⟨h1,h2,h3,h4⟩:=mr e
  exact⟨j,h1,h,h2,h3,h4⟩
theorem tN {α:Type}{xs:List α}{j:Nat}{v:α} (h:xs[j]?=some v):atI xs (j:Int)=some v:=by
 have hj:j < xs.length:=(List.getElem?_eq_some_iff.mp h).1
 have e:ixN xs.length (j:Int)=some j:=by
  unfold ixN
  rw [if_pos (by omega),if_pos (by omega)];simp
 unfold atI;rw [e];exact h
noncomputable def sH (b:Expr):Prop:=∀o i,subscripted b false o i=operate [o,i] (getItem o i)
noncomputable def IxR (X:Cx) (r:R2):Prop :=
 ∀(value slice:Expr) (pins:List (Addr×Obj)) (s:Shared) (σ:St) (H:Hp) (x y:V) (v u:Value) (Q:VK),Inv X pins σ H s->RelV x v->RelV y u->r x y H Q ->
  subscripted slice false v u=operate [v,u] (getItem v u)->wpAny (model X.prog X.w) X.A (subscriptTail value slice v u) (EP X pins σ Q) X.xe s
noncomputable def MtR (X:Cx) (id:String) (r:V->List V->Hp->VK->Prop):Prop :=
 ∀(pins:List (Addr×Obj)) (s:Shared) (σ:St) (H:Hp) (x:V) (xs:List V) (v:Value) (us:List Value) (Q:VK),Inv X pins σ H s->RelV x v->av xs us->r x xs H Q ->
  wpAny (model X.prog X.w) X.A (call (.builtin id) (v::us)) (EP X pins σ Q) X.xe s
section
variable {X:Cx}{a b:Expr}{ta tb:TE}{pos:Pos}
theorem IxR.or {r r':R2} (h:IxR X r) (h':IxR X r'):IxR X (fun x y H Q=>r x y H Q\/r' x y H Q):=by
 intro value slice pins s σ H x y v u Q I rx ry q hs
 rcases q with q | q
 ·exact h value slice pins s σ H x y v u Q I rx ry q hs
 ·exact h' value slice pins s σ H x y v u Q I rx ry q hs
theorem aD {r:R2} (hr:IxR X r) (ha:PE X a ta) (hb:PE X b tb) (hs:sH b):PE X (.Subscript a b pos) (tOp r ta tb):=by
 intro pins s σ H Q I h
 exact Subscript_ (jM ha hb I h fun v u s2 x y H2 I2 rx ry q=>hr a b pins s2 σ H2 x y v u Q I2 rx ry q (hs _ _))
noncomputable def nK (K:PySem.W.Frag):R2:=fun x y H Q=>∃p xs i v,x=.ref p/\y=.int i/\SqL K H p xs/\atI xs i=some v/\Q v H
noncomputable def nM (K:PySem.W.Frag):R2:=fun x y H Q=>∃p xs i v,x=.ref p/\y=.int i/\SqT K H p xs/\atI xs i=some v/\Q v H
noncomputable def nS:R2:=fun x y H Q=>∃z i c,x=.str z/\y=.int i/\z.length<=sizeLine/\atI z.cps.toList i=some c/\Q (.str ⟨#[c]⟩) H
theorem tw:IxR X (nK X.K):=by
 intro value slice pins s σ H x y v u Q I rx ry h hs
 obtain⟨p,xs,i,z,rfl,rfl,hq,he,q⟩:=h
 cases rx
 obtain⟨t,rfl⟩:=ry
 obtain⟨its,r,pl,hz⟩:=I.list hq
 obtain⟨j,h1,h2,h3,h4,h5⟩:=i7 he
 obtain⟨w,ew,rw'⟩:=r.get h2
 have hl:=r.length
 have hn:=eX
 have fin:EP X pins σ Q w s:=⟨z,H,I,rw',q⟩
 by_cases h0:0<=i
 ·have hj:i.toNat=j:=by
   rw [seqIndex_of h0 h5] at h1
   exact Option.some.inj h1
  exact item_listR pl.isList h0 (by omega) (by rw [hj];simpa using ew) fin hs
 ·have hj:(i + (its.toArray.size:Int)).toNat=j:=by
   rw [seqIndex_neg (by omega) h4] at h1
   rw [List.size_toArray,<- hl]
   exact Option.some.inj h1
  exact subscriptTail_builtinR (x:=w) pl.isList.typeIs slot_list_getitem.lookup
   (wpAny_getItem_list_neg (Q:=fun r s'=>r=w/\EP X pins σ Q r s') pl.isList (by omega) (by rw [List.size_toArray] <;> omega) (by omega) (by rw [hj];simpa using ew) ⟨rfl,fin⟩) hs
theorem uK:IxR X (nM X.K):=by
 intro value slice pins s σ H x y v u Q I rx ry h hs
 obtain⟨p,xs,i,z,rfl,rfl,hq,he,q⟩:=h
 cases rx
 obtain⟨t,rfl⟩:=ry
 obtain⟨its,r,pl,hz⟩:=I.tuple hq
 obtain⟨j,h1,h2,h3,h4,h5⟩:=i7 he
 obtain⟨w,ew,rw'⟩:=r.get h2
 have hl:=r.length
 have hn:=eX
 have fin:EP X pins σ Q w s:=⟨z,H,I,rw',q⟩
 exact subscriptTail_builtinR (x:=w) pl.typeIs slot_tuple_getitem.lookup
  (getItem_tuple (j:=j) (Q:=fun r s'=>r=w/\EP X pins σ Q r s') pl (by omega) (by omega) (by rw [List.size_toArray,<- hl];exact h1) (by simpa using ew) ⟨rfl,fin⟩) hs
theorem uJ:IxR X nS:=by
 intro value slice pins s σ H x y v u Q I rx ry h hs
 obtain⟨z,i,c,rfl,rfl,hz,he,q⟩:=h
 obtain⟨t,rfl⟩:=rx
 obtain⟨t',rfl⟩:=ry
 obtain⟨j,h1,h2,h3,h4,h5⟩:=i7 he
 have hl:z.cps.toList.length=z.length:=by simp [Str.length]
 rw [hl] at h1 h4 h5
 have hn:=eX
 exact tail_any (typeIs_str s z t) slot_str_getitem.lookup (getItem_str (c:=c) (by
  have e1:decide (i < -(2 ^ 63:Int))=false:=decide_eq_false (by omega)
  have e2:decide (i ≥ 2 ^ 63)=false:=decide_eq_false (by omega)
  rw [e1,e2,Bool.or_false]) (by rw [h1];simpa using h2) ⟨.str ⟨#[c]⟩,H,I.tok _,⟨_,rfl⟩,q⟩) hs
noncomputable def rIx (K:PySem.W.Frag):R2:=fun x y H Q=>nK K x y H Q\/nM K x y H Q\/nS x y H Q
theorem aW:IxR X (rIx X.K):=tw.or (uK.or uJ)
theorem pL (its:List Value) (n j:Nat) (u:Value):Obj.mapSeq (·.setIfInBounds j u) { cls:=.type "list",data:=.seq its.toArray n }={ cls:=.type "list",data:=.seq (its.set j u).toArray n }:=by
 simp [Obj.mapSeq]
theorem Inv.lst {pins:List (Addr×Obj)}{σ:St}{H:Hp}{s:Shared}{p:Addr}{xs:List V} (I:Inv X pins σ H s) (h:H p=some (.lst xs)) :
  ∃(its:List Value) (n:Nat),av xs its/\s.heap.get? p=some { cls:=.type "list",data:=.seq its.toArray n }/\xs.length<=sizeLine:=by
 obtain⟨z,its,n,r,e⟩:=I.hok p _ h
 exact⟨its,n,r,e,z⟩
theorem Inv.lstUpd {pins:List (Addr×Obj)}{σ:St}{H:Hp}{s:Shared}{p:Addr}{xs ys:List V}{its its':List Value}{n n':Nat}{f:Obj->Obj} (I:Inv X pins σ H s) (h:H p=some (.lst xs))
  (ho:s.heap.get? p=some { cls:=.type "list",data:=.seq its.toArray n }) (hf:f { cls:=.type "list",data:=.seq its.toArray n }={ cls:=.type "list",data:=.seq its'.toArray n' }) (r:av ys its') (hz:ys.length<=sizeLine) (t:Nat) :
  Inv X pins σ (upd H p (.lst ys)) { s with heap:=s.heap.update p f,toks:=t }:=by
 have e:(s.heap.update p f).get? p=some { cls:=.type "list",data:=.seq its'.toArray n' }:=by
  rw [Heap.get?_update_self f ho (by rw [hf] <;> rfl),hf]
 refine I.write (x:=p) (e:=p) (by rw [h];trivial) (.inl rfl) (fun b u hb q=>(Heap.get?_update_other _ _ (Ne.symm hb)).trans q) ⟨_,e⟩ ?_
 exact⟨hz,its',n',r,e⟩
noncomputable def vh:V->V->V->Hp->(Hp->Prop)->Prop:=fun o i v H Q=>∃p xs k j,o=.ref p/\i=.int k/\H p=some (.lst xs)/\ixN xs.length k=some j/\Q (upd H p (.lst (xs.set j v)))
theorem set_list:nZ X vh:=by
 intro pins s σ H o i v ov iv u Q I ro ri rv h
 obtain⟨p,xs,k,j,rfl,rfl,hp,hj,q⟩:=h
 cases ro
 obtain⟨t,rfl⟩:=ri
 obtain⟨its,n,r,ho,hz⟩:=I.lst hp
 obtain⟨h1,h2,h3,h4⟩:=mr hj
 have hl:=r.length
 have hn:=eX
 have I':Inv X pins σ (upd H p (.lst (xs.set j v))) { s with heap:=s.heap.update p (Obj.mapSeq (·.setIfInBounds j u)) } :=
  I.lstUpd hp ho (pL its n j u) (r.set rv j) (by rw [List.length_set];exact hz) s.toks
 by_cases h0:0<=k
 ·have hk:k.toNat=j:=by
   rw [seqIndex_of h0 h4] at h1
   exact Option.some.inj h1
  exact PySem.W.ki_setAt ho h0 (by omega) (by rw [List.size_toArray,<- hl];exact h4) (by rw [hk];exact⟨_,I',q⟩)
 ·have hk:(k + (its.toArray.size:Int)).toNat=j:=by
   rw [seqIndex_neg (by omega) h3] at h1
   rw [List.size_toArray,<- hl]
   exact Option.some.inj h1
  exact PySem.W.ki_setBack ho (by omega) (by rw [List.size_toArray,<- hl];exact h3) (by omega) (by rw [hk];exact⟨_,I',q⟩)
theorem oI (lo hi:Option Int) (n:Nat):(sliceBounds lo hi none n).1=((HT.sIx n 0 lo:Nat):Int)/\(sliceBounds lo hi none n).2.1=((HT.sIx n n hi:Nat):Int)/\(sliceBounds lo hi none n).2.2=1:=by
 refine⟨?_,?_,rfl⟩
 ·cases lo with
  | none=>simp [sliceBounds,HT.sIx]
  | some i =>
   simp only [sliceBounds,HT.sIx,Option.getD_none,show (1:Int) > 0 by decide,if_true]
   by_cases h:i < 0
   ·simp only [h,if_true] <;> omega
   ·simp only [h,if_false] <;> omega
 ·cases hi with
  | none=>simp [sliceBounds,HT.sIx]
  | some i =>
   simp only [sliceBounds,HT.sIx,Option.getD_none,show (1:Int) > 0 by decide,if_true]
   by_cases h:i < 0
   ·simp only [h,if_true] <;> omega
   ·simp only [h,if_false] <;> omega
theorem oz (its:List Value) (lo hi:Option Int):slicePick its.toArray lo hi none=((its.drop (HT.sIx its.length 0 lo)).take (HT.sIx its.length its.length hi - HT.sIx its.length 0 lo)).toArray:=by
 obtain⟨h1,h2,h3⟩:=oI lo hi its.toArray.size
 unfold slicePick
 rw [h1,h2,h3]
 simp only [sliceRange_one,pick_run,List.size_toArray] <;> rfl
noncomputable def wu (K:PySem.W.Frag):V->Option Int->Option Int->Hp->VK->Prop:=fun x lo hi H Q=>∃a xs,x=.ref a/\SqL K H a xs/\∀p,H p=none->Q (.ref p) (upd H p (.lst (bR xs lo hi)))
theorem gw:SlR X (wu X.K):=by
 intro pins s σ H x v vl vu lo hi sl Q I rx hs pl pu h
 obtain⟨a,xs,rfl,hx,q⟩:=h
 cases rx
 obtain⟨its,r,ht,hz⟩:=I.list hx
 have hlen:=r.length
 refine⟨"list",_,slot_list_getitem.lookup,ht.isList.typeIs,?_⟩
 refine wpAny_getItem_list_slice ht.isList hs pl pu .none (by simp) ?_ (by rw [List.size_toArray] <;> omega)
 rw [oz,<- hlen]
 refine⟨.ref s.heap.objs.size,_,I.laid (t':=s.toks) (o:=.lst (bR xs lo hi)) (fun b ob q=>Heap.get?_push_of_some _ q) (Nat.le_refl _) ?_,rfl,q _ (I.hok.fresh (Nat.le_refl _))⟩
 exact⟨Nat.le_trans (jT xs lo hi) hz,_,0,(r.drop (HT.sIx xs.length 0 lo)).take (HT.sIx xs.length xs.length hi - HT.sIx xs.length 0 lo),Heap.get?_push_size _ rfl⟩
noncomputable def df:V->Bool
 | .non=>true
 | .bl _=>true
 | .int _=>true
 | .str _=>true
 | _=>false
noncomputable def eqV:V->V->Bool
 | .non,.non=>true
 | .bl a,.bl b=>a == b
 | .bl a,.int b=>(if a then 1 else 0) == b
 | .int a,.bl b=>a == (if b then 1 else 0)
 | .int a,.int b=>a == b
 | .str a,.str b=>a == b
 | _,_=>false
theorem uR {A:Around}{s:Shared}{y x:V}{u v:Value} (ry:RelV y u) (rx:RelV x v) (fy:df y=true) (fx:df x=true):SeqAt.EqAt A s u v (eqV y x):=by
 cases y with
 | non =>
  cases ry
  cases x with
  | non=>cases rx;exact SeqAt.EqAt.same _
  | bl b=>cases rx;exact SeqAt.EqAt.none_bool b
  | int b=>obtain⟨t,rfl⟩:=rx;exact SeqAt.EqAt.none_int b t
  | str b=>obtain⟨t,rfl⟩:=rx;exact SeqAt.EqAt.none_str b t
  | _=>exact absurd (show false=true from fx) Bool.false_ne_true
 | bl a =>
  cases ry
  cases x with
  | non=>cases rx;exact SeqAt.EqAt.bool_none a
  | bl b=>cases rx;exact SeqAt.EqAt.bool_bool a b
  | int b=>obtain⟨t,rfl⟩:=rx;exact SeqAt.EqAt.bool_int a b t
  | str b=>obtain⟨t,rfl⟩:=rx;exact SeqAt.EqAt.bool_str a b t
  | _=>exact absurd (show false=true from fx) Bool.false_ne_true
 | int a =>
  obtain⟨t',rfl⟩:=ry
  cases x with
  | non=>cases rx;exact SeqAt.EqAt.int_none a t'
  | bl b=>cases rx;exact SeqAt.EqAt.int_bool a t' b
  | int b=>obtain⟨t,rfl⟩:=rx;exact SeqAt.EqAt.int_int a t' b t
  | str b=>obtain⟨t,rfl⟩:=rx;exact SeqAt.EqAt.int_str a t' b t
  | _=>exact absurd (show false=true from fx) Bool.false_ne_true
 | str a =>
  obtain⟨t',rfl⟩:=ry
  cases x with
  | non=>cases rx;exact SeqAt.EqAt.str_none a t'
  | bl b=>cases rx;exact SeqAt.EqAt.str_bool a t' b
  | int b=>obtain⟨t,rfl⟩:=rx;exact SeqAt.EqAt.str_int a t' b t
  | str b=>obtain⟨t,rfl⟩:=rx;exact SeqAt.EqAt.str_str a t' b t
  | _=>exact absurd (show false=true from fx) Bool.false_ne_true
 | _=>exact absurd (show false=true from fy) Bool.false_ne_true
noncomputable def eqU (x:V) (u:Value):Bool:=match u with
 | .none=>eqV .non x
 | .bool b=>eqV (.bl b) x
 | .int i _=>eqV (.int i) x
 | .str z _=>eqV (.str z) x
 | _=>false
theorem mM {x y:V}{u:Value} (r:RelV y u) (f:df y=true):eqU x u=eqV y x:=by
 cases y with
 | non=>cases r;rfl
 | bl b=>cases r;rfl
 | int i=>obtain⟨t,rfl⟩:=r;rfl
 | str z=>obtain⟨t,rfl⟩:=r;rfl
 | _=>exact absurd (show false=true from f) Bool.false_ne_true
theorem fP {x:V}:∀{xs:List V}{us:List Value},av xs us->xs.all df=true->us.any (eqU x)=xs.any fun y=>eqV y x
 | _,_,.nil,_=>rfl
 | y::xs,u::us,.cons r t,f=>by
  rw [List.all_cons,Bool.and_eq_true] at f
  rw [List.any_cons,List.any_cons,mM r f.1,fP t f.2]
theorem fJ {A:Around}{s:Shared}{x:V}{v:Value} (rx:RelV x v) (fx:df x=true):∀{xs:List V}{us:List Value},av xs us->xs.all df=true->∀u∈us,SeqAt.EqAt A s u v (eqU x u)
 | _,_,.nil,_=>fun u hu=>by cases hu
 | y::xs,u::us,.cons r t,f=>fun u' hu=>by
  rw [List.all_cons,Bool.and_eq_true] at f
  rcases List.mem_cons.mp hu with rfl | hu
  ·rw [mM r f.1];exact uR r rx f.1 fx
  ·exact fJ rx fx t f.2 u' hu
noncomputable def inV (x:V) (xs:List V):Bool:=xs.any fun y=>eqV y x
noncomputable def rIn (K:PySem.W.Frag) (neg:Bool):R2:=fun x y H Q=>∃p xs,y=.ref p/\(SqL K H p xs\/SqT K H p xs)/\df x=true/\xs.all df=true/\Q (.bl (if neg then !inV x xs else inV x xs)) H
theorem fY:OpR X (compareOp .In) (rIn X.K false):=by
 intro pins s σ H x y v u Q I rx ry h
 obtain⟨p,xs,rfl,hq,fx,fs,q⟩:=h
 cases ry
 rcases hq with hq | hq
 ·obtain⟨its,r,pl,hz⟩:=I.list hq
  refine SeqAt.in_listAt (eqU x) pl.isList (fun w hw=>fJ rx fx r fs w (by simpa using hw)) ⟨.bl _,H,I,rfl,?_⟩
  rw [show its.toArray.any (eqU x)=its.any (eqU x) by simp,fP r fs]
  exact q
 ·obtain⟨its,r,pl,hz⟩:=I.tuple hq
  refine SeqAt.in_tupleAt (eqU x) pl (fun w hw=>fJ rx fx r fs w (by simpa using hw)) ⟨.bl _,H,I,rfl,?_⟩
  rw [show its.toArray.any (eqU x)=its.any (eqU x) by simp,fP r fs]
  exact q
theorem ij:OpR X (compareOp .NotIn) (rIn X.K true):=by
 intro pins s σ H x y v u Q I rx ry h
 obtain⟨p,xs,rfl,hq,fx,fs,q⟩:=h
 cases ry
 rcases hq with hq | hq
 ·obtain⟨its,r,pl,hz⟩:=I.list hq
  refine SeqAt.notIn_listAt (eqU x) pl.isList (fun w hw=>fJ rx fx r fs w (by simpa using hw)) ⟨.bl _,H,I,rfl,?_⟩
  rw [show its.toArray.any (eqU x)=its.any (eqU x) by simp,fP r fs]
  exact q
 ·obtain⟨its,r,pl,hz⟩:=I.tuple hq
  refine SeqAt.notIn_tupleAt (eqU x) pl (fun w hw=>fJ rx fx r fs w (by simpa using hw)) ⟨.bl _,H,I,rfl,?_⟩
  rw [show its.toArray.any (eqU x)=its.any (eqU x) by simp,fP r fs]
  exact q
theorem bA:bC X (.builtin "len") (fun xs H Q=>∃p ys,xs=[.ref p]/\(SqL X.K H p ys\/SqT X.K H p ys)/\Q (.int ys.length) H):=by
 intro pins s σ H xs us Q I r h
 obtain⟨p,ys,rfl,hq,q⟩:=h
 obtain⟨u,rfl,rx⟩:=vals1 r
 cases rx
 have hn:=eX
 rcases hq with hq | hq
 ·obtain⟨its,r',pl,hz⟩:=I.list hq
  have hlen:=r'.length
  exact Calls.call_len_list pl.isList (by simp only [List.size_toArray] <;> omega) ⟨.int ys.length,H,I.tok _,⟨s.toks + 1,by rw [List.size_toArray,hlen]⟩,q⟩
 ·obtain⟨its,r',pl,hz⟩:=I.tuple hq
  have hlen:=r'.length
  exact len_tuple pl (by simp only [List.size_toArray] <;> omega) ⟨.int ys.length,H,I.tok _,⟨s.toks + 1,by rw [List.size_toArray,hlen]⟩,q⟩
theorem jQ:bC X (.builtin "len") (fun xs H Q=>∃z,xs=[.str z]/\z.length<=sizeLine/\Q (.int z.length) H):=by
 intro pins s σ H xs us Q I r h
 obtain⟨z,rfl,hz,q⟩:=h
 obtain⟨u,rfl,t,rfl⟩:=vals1 r
 have hn:=eX
 exact len_str (by omega) ⟨.int z.length,H,I.tok _,⟨_,rfl⟩,q⟩
theorem fv:bC X (.type "list") (fun xs H Q=>∃p ys,xs=[.ref p]/\(SqL X.K H p ys\/SqT X.K H p ys)/\∀l,H l=none->Q (.ref l) (upd H l (.lst ys))):=by
 intro pins s σ H xs us Q I r h
 obtain⟨p,ys,rfl,hq,q⟩:=h
 obtain⟨u,rfl,rx⟩:=vals1 r
 cases rx
 have fin:∀(its:List Value),av ys its->ys.length<=sizeLine->∀(h':Heap) (c':Nat),(∀b o',s.heap.get? b=some o'->h'.get? b=some o') ->
   h'.get? s.heap.objs.size=some { cls:=.type "list",dict:=none,data:=.seq its.toArray c',slots:=#[] }->EP X pins σ Q (.ref s.heap.objs.size) { s with heap:=h' }:=fun its r' hz h' c' kp e =>
  ⟨.ref s.heap.objs.size,_,I.laid (t':=s.toks) kp (Nat.le_refl _) (show aM X.prog X.w _ h' _ (.lst ys) from ⟨hz,its,c',r',e⟩),rfl,q _ (I.hok.fresh (Nat.le_refl _))⟩
 rcases hq with hq | hq
 ·obtain⟨its,r',pl,hz⟩:=I.list hq
  have hlen:=r'.length
  obtain⟨o,ho,hc,n,hd⟩:=pl.isList
  exact call_list_seq p (.inl rfl) ho hc hd (fun h' c' kp e=>fin its r' hz h' c' kp e) (by simp only [List.size_toArray] <;> omega)
 ·obtain⟨its,r',pl,hz⟩:=I.tuple hq
  have hlen:=r'.length
  obtain⟨o,ho,hc,n,hd⟩:=pl
  exact call_list_seq p (.inr rfl) ho hc hd (fun h' c' kp e=>fin its r' hz h' c' kp e) (by simp only [List.size_toArray] <;> omega)
theorem eG:bC X (.type "tuple") (fun xs H Q=>∃p ys,xs=[.ref p]/\((SqL X.K H p ys/\∀l,H l=none->Q (.ref l) (upd H l (.tup ys)))\/(SqT X.K H p ys/\Q (.ref p) H))):=by
 intro pins s σ H xs us Q I r h
 obtain⟨p,ys,rfl,h⟩:=h
 obtain⟨u,rfl,rx⟩:=vals1 r
 cases rx
 rcases h with ⟨hq,q⟩ | ⟨hq,q⟩
 ·obtain⟨its,r',pl,hz⟩:=I.list hq
  have hlen:=r'.length
  refine call_tuple_list pl.isList (fun h' kp=>?_) (by simp only [List.size_toArray] <;> omega)
  have I1:Inv X pins σ H { s with heap:=h' }:=I.kept (t':=s.toks) kp
  have I2:Inv X pins σ (upd H h'.objs.size (.tup ys)) { s with heap:=h'.push { cls:=.type "tuple",data:=.seq its.toArray } } :=
   I1.laid (t':=s.toks) (fun b o e=>Heap.get?_push_of_some _ e) (Nat.le_refl _) (show aM X.prog X.w _ _ _ (.tup ys) from ⟨hz,its,r',IsTup.new _ _⟩)
  exact⟨.ref h'.objs.size,_,I2,rfl,q _ (I1.hok.fresh (Nat.le_refl _))⟩
 ·obtain⟨its,r',pl,hz⟩:=I.tuple hq
  exact call_tuple_same pl ⟨.ref p,H,I,rfl,q⟩
noncomputable def tyV (K:PySem.W.Frag) (T:String) (x:V) (H:Hp):Prop:=match x with
 | .str _=>T="str"
 | .int _=>T="int"
 | .ref p=>(T="list"/\∃xs,SqL K H p xs)\/(T="tuple"/\∃o,K.lookup p=some o/\o.cls=.type "tuple"/\o.dict=none) \/
   (T="dict"/\((∃kvs,H p=some (.dK kvs))\/∃kvs,H p=some (.dT kvs)))\/(T="set"/\∃S n,H p=some (.set S n))
 | _=>False
theorem uE {pins:List (Addr×Obj)}{σ:St}{H:Hp}{s:Shared}{T:String}{x:V}{v:Value} (I:Inv X pins σ H s) (r:RelV x v) (ty:tyV X.K T x H) :
  s.TypeIs v T/\∀a,v=.ref a->∃ob,s.heap.get? a=some ob/\ob.dict=none:=by
 cases x with
 | str z =>
  obtain⟨t,rfl⟩:=r
  cases (show T="str" from ty)
  exact⟨typeIs_str s z t,fun _ e=>nomatch e⟩
 | int i =>
  obtain⟨t,rfl⟩:=r
  cases (show T="int" from ty)
  exact⟨typeIs_int s i t,fun _ e=>nomatch e⟩
 | ref p =>
  cases r
  rcases ty with ⟨rfl,xs,hq⟩ | ⟨rfl,o,hk,hc,hd⟩ | ⟨rfl,hk⟩ | ⟨rfl,S,n,hk⟩
  ·obtain⟨its,_,pl,_⟩:=I.list hq
   refine⟨pl.isList.typeIs,fun a e=>?_⟩
   cases e
   obtain⟨o,n,e,c,hd,_⟩:=pl
   exact⟨o,e,hd⟩
  ·refine⟨⟨o,I.kIn p o hk,hc⟩,fun a e=>?_⟩
   cases e
   exact⟨o,I.kIn _ o hk,hd⟩
  ·have z:∃o,s.heap.get? p=some o/\o.ExactDict:=by
    rcases hk with ⟨kvs,hk⟩ | ⟨kvs,hk⟩
    ·obtain⟨_,_,_,_,o,_,_,e,ex,_⟩:=I.hok p _ hk
     exact⟨o,e,ex⟩
    ·obtain⟨_,_,_,_,o,_,_,e,ex,_⟩:=I.hok p _ hk
     exact⟨o,e,ex⟩
   obtain⟨o,e,ex⟩:=z
   refine⟨⟨o,e,ex.1⟩,fun a e2=>?_⟩
   cases e2
   exact⟨o,e,ex.2.1⟩
  ·obtain⟨o,_,_,_,e,ex,_⟩:=I.hok p _ hk
   refine⟨⟨o,e,ex.1⟩,fun a e2=>?_⟩
   cases e2
   exact⟨o,e,ex.2.1⟩
 | _=>exact False.elim ty
noncomputable def tBM (K:PySem.W.Frag) (T:String) (r:V->List V->Hp->VK->Prop) (to:TE) (t:TA):TE:=fun σ H Q=>to σ H fun x H1=>tyV K T x H1/\t σ H1 fun xs H2=>r x xs H2 Q
variable {o e:Expr}{es:List Expr}{to:TE}{t:TA}{name:Str}{apos cpos:Pos}{T id:String}{r:V->List V->Hp->VK->Prop}
theorem cT (pa:PlainAttrs T) (slot:Slot T name id) (hty:typeOf (.builtin id)=pure (.type "method_descriptor")) (hm:MtR X id r) (ho:PE X o to) (ha:PA X (e::es) t)
  (hbase:attributeBase o name X.env (eval o X.env)=eval o X.env:=by rfl)
  (hfew:((backTo cpos (starEach (e::es) X.env)).all (fun x=>!x.1) && (backToKw cpos (keywordEach [] X.env)).all (fun x=>x.1.isSome)
   && decide ((e::es).length + ([]:List Keyword).length + (if ([]:List Keyword).isEmpty then 0 else 1) < 30))=true:=by rfl)
  (hline:(apos.endLine == cpos.line)=true:=by rfl) (hs:starEach (e::es) X.env=(false,eval e X.env)::starEach es X.env:=by rfl) (hplain:(backTo cpos (starEach es X.env)).any (·.1)=false:=by rfl) :
  PE X (.Call (.Attribute o name apos) (e::es) [] cpos) (tBM X.K T r to t):=by
 intro pins s σ H Q I h
 refine wpAny_Call_method_late hbase hfew hline rfl (thn (ho pins s σ H _ I h) fun v s1 ⟨x,H1,I1,r1,ty,q1⟩=>?_)
 obtain⟨h1,h2⟩:=uE I1 r1 ty
 refine⟨T,id,pa,slot,hty,h1,h2,?_⟩
 have hA:=ha cpos pins s1 σ H1 _ I1 q1
 rw [hs] at hA ⊢
 refine Calls.callWith_builtin (by show (false || (backTo cpos (starEach es X.env)).any (·.1))=false;rw [hplain] <;> rfl) (Calls.evalArgs_plain ?_)
 exact thn hA fun us s2 ⟨vs,H2,I2,r2,q2⟩=>hm pins s2 σ H2 x vs v us Q I2 r1 r2 q2
/- xs.append(e),list.index on a module's tuple .. are MtR facts of 06m -/
end
noncomputable def MtM (X:Cx) (id:String) (r:V->List V->Hp->VK->Prop):Prop :=
 ∀(pins:List (Addr×Obj)) (s:Shared) (σ:St) (H:Hp) (x:V) (xs:List V) (v:Value) (us:List Value) (Q:VK),Inv X pins σ H s->RelV x v->av xs us->r x xs H Q ->
  wpAny (model X.prog X.w) X.A (call (.builtin id) (v::us)) (EP X pins σ Q) X.xe s
theorem av.one:∀{x:V}{us:List Value},av [x] us->∃u,us=[u]/\RelV x u
 | _,_,.cons r .nil=>⟨_,rfl,r⟩
theorem av.eraseIdx:∀{xs:List V}{us:List Value} (i:Nat),av xs us->av (xs.eraseIdx i) (us.eraseIdx i)
 | _,_,_,.nil=>.nil
 | _,_,0,.cons _ t=>t
 | _,_,i + 1,.cons r t=>.cons r (av.eraseIdx i t)
theorem av.rep {xs:List V}{us:List Value} (h:av xs us):∀k:Nat,av (List.replicate k xs).flatten (List.replicate k us).flatten
 | 0=>.nil
 | k + 1=>by
  rw [List.replicate_succ,List.replicate_succ,List.flatten_cons,List.flatten_cons]
  exact av.append h (av.rep h k)
theorem j6 {α:Type}:∀(l:List α) (i:Nat),(l.eraseIdx i).length<=l.length
 | [],_=>Nat.le_refl _
 | _::_,0=>Nat.le_succ _
 | _::r,i + 1=>Nat.succ_le_succ (j6 r i)
theorem foldl_rep (its:List Value):∀(k:Nat) (acc:List Value),
  List.foldl (fun x1 x2=>x1++x2) acc.toArray (List.replicate k its.toArray)=(acc++(List.replicate k its).flatten).toArray
 | 0,acc=>by simp
 | k + 1,acc=>by
  have e:acc.toArray++its.toArray=(acc++its).toArray:=by simp
  have e2:(acc++its)++(List.replicate k its).flatten=acc++(List.replicate (k + 1) its).flatten:=by
   rw [List.replicate_succ,List.flatten_cons,List.append_assoc]
  rw [<- e2,<- foldl_rep its k (acc++its),<- e,List.replicate_succ,List.foldl_cons]
section
variable {X:Cx}{pins:List (Addr×Obj)}{σ:St}{H:Hp}{s:Shared}{l b:Addr}{xs ys zs:List V}
theorem Inv.lset {its its':List Value}{n:Nat}{f:Array Value->Array Value}{t':Nat} (I:Inv X pins σ H s) (hH:H l=some (.lst xs))
  (e:s.heap.get? l=some { cls:=.type "list",data:=.seq its.toArray n }) (hf:f its.toArray=its'.toArray) (hv:av ys its') (hz:ys.length<=sizeLine) :
  Inv X pins σ (upd H l (.lst ys)) { s with heap:=s.heap.update l (Obj.mapSeq f),toks:=t' }:=by
 have q:=PySem.IsL.update e f
 rw [hf] at q
 refine I.write (x:=l) (e:=l) (by rw [hH];exact trivial) (.inl rfl) (fun b' u hb hu=>(Heap.get?_update_other s.heap (Obj.mapSeq f) (Ne.symm hb)).trans hu) ⟨_,q⟩ ?_
 exact⟨hz,its',_,hv,q⟩
theorem Inv.lnew {its:List Value}{t':Nat} (I:Inv X pins σ H s) (hv:av ys its) (hz:ys.length<=sizeLine) :
  Inv X pins σ (upd H s.heap.objs.size (.lst ys)) { s with heap:=s.heap.push { cls:=.type "list",data:=.seq its.toArray },toks:=t' } :=
 I.laid (fun _ _ q=>Heap.get?_push_of_some _ q) (Nat.le_refl _) ⟨hz,its,0,hv,Heap.get?_push_size _ rfl⟩
theorem Inv.fresh (I:Inv X pins σ H s):H s.heap.objs.size=none:=I.hok.fresh (Nat.le_refl _)
theorem Inv.lstM (I:Inv X pins σ H s) (hH:H l=some (.lst xs)):xs.length<=sizeLine/\∃(its:List Value) (n:Nat),av xs its/\xs.length=its.length/\s.heap.get? l=some { cls:=.type "list",data:=.seq its.toArray n }:=by
 obtain⟨z,its,n,r,e⟩:=I.hok l _ hH
 exact⟨z,its,n,r,r.length,e⟩
theorem rZ {n:Nat} (h:n<=sizeLine):Builtin.List.listTooLong n=false:=by
 unfold Builtin.List.listTooLong
 exact decide_eq_false (by omega)
end
section
variable {X:Cx}
noncomputable def uc:V->List V->Hp->VK->Prop:=fun x vs H Q=>∃l xs y,x=.ref l/\vs=[y]/\H l=some (.lst xs)/\xs.length < sizeLine/\Q .non (upd H l (.lst (xs++[y])))
theorem dP:MtM X "list.append" uc:=by
 intro pins s σ H x vs v us Q I rx rv h
 obtain⟨l,xs,y,rfl,rfl,hH,hz,q⟩:=h
 cases rx
 obtain⟨u,rfl,ru⟩:=rv.one
 obtain⟨z,its,n,r,hl,e⟩:=I.lstM hH
 refine call_meets F.slot_list_append ⟨_,e,rfl⟩ F.entry_list_append (F.args_list_append_2 _ _) (PySem.list_append l its.toArray n u (by rw [List.size_toArray];omega)) ⟨e,?_⟩
 refine⟨.non,_,I.lset (its':=its++[u]) hH e (by simp) (r.append (.cons ru .nil)) ?_,rfl,q⟩
 rw [List.length_append,List.length_singleton]
 omega
noncomputable def sy:V->List V->Hp->VK->Prop:=fun x vs H Q=>∃l b xs zs,x=.ref l/\vs=[.ref b]/\H l=some (.lst xs)/\H b=some (.lst zs)/\xs.length + zs.length<=sizeLine/\Q .non (upd H l (.lst (xs++zs)))
theorem p4:MtM X "list.extend" sy:=by
 intro pins s σ H x vs v us Q I rx rv h
 obtain⟨l,b,xs,zs,rfl,rfl,hH,hB,hz,q⟩:=h
 cases rx
 obtain⟨u,rfl,ru⟩:=rv.one
 cases ru
 obtain⟨z,its,n,r,hl,e⟩:=I.lstM hH
 obtain⟨z2,its2,n2,r2,hl2,e2⟩:=I.lstM hB
 have hsz:its.toArray.size + its2.toArray.size<=sizeLine:=by rw [List.size_toArray,List.size_toArray];omega
 have hlong:¬ (!its.toArray.isEmpty && Builtin.List.listTooLong (its.toArray.size + its2.toArray.size))=true:=by
  rw [rZ hsz,Bool.and_false]
  exact Bool.false_ne_true
 refine call_meets F.slot_list_extend ⟨_,e,rfl⟩ F.entry_list_extend (F.args_list_extend_2 _ _)
  (AutoSeq1.list_extend_list_list_0 l its.toArray n b its2.toArray n2 hlong (by rw [List.size_toArray];omega) (by omega)) ⟨e,e2,?_⟩
 refine⟨.non,_,I.lset (its':=its++its2) hH e (by simp) (r.append r2) ?_,rfl,q⟩
 rw [List.length_append]
 omega
noncomputable def uw:V->List V->Hp->VK->Prop:=fun x vs H Q=>∃l xs i k y,x=.ref l/\vs=[.int i]/\H l=some (.lst xs)/\-(2 ^ 63)<=i/\i < 2 ^ 63/\seqIndex? i xs.length=some k/\xs[k]?=some y/\Q y (upd H l (.lst (xs.eraseIdx k)))
theorem rj:MtM X "list.pop" uw:=by
 intro pins s σ H x vs v us Q I rx rv h
 obtain⟨l,xs,i,k,y,rfl,rfl,hH,h1,h2,hk,hy,q⟩:=h
 cases rx
 obtain⟨u,rfl,ru⟩:=rv.one
 obtain⟨t,rfl⟩:=ru
 obtain⟨z,its,n,r,hl,e⟩:=I.lstM hH
 obtain⟨w,hw,rw'⟩:=r.get hy
 refine call_meets F.slot_list_pop ⟨_,e,rfl⟩ F.entry_list_pop (F.args_list_pop_2 _ _)
  (MeetsSeq.list_pop_at l its.toArray n i t k w (fitsIndex_both h1 h2) (by rw [List.size_toArray,<- hl];exact hk) (by rw [<- Array.getElem?_toList];exact hw) (by rw [List.size_toArray];omega)) ⟨e,?_⟩
 refine⟨y,_,I.lset (its':=its.eraseIdx k) hH e ?_ (r.eraseIdx k) ?_,rw',q⟩
 ·show its.toArray.eraseIdxIfInBounds k=(its.eraseIdx k).toArray
  rw [List.eraseIdxIfInBounds_toArray]
 ·have:=j6 xs k
  omega
noncomputable def wm:R2:=fun x y H Q=>∃l b xs zs,x=.ref l/\y=.ref b/\H l=some (.lst xs)/\H b=some (.lst zs)/\xs.length + zs.length<=sizeLine/\∀p,H p=none->Q (.ref p) (upd H p (.lst (xs++zs)))
theorem ez:OpR X (binaryOp .Add) wm:=by
 intro pins s σ H x y v u Q I rx ry h
 obtain⟨l,b,xs,zs,rfl,rfl,hH,hB,hz,q⟩:=h
 cases rx
 cases ry
 obtain⟨z,its,n,r,hl,e⟩:=I.lstM hH
 obtain⟨z2,its2,n2,r2,hl2,e2⟩:=I.lstM hB
 refine PySem.P.add_list e e2 ?_ (by rw [List.size_toArray,List.size_toArray];omega)
 have ea:its.toArray++its2.toArray=(its++its2).toArray:=by simp
 rw [ea]
 exact⟨.ref _,_,I.lnew (t':=s.toks) (r.append r2) (by rw [List.length_append];omega),rfl,q _ I.fresh⟩
theorem len_rep {α:Type} (xs:List α) (k:Nat):(List.replicate k xs).flatten.length=k * xs.length:=by
 induction k with
 | zero=>simp
 | succ k ih=>rw [List.replicate_succ,List.flatten_cons,List.length_append,ih,Nat.succ_mul,Nat.add_comm]
end
section
variable {prog:Program}{w:World}{A:Around}{E:Value->Shared->Prop}{s:Shared}
end
section
variable {X:Cx}
end
end L2
namespace Att
open PySem PySem.W PySem.Calls PyProof.Rows
theorem oj {P:Params}{h:Heap}:∀(ns:List Int) (vs:List Value),WellAll P h vs (ns.map WData.int)->IntsAre vs ns:=by
 intro ns
 induction ns with
 | nil =>
  intro vs w
  rw [List.map_nil] at w
  cases w
  exact .nil
 | cons n ns ih =>
  intro vs w
  rw [List.map_cons] at w
  cases w with
  | cons a b =>
   cases a
   exact .cons _ _ (ih _ b)
theorem qA {l:OpenLaw}{n:Nat} (hn:l.most=some n) {P:Params}{h:Heap}{args:List WData}{vals:List Value}
  (hpre:l.row.toRowW.claim.pre args=true) (hwl:WellAll P h vals args) :
  ∃a vs ns,vals=[Value.ref a]/\args=[WData.list (ns.map WData.int)]/\h.get? a=some { cls:=.type "list",data:=.seq vs.toArray }/\IntsAre vs ns/\ns.length<=n:=by
 have hsh:WShape.hasAll [] args [.list .int]=true:=(pre_splitW hpre).1
 have hc:l.pre.holds [] { args:=args }=true:=(pre_splitW hpre).2
 obtain⟨d,r,rfl,h1,h2⟩:=hasAllW_cons hsh
 obtain rfl:=hasAllW_nil h2
 obtain⟨xs,rfl,h3⟩:=hasW_list h1
 obtain⟨ns,rfl⟩:=items_int h3
 have hlen:ns.length<=n:=by
  unfold OpenLaw.pre at hc
  have h4:(WTm.not (.lt (.lit (.int (n:Int))) (.len (.arg 0)))).holds [] { args:=[.list (ns.map .int)] }=true:=by
   have h4:=(holds_andW hc).1
   rw [hn] at h4
   exact h4
  have h5:=condW_of h4 (w_not (w_lt w_lit (w_len_list (w_arg rfl))))
  rw [List.length_map] at h5
  refine Nat.le_of_not_lt fun q=>?_
  have q':(n:Int) < ((ns.length:Nat):Int):=by omega
  first
   | (rw [decide_eq_true q'] at h5;exact absurd h5 (by decide))
   | (simp at h5;omega)
 cases hwl with
 | cons w1 w2 =>
  cases w2
  cases w1 with
  | list ho hall=>exact⟨_,_,ns,rfl,rfl,ho,oj ns _ hall,hlen⟩
theorem ql (l:OpenLaw) (args:List WData):l.row.toRowW.claim.post args (.bool true) args=true :=
 postW_of (r:=l.row.toRowW) (X:=(true == true))
  (show WShape.has [] (.bool true) .bool=true by first | rfl | decide | simp [WShape.has,WShape.arms,WShape.armsAll])
  (show (WTm.eq .res (.lit (.bool true))).value [] { args:=args,res:=some (.bool true),after:=args }=some (.bool (true == true)) from w_eq_bool (w_res rfl) w_lit) rfl
theorem wQ {l:OpenLaw}{n:Nat}{q:Program}{loose:List Str}{XP:(Str->Option Value)->Heap->Prop}{YP:World->Heap->Prop}{d:DefRec}
  (hn:l.most=some n) (hdf:d.params.defaults=[])
  (call:∀(w:World) (s₀ s₁:Shared) (mg mb:Str->Option Value) (fa:Addr) (o:Obj) (pm cd doc:Value) (a:Addr) (vs:List Value) (ns:List Int),
   Ground q loose [] XP w s₀ mg mb s₁.heap->YP w s₁.heap ->
   s₁.heap.get? fa=some o->o.data=.func (docDef d.name d.params d.body d.scope pm cd doc)->s₁.heap.CodeRec cd d.name->mg d.name=some (.ref fa) ->
   s₁.heap.get? a=some { cls:=.type "list",data:=.seq vs.toArray }->IntsAre vs ns->ns.length<=n->s₁.gens=#[] ->
   codeAny (model l.prog w) callerA (.call (.ref fa) ⟨[.ref a],[]⟩) (fun r s'=>r=.ok (.ret (.bool true))/\OldK s₁.heap s'.heap/\s'.os=s₁.os/\AllBare s'.gens) s₁) :
  WalkO q loose XP YP l.row.toRowW d [] (fun f vs=>PySem.call f vs):=by
 intro w s₀ s₁ mg mb G Y fa o pm cd doc dV kV ho hd hcd hD hmg hg args vals as hpre hlay hrd hwl hlo
 obtain rfl:dV=.none:=Dflts.none hD hdf
 obtain rfl:kV=.none:=Dflts.noKw hD
 obtain⟨a,vs,ns,rfl,rfl,hobj,hints,hlen⟩:=qA hn hpre hwl
 refine enter_call (codeAny_mono (call w s₀ s₁ mg mb fa o pm cd doc a vs ns G Y ho (fd_plain hd) hcd hmg hobj hints hlen hg) fun r s' hq=>?_)
 obtain⟨rfl,h2,h3,h4⟩:=hq
 exact⟨.inl ⟨.bool true,.bool true,[],rfl,fun _=>rfl,.bool true,ql l _,fun _=>⟨List.Pairwise.nil,fun _ hm=>(nomatch hm)⟩⟩,h2,h3,h4⟩
section
variable {prog:Program}{w:World}{A:Around}{E:Value->Shared->Prop}{s:Shared}{K:Frag}
end
end Att
namespace L2
open PySem PySem.Spec PyProof.Rows
theorem km:∀{vs:List Value}{ns:List Int},IntsAre vs ns->av (ns.map V.int) vs
 | _,_,.nil=>.nil
 | _,_,.cons n t h=>.cons ⟨t,rfl⟩ (km h)
noncomputable def jL (H:Hp):Prop:=∀b,H b=none\/∃o xs,H b=some (.frz o (.lst xs))
theorem qT {P:Program}{w:World}{K:PySem.W.Frag}{mg mb:Str->Option Value}{CX:CXT}{k:Nat}{fa a:Addr}{fd:FuncData}{x:Str}{sp:Sp}{s₁:Shared}{vs:List Value}{ns:List Int}
  (KX:K.In s₁.heap) (hns:s₁.heap.Ns mainGlobals mg) (hb:s₁.heap.Ns builtinsNs mb) (hbb:∀x:Str,x≠"__name__"->mb x=bootBuiltins x) (hlim:s₁.heap.NoLimit) (hg:s₁.gens=#[])
  (ha:s₁.heap.get? a=some { cls:=.type "list",data:=.seq vs.toArray }) (hi:IntsAre vs ns) (hl:ns.length<=sizeLine) (hr:aN k callerA)
  (F:∀base:Heap,K.In base->base.Ns mainGlobals mg->aG P w K mg base CX k fa fd [x] sp) (hbind:∀(s:Shared) (u:Value),BindsTo s fd ⟨[u],[]⟩ [(x,u)])
  (hsp:∀H:Hp,jL H->SqL K H a (ns.map V.int)->sp [.ref a] H (fun v _=>v=.bl true) fun _ _ _=>False)
  (hCX:∀H e s',CX [] H s₁ (fun _ _ _=>False) e s'->False) :
  codeAny (model P w) callerA (.call (.ref fa) ⟨[.ref a],[]⟩) (fun r s'=>r=.ok (.ret (.bool true))/\OldK s₁.heap s'.heap/\s'.os=s₁.os/\AllBare s'.gens) s₁:=by
 have rv:=km hi
 have lenV:=hi.length
 have core:∀H:Hp,jL H->SqL K H a (ns.map V.int)->HOk P w H s₁.heap->(∀b,H b≠none->b=a)->(H a≠none->K.lookup a=none) ->
   codeAny (model P w) callerA (.call (.ref fa) ⟨[.ref a],[]⟩) (fun r s'=>r=.ok (.ret (.bool true))/\OldK s₁.heap s'.heap/\s'.os=s₁.os/\AllBare s'.gens) s₁:=by
  intro H hO hS hok hA hK
  have base_of:∀{b:Addr}{o:Obj},s₁.heap.get? b=some o->H b=none->(dh s₁.heap H).get? b=some o:=fun e n=>qO e n
  have noA:∀{b:Addr}{o:Obj}{es:Array DictEntry}{ep:Nat},s₁.heap.get? b=some o->o.data=.dict es ep->H b=none:=fun {b o es ep} e d=>by
   cases q:H b with
   | none=>rfl
   | some u =>
    have e':b=a:=hA b (by rw [q];simp)
    subst e'
    rw [ha] at e;cases e
    have d':Data.seq vs.toArray _=Data.dict es ep:=d
    cases d'
  have nsK:∀{b:Addr}{m:Str->Option Value},s₁.heap.Ns b m->(dh s₁.heap H).Ns b m:=fun {b m} ⟨o,es,ep,e,d,r⟩=>⟨o,es,ep,base_of e (noA e d),d,r⟩
  have hKb:K.In (dh s₁.heap H):=fun b o e=>base_of (KX b o e) (by
   cases q:H b with
   | none=>rfl
   | some u =>
    have e':b=a:=hA b (by rw [q];simp)
    subst e'
    rw [hK (by rw [q];simp)] at e;cases e)
  have hM:Mod K mg (dh s₁.heap H):=⟨hKb,nsK hns,⟨mb,nsK hb,hbb⟩,let ⟨mc,h1,h2⟩:=hlim;⟨mc,nsK h1,h2⟩⟩
  have e0:ie P w K mg (dh s₁.heap H) callerA [] s₁ H:=⟨rfl,hM,fun b o e=>tM e,Nat.le_of_eq (qi _ _),trivial,fun b hb=>absurd (show b∈([]:List Addr) from hb) (by simp),hok,.of_eq hg⟩
  refine codeAny_mono ((F _ hKb (nsK hns)).run callerA [] s₁ H ⟨[.ref a],[]⟩ [.ref a] [.ref a] _ _ hr e0 (hbind s₁ (.ref a)) (.cons rfl .nil) (hsp H hO hS)) fun r s' h=>?_
  cases r with
  | error e=>exact (hCX H e s' h).elim
  | ok fl =>
   cases fl with
   | next=>exact False.elim h
   | brk=>exact False.elim h
   | cont=>exact False.elim h
   | ret u =>
    obtain⟨v,H',os,bare,un,hok',r',q⟩:=h
    have q':v=.bl true:=q
    subst q'
    obtain rfl:u=Value.bool true:=r'
    refine⟨rfl,OldK.of_keep fun b o e=>?_,os,bare⟩
    cases q:H b with
    | none=>exact un.keep b o e q (by intro z;exact absurd (show b∈([]:List Addr) from z) (by simp)) (by simp)
    | some u =>
     rcases hO b with z | ⟨ob,xs,z⟩
     ·rw [q] at z;cases z
     ·have z2:=un.frzs b ob _ z
      obtain⟨e1,_⟩:=hok b _ z
      obtain⟨e2,_⟩:=hok' b _ z2
      rw [e] at e1;cases e1
      exact e2
 cases hk:K.lookup a with
 | some o =>
  have e:=KX a o hk
  rw [ha] at e
  cases e
  refine core (fun _=>none) (fun _=>.inl rfl) (.inr ⟨_,vs.toArray,_,hk,rfl,rfl,rfl,by rw [List.size_toArray,lenV];exact hl,by simpa using rv⟩) (fun b u z=>by have z':(none:Option HO)=some u:=z;cases z') (fun b z=>absurd rfl z) fun z=>absurd rfl z
 | none =>
  refine core (fun b=>if b=a then some (.frz { cls:=.type "list",data:=.seq vs.toArray } (.lst (ns.map V.int))) else none) (fun b=>?_) (.inl (.inr ⟨{ cls:=.type "list",data:=.seq vs.toArray },if_pos rfl⟩)) (fun b u z=>?_) (fun b z=>?_) fun _=>hk
  ·by_cases hb:b=a
   ·exact .inr ⟨_,_,if_pos hb⟩
   ·exact .inl (if_neg hb)
  ·by_cases hb:b=a
   ·have z':=(if_pos hb).symm.trans z
    cases z'
    subst hb
    exact⟨ha,by rw [List.length_map];exact hl,vs,_,rv,ha⟩
   ·have z':=(if_neg hb).symm.trans z
    cases z'
  ·by_cases hb:b=a
   ·exact hb
   ·exact absurd (if_neg hb) z
theorem wU {l:PySem.W.OpenLaw}{n k:Nat}{q:Program}{loose:List Str}{XP:(Str->Option Value)->Heap->Prop}{YP:World->Heap->Prop}{d:DefRec}{K:Params->PySem.W.Frag}{CX:World->CXT}{sp:World->Sp}{x:Str}
  (hn:l.most=some n) (hn2:n<=sizeLine) (hdf:d.params.defaults=[]) (hr:aN k callerA)
  (hY:∀(w:World) (h:Heap),YP w h->(K w.params).In h)
  (F:∀(w:World) (mg:Str->Option Value) (fa:Addr) (h:Heap),(K w.params).In h->h.Ns mainGlobals mg->mg d.name=some (.ref fa) ->
   ∃fd:FuncData,(∀(s:Shared) (u:Value),BindsTo s fd ⟨[u],[]⟩ [(x,u)]) /\
    ∀base:Heap,(K w.params).In base->base.Ns mainGlobals mg->aG l.prog w (K w.params) mg base (CX w) k fa fd [x] (sp w))
  (hsp:∀(w:World) (H:Hp) (a:Addr) (ns:List Int),ns.length<=n->jL H->SqL (K w.params) H a (ns.map V.int)->sp w [.ref a] H (fun v _=>v=.bl true) fun _ _ _=>False)
  (hCX:∀(w:World) (H:Hp) (s:Shared) (e:Value) (s':Shared),CX w [] H s (fun _ _ _=>False) e s'->False) :
  PySem.W.WalkO q loose XP YP l.row.toRowW d [] (fun f vs=>PySem.call f vs):=by
 refine Att.wQ hn hdf fun w s₀ s₁ mg mb fa o pm cd doc a vs ns G Y ho hd hcd hmg hobj hints hlen hg=>?_
 have KX:=hY w _ Y
 obtain⟨fd,hb,hF⟩:=F w mg fa _ KX G.T.g hmg
 exact qT KX G.T.g G.T.b G.T.builtins G.T.nolimit hg hobj hints (Nat.le_trans hlen hn2) hr hF hb (fun H hO hS=>hsp w H a ns hlen hO hS) fun H e s'=>hCX w H s₁ e s'
end L2
/- THE LAST THEOREM (shape;LID,My.* are yours):
  My.Adr: a structure of the addresses that your layer names (classes,functions);My.Txt K t: a structure (Prop) of the equations over K;
  My.txt_mk:{K}{implicit addresses ..} (e1:nsIn K mainGlobals "law"=some (some (.ref f))) (e2:K.lookup f=some ⟨oc,od,.func (fnOf "law" "law" params body scope dV kV doc pm an cdv ct),sl⟩) (e3:codeIn K cdv "law"=true) ..:∃t,My.Txt K t
set_option maxRecDepth 100000 in
set_option maxHeartbeats 0 in
theorem PySem.Challenge.cw_LID_holds : PySem.Challenge.rw_LID.Holds := by
 w_on;o_law;k_head;(case hw=>w_witness2)
 k_fill
 refine L2.wU (l:=PySem.Challenge.rw_LID) (n:=63) (k:=40) (x:="script") (CX:=fun w=>..) (sp:=fun _=>My.sp_law) rfl (by decide) rfl ⟨rfl,by decide,by decide⟩ (fun w h Y=>PySem.W.kIn_of Y) ?F ?S ?C
 case F =>
  intro w mg fa h KX G hmg
  have T:∃t,My.Txt (L2.KOf KX) t:=by
   dsimp only [L2.KOf]
   refine' My.txt_mk ?e1 ?e2 ?e3 ..
   (case e1=>PySem.W.k_is)
   (case e2=>PySem.W.k_is)
   ..
  obtain⟨t,T⟩:=T
  have e0:=hmg.symm.trans (PySem.W.mg_of KX G T.law)
  cases e0
  exact⟨_,fun s u=>.of_eq rfl,fun base kb nb=>My.law_fn T kb nb⟩
 case S=>exact fun w H a ns hl hO hS=>..
 case C=>exact ..
(the tactic k_is has no namespace: write k_is) -/
namespace L2
open PySem PySem.Spec PyProof.Rows
noncomputable def du (s:Stmt):Arguments:=match s with
 | .FunctionDef _ a _ _ _ _ _ _ _ _=>a
 | _=>{ posonlyargs:=[],args:=[],vararg:=none,kwonlyargs:=[],kw_defaults:=[],kwarg:=none,defaults:=[] }
noncomputable def cY (s:Stmt):List Stmt:=match s with
 | .FunctionDef _ _ b _ _ _ _ _ _ _=>b
 | _=>[]
noncomputable def aC (s:Stmt):Scope:=match s with
 | .FunctionDef _ _ _ _ _ _ sc _ _ _=>sc
 | _=>{ kind:=.function,names:=[],isGenerator:=false,isCoroutine:=false }
noncomputable abbrev CX0:CXT:=fun _ _ _ _ _ _=>False
noncomputable abbrev E0:XK:=fun _ _ _=>False
theorem vi {X:Cx}:i9 CX0 X E0:=fun _ _ _ _ _ _ _ h=>h.elim
structure Fun (K:PySem.W.Frag) (x qual:Str) (st:Stmt) (f:Addr) (fd:FuncData):Prop where
 ex:∃(oc:Value) (od:Option Addr) (kV doc pm:Value) (an:Option Addr) (cdv ct:Value) (osl:Array (Option Value)),
  fd=PySem.W.fnOf x qual (du st) (cY st) (aC st) .none kV doc pm an cdv ct/\K.lookup f=some ⟨oc,od,.func fd,osl⟩/\PySem.W.codeIn K cdv qual=true
 kp:PySem.W.keepIn K (.ref f)=true
section
variable {P:Program}{w:World}{K:PySem.W.Frag}{mg:Str->Option Value}{base:Heap}
theorem Fun.ok {x qual:Str}{st:Stmt}{f:Addr}{fd:FuncData}{N ps:List Str}{k:Nat}{sp:Sp} (F:Fun K x qual st f fd) (S:aP N ps (aC st)) (len:∀vs H Q E,sp vs H Q E->vs.length=ps.length)
  (hbody:∀(cdv:Value) (A:Around) (outer:List Env) (s:Shared) (H:Hp) (vs:List V) (Q:VK) (E:XK),aN k (A.deeper (envOfC qual (aC st) s.heap.objs.size f cdv))->sp vs H Q E ->
   ∃t,PSs (fi CX0 P w K mg base N qual (aC st) f cdv A outer s H E).nox (cY st) t/\t { nx:=fun _ H'=>Q .non H',rt:=Q } (start N vs) H):aG P w K mg base CX0 (k + 1) f fd ps sp:=by
 obtain⟨oc,od,kV,doc,pm,an,cdv,ct,osl,rfl,lk,hcd⟩:=F.ex
 refine vL lk hcd S len fun A outer s H vs Q E hr hsp=>?_
 obtain⟨t,h,q⟩:=hbody cdv A outer s H vs Q E hr hsp
 exact⟨t,h.nox,q⟩
theorem Fun.binds {x qual:Str}{st:Stmt}{f:Addr}{fd:FuncData}{ps:List Str} (F:Fun K x qual st f fd)
  (h:∀(kV doc pm:Value) (an:Option Addr) (cdv ct:Value) (us:List Value),us.length=ps.length->bindArgs (PySem.W.fnOf x qual (du st) (cY st) (aC st) .none kV doc pm an cdv ct) ⟨us,[]⟩=pure (ps.zip us)):Binds K fd ps []:=by
 obtain⟨oc,od,kV,doc,pm,an,cdv,ct,osl,rfl,lk,hcd⟩:=F.ex
 exact .all (h kV doc pm an cdv ct)
theorem mG {x qual:Str}{st:Stmt}{f:Addr}{oc:Value}{od an:Option Addr}{osl:Array (Option Value)}{kV doc pm cdv ct:Value} (l:K.lookup f=some ⟨oc,od,.func (PySem.W.fnOf x qual (du st) (cY st) (aC st) .none kV doc pm an cdv ct),osl⟩)
  (c:PySem.W.codeIn K cdv qual=true) (k:PySem.W.keepIn K (.ref f)=true):Fun K x qual st f (PySem.W.fnOf x qual (du st) (cY st) (aC st) .none kV doc pm an cdv ct):=⟨⟨oc,od,kV,doc,pm,an,cdv,ct,osl,rfl,l,c⟩,k⟩
end
theorem pQ {n:Nat} (h:n<=1000):n < sizeLine:=Nat.lt_of_le_of_lt h (by decide)
section
variable {X:Cx}
theorem pv (i:Nat) {x:Str}{pos:Pos} (hN:X.N[i]?=some x:=by rfl) (hv:Vis X.env.scope x:=by first | exact Or.inl rfl | exact Or.inr (Or.inl rfl) | exact Or.inr (Or.inr rfl)) (hd:(x == ("__debug__":Str))=false:=by decide)
  (hcd:(x == ("__classdict__":Str))=false:=by decide):PE X (.Name x pos) (nR i):=uk hN hv hd hcd
end
theorem bb {A B:Prop} (h:B):if false=true then A else B:=by
 rw [if_neg Bool.false_ne_true]
 exact h
theorem bJ {A B:Prop} (h:A):if true=true then A else B:=by
 rw [if_pos rfl]
 exact h
theorem be {c A B:Prop} [Decidable c] (h1:c->A) (h2:¬ c->B):if c then A else B:=by
 by_cases h:c
 ·rw [if_pos h]
  exact h1 h
 ·rw [if_neg h]
  exact h2 h
theorem fR {c A B:Prop} [Decidable c] (hc:c) (h:B):if (!decide c)=true then A else B:=by
 rw [decide_eq_true hc]
 exact bb h
noncomputable def af (H H':Hp):Prop:=∀b o,H b=some o->H' b=some o
theorem af.refl (H:Hp):af H H:=fun _ _ h=>h
theorem af.trans {H H1 H2:Hp} (a:af H H1) (b:af H1 H2):af H H2:=fun c o h=>b c o (a c o h)
theorem af.free {H H':Hp} (e:af H H') {l:Addr} (h:H' l=Option.none):H l=Option.none:=by
 cases q:H l with
 | none=>rfl
 | some o =>
  rw [e l o q] at h
  cases h
theorem af.seq {K:PySem.W.Frag}{H H':Hp}{a:Addr}{xs:List V} (e:af H H') (h:SqL K H a xs):SqL K H' a xs:=by
 rcases h with (h | ⟨o,h⟩) | h
 ·exact .inl (.inl (e _ _ h))
 ·exact .inl (.inr ⟨o,e _ _ h⟩)
 ·exact .inr h
noncomputable def bo (env:Env):List (Str×NameKind)->List (Str×Addr)->List (Str×Addr)
 | [],acc=>acc
 | (x,k)::r,acc=>if (k == NameKind.free)=true then (match env.cells.lookup x with | some c=>bo env r ((x,c)::acc) | none=>bo env r acc) else bo env r acc
theorem fZ (env:Env):∀(ns:List (Str×NameKind)) (acc:List (Str×Addr)) (x:Str) (c:Addr),(x,c)∈bo env ns acc->(x,c)∈acc\/env.cells.lookup x=some c
 | [],acc,x,c,h=>.inl h
 | (y,k)::r,acc,x,c,h=>by
  unfold bo at h
  split at h
  ·split at h
   ·next d e =>
    rcases fZ env r _ x c h with z | z
    ·rcases List.mem_cons.mp z with q | q
     ·cases q;exact .inr e
     ·exact .inl q
    ·exact .inr z
   ·exact fZ env r acc x c h
  ·exact fZ env r acc x c h
theorem gm (env:Env):∀(ns:List (Str×NameKind)) (acc:List (Str×Addr)) (p:Str×Addr),p∈acc->p∈bo env ns acc
 | [],acc,p,h=>h
 | (y,k)::r,acc,p,h=>by
  unfold bo
  split
  ·split
   ·exact gm env r _ p (List.mem_cons_of_mem _ h)
   ·exact gm env r _ p h
  ·exact gm env r _ p h
theorem gr (env:Env):∀(ns:List (Str×NameKind)) (acc:List (Str×Addr)) (x:Str) (c:Addr),(x,NameKind.free)∈ns->env.cells.lookup x=some c->(x,c)∈bo env ns acc
 | [],acc,x,c,h,_=>nomatch h
 | (y,k)::r,acc,x,c,h,e=>by
  unfold bo
  rcases List.mem_cons.mp h with q | q
  ·cases q
   rw [if_pos (show (NameKind.free == NameKind.free)=true from rfl),e]
   exact gm env r _ _ List.mem_cons_self
  ·split
   ·split
    ·exact gr env r _ x c q e
    ·exact gr env r _ x c q e
   ·exact gr env r _ x c q e
theorem rF {l:List (Str×Addr)}{x:Str}{c:Addr} (h:(x,c)∈l):∃d,l.lookup x=some d:=by
 induction l with
 | nil=>cases h
 | cons p r ih =>
  obtain⟨y,d⟩:=p
  rw [List.lookup_cons]
  cases hx:x == y with
  | true=>exact⟨d,rfl⟩
  | false =>
   rcases List.mem_cons.mp h with q | q
   ·cases q
    rw [beq_self_eq_true] at hx
    cases hx
   ·exact ih q
theorem cq {env:Env}{ns:List (Str×NameKind)}{x:Str}{c:Addr} (h:(bo env ns []).lookup x=some c):env.cells.lookup x=some c:=by
 rcases fZ env ns [] x c (PySem.mem_of_lookup h) with z | z
 ·cases z
 ·exact z
theorem gf {env:Env}{ns:List (Str×NameKind)}{x:Str}{c:Addr} (h:(x,NameKind.free)∈ns) (e:env.cells.lookup x=some c):(bo env ns []).lookup x=some c:=by
 obtain⟨d,q⟩:=rF (gr env ns [] x c h e)
 rw [q,<- cq q,e]
theorem j0 {env:Env}{scope:Scope} (h:∀x∈scope.names,x.2=NameKind.free->∃c,env.cells.lookup x.1=some c):closureFor scope env=pure (bo env scope.names []):=by
 have go:∀(ns:List (Str×NameKind)) (acc:List (Str×Addr)),(∀x∈ns,x.2=NameKind.free->∃c,env.cells.lookup x.1=some c) ->
   (forIn ns acc (fun x cs=>match x with | (name,kind)=>if (kind == NameKind.free)=true then (do let c <- cellOf env name;pure (ForInStep.yield ((name,c)::cs))) else pure (ForInStep.yield cs)):Sem (List (Str×Addr)))=pure (bo env ns acc):=by
  intro ns
  induction ns with
  | nil=>intro acc _;rfl
  | cons p r ih =>
   intro acc hh
   obtain⟨y,k⟩:=p
   rw [List.forIn_cons]
   unfold bo
   by_cases hk:(k == NameKind.free)=true
   ·rw [if_pos hk]
    obtain⟨c,e⟩:=hh (y,k) List.mem_cons_self (by cases k <;> first | rfl | cases hk)
    dsimp only at e ⊢
    rw [if_pos hk]
    unfold cellOf
    rw [e]
    exact ih _ fun x hx=>hh x (List.mem_cons_of_mem _ hx)
   ·rw [if_neg hk]
    dsimp only
    rw [if_neg hk]
    exact ih _ fun x hx=>hh x (List.mem_cons_of_mem _ hx)
 unfold closureFor
 have q:=go scope.names [] h
 simp only [bind_pure]
 exact q
noncomputable def au (X:Cx) (scope:Scope) (N:List Str) (C:Addr) (s0:Shared) (H0:Hp) (fp:List Addr):Cx :=
 { X with N:=N,s₀:=s0,H₀:=H0,env:=compEnvC scope (bo X.env scope.names []) C X.env,outer:=X.stack,stack:=X.stack,ex:=fp,fn:=fun _=>false,pn:=[],xe:=fun _ _=>False }
noncomputable def emb (ix:List (Option Nat)) (σ:St):St:=ix.map fun o=>match o with | none=>none | some j=>(σ[j]?).join
noncomputable def fe (No:List Str) (out:Str->Option NameKind) (scope:Scope) (N:List Str) (ix:List (Option Nat)):Bool :=
 (N.length == ix.length) && (N.zip ix).all fun p=>match p.2 with | none=>true | some j=>(No[j]? == some p.1) && (scope.names.lookup p.1 == some NameKind.free) && ((out p.1 == some .cell) || (out p.1 == some .free))
structure bz (X:Cx) (scope:Scope) (N:List Str) (ix:List (Option Nat)):Prop where
 kind:scope.kind=.function
 names:scope.names.all (fun x=>(x.2 != .cell) && ((x.2 != .local) || (scope.names.lookup x.1 == some .local)) && ((x.2 != .free) || (X.env.kindOf x.1 == some .cell) || (X.env.kindOf x.1 == some .free)))=true
 em:fe X.N X.env.kindOf scope N ix=true
 nd:N.Nodup
theorem jo {scope:Scope}{env:Env}{x:Str}{k:NameKind}:∀{ns:List (Str×NameKind)},(ns.map fun (n,k)=>if (k == NameKind.free && env.scope.kind == .function && env.kindOf n == some .cell)=true then (n,NameKind.cell) else (n,k)).lookup x=some k ->
  (k=.cell\/k=.free)->(∀y∈ns,y.2≠.cell)->(x,NameKind.free)∈ns
 | [],h,_,_=>by cases h
 | (n,k')::r,h,hk,hc=>by
  have ih:=fun h'=>jo (scope:=scope) (env:=env) (x:=x) (k:=k) (ns:=r) h' hk fun y hy=>hc y (List.mem_cons_of_mem _ hy)
  have key:∀k'':NameKind,List.lookup x ((n,k'')::(r.map fun (n,k)=>if (k == NameKind.free && env.scope.kind == .function && env.kindOf n == some .cell)=true then (n,NameKind.cell) else (n,k)))=some k ->
    (k''=k'\/(k''=.cell/\k'=.free))->(x,NameKind.free)∈(n,k')::r:=fun k'' h hq=>by
   rw [List.lookup_cons] at h
   cases hx:x == n with
   | true =>
    rw [hx] at h
    cases h
    have e:x=n:=eq_of_beq hx
    subst e
    rcases hq with q | ⟨_,q⟩
    ·rcases hk with z | z
     ·exact absurd (q.symm.trans z) (hc (x,k') List.mem_cons_self)
     ·rw [<- q,z];exact List.mem_cons_self
    ·rw [q];exact List.mem_cons_self
   | false =>
    rw [hx] at h
    exact List.mem_cons_of_mem _ (ih h)
  rw [List.map_cons] at h
  dsimp only at h
  split at h
  ·next hh =>
   refine key _ h (.inr ⟨rfl,?_⟩)
   cases k' <;> first | rfl | (simp at hh)
  ·exact key _ h (.inl rfl)
theorem ja {env:Env}{x:Str}:∀{ns:List (Str×NameKind)},ns.lookup x=some NameKind.free->∃k,(k=NameKind.cell\/k=NameKind.free) /\
  (ns.map fun (n,k)=>if (k == NameKind.free && env.scope.kind == .function && env.kindOf n == some .cell)=true then (n,NameKind.cell) else (n,k)).lookup x=some k
 | [],h=>by cases h
 | (n,k')::r,h=>by
  rw [List.lookup_cons] at h
  rw [List.map_cons]
  dsimp only
  cases hx:x == n with
  | true =>
   rw [hx] at h
   cases h
   split
   ·exact⟨_,.inl rfl,by rw [List.lookup_cons,hx]⟩
   ·exact⟨_,.inr rfl,by rw [List.lookup_cons,hx]⟩
  | false =>
   rw [hx] at h
   obtain⟨k,hk,e⟩:=ja (env:=env) (ns:=r) h
   refine⟨k,hk,?_⟩
   split <;> (rw [List.lookup_cons,hx];exact e)
section
variable {X:Cx}{scope:Scope}{N:List Str}{ix:List (Option Nat)}
theorem bz.nocell (L:bz X scope N ix):∀x∈scope.names,x.2≠.cell:=fun x hx z=>by
 have q:=List.all_eq_true.mp L.names x hx
 rw [z] at q
 simp at q
theorem bz.locals (L:bz X scope N ix):∀x∈scope.names,x.2=.local->scope.names.lookup x.1=some .local:=fun x hx z=>by
 have q:=List.all_eq_true.mp L.names x hx
 rw [z] at q
 simpa using q
theorem bz.frees (L:bz X scope N ix):∀x∈scope.names,x.2=.free->X.env.kindOf x.1=some .cell\/X.env.kindOf x.1=some .free:=fun x hx z=>by
 have q:=List.all_eq_true.mp L.names x hx
 rw [z] at q
 simpa using q
theorem bz.clos (L:bz X scope N ix) (ok:X.Ok):closureFor scope X.env=pure (bo X.env scope.names []) :=
 j0 fun x hx z=>ok.has _ (L.frees x hx z)
theorem bz.len (L:bz X scope N ix):N.length=ix.length:=by
 have q:=L.em
 unfold fe at q
 rw [Bool.and_eq_true] at q
 exact eq_of_beq q.1
theorem bz.out (L:bz X scope N ix) {i j:Nat}{x:Str} (h1:N[i]?=some x) (h2:ix[i]?=some (some j)):X.N[j]?=some x/\scope.names.lookup x=some NameKind.free/\(X.env.kindOf x=some .cell\/X.env.kindOf x=some .free):=by
 have q:=L.em
 unfold fe at q
 rw [Bool.and_eq_true] at q
 have hz:(N.zip ix)[i]?=some (x,some j):=by
  rw [List.getElem?_zip_eq_some]
  exact⟨h1,h2⟩
 have r:=List.all_eq_true.mp q.2 _ (List.mem_of_getElem? hz)
 simp only [Bool.and_eq_true,Bool.or_eq_true,beq_iff_eq] at r
 exact⟨r.1.1,r.1.2,r.2⟩
theorem vD (L:bz X scope N ix) {pins:List (Addr×Obj)}{σ:St}{H2:Hp}{s2:Shared}{C:Addr}{fp:List Addr} (I2:Inv X pins σ H2 s2) (hC:s2.heap.objs.size<=C) (hf:∀b∈fp,aY X pins H2 b) (hb:∀b∈fp,b < s2.heap.objs.size) :
  (au X scope N C s2 H2 fp).Ok where
 mod:=I2.ok.mod
 kind:=L.kind
 glob:=I2.ok.glob
 blt:=I2.ok.blt
 above:=hC
 inj:=fun x y c h1 h2=>I2.ok.inj x y c (cq h1) (cq h2)
 has:=fun x hx=>by
  have hm:(x,NameKind.free)∈scope.names:=by
   rcases hx with hx | hx
   ·exact jo (scope:=scope) (env:=X.env) hx (.inl rfl) L.nocell
   ·exact jo (scope:=scope) (env:=X.env) hx (.inr rfl) L.nocell
  obtain⟨c,e⟩:=I2.ok.has x (L.frees _ hm rfl)
  exact⟨c,gf hm e⟩
 cab:=fun x c h _=>Bool.noConfusion h
 hd:=I2.ok.hd
 frames:=I2.ok.frames
 stk:=.inl rfl
 exf:=fun b h=>⟨Nat.ne_of_lt (Nat.lt_of_lt_of_le (hb b h) hC),fun x c e=>(hf b h).2.2.2.2.1 x c (cq e)⟩
 bs:=fun b o e=>I2.bs b o e
 bsz:=Nat.le_trans I2.ok.bsz I2.sz
 noex:=fun b o e h=>by
  rcases (hf b h).2.2.2.1 with z | z
  ·exact I2.ok.noex b o e z
  ·exact absurd (Nat.lt_of_lt_of_le (Heap.lt_size e) (Nat.le_trans I2.ok.bsz z)) (Nat.lt_irrefl _)
 exfs:=fun b h z=>(List.mem_cons.mp (I2.stkSub b z)).elim (hf b h).2.1 (hf b h).2.2.1
 funs:=I2.stack
 frf:=fun b h=>I2.stkFree b h
end
noncomputable def PTs (X:Cx) (ifs:List Expr) (t:TT):Prop :=
 ∀(pins:List (Addr×Obj)) (s:Shared) (σ:St) (H:Hp) (Q:Bool->Hp->Prop),Inv X pins σ H s->t σ H Q ->
  wpAny (model X.prog X.w) X.A (forIn ifs true fun c r=>if r=true then do let ok <- isTrue c X.env (eval c X.env);pure (ForInStep.yield ok) else pure (ForInStep.yield r)) (TP X pins σ Q) X.xe s
noncomputable def bQ:TT:=fun _ H Q=>Q true H
theorem bc {X:Cx}:PTs X [] bQ:=fun _ _ _ H _ I h=>wpAny_tests_nil ⟨H,I,h⟩
theorem cu {X:Cx}{c:Expr}{t:TT} (h:PT X c t):PTs X [c] t:=fun pins s σ H Q I q=>wpAny_tests_one (h pins s σ H Q I q)
section
variable {prog:Program}{w:World}{A:Around}{R:Result->Shared->Prop}{s:Shared}
theorem lI {elt tg iter:Expr}{ifs:List Expr}{scope:Scope}{pos:Pos}{it acc:Value}{env:Env} (J:Nat->Shared->Prop)
  (turn:∀n s,J n s->wpAny (model prog w) A (pyNext it) (fun r s1=>match r with
   | none=>R (.ok .next) s1
   | some v=>wpAny (model prog w) A (letOwnedTupleGo tg it v) (fun _ s2=>wpAny (model prog w) A (assign tg env v) (fun _ s3 =>
     wpAny (model prog w) A (forIn ifs true fun c r=>if r=true then do let ok <- isTrue c env (eval c env);pure (ForInStep.yield ok) else pure (ForInStep.yield r)) (fun ok s4 =>
      if ok=true then wpAny (model prog w) A (eval elt env) (fun x s5=>wpAny (model prog w) A (call (.builtin "list.append") [acc,x]) (fun _ s6=>∃m,m < n/\J m s6) (fun _ _=>False) s5) (fun _ _=>False) s4
      else ∃m,m < n/\J m s4) (fun _ _=>False) s3) (fun _ _=>False) s2) (fun _ _=>False) s1) (fun _ _=>False) s)
  (n:Nat) (h:J n s):codeAny (model prog w) A (.compLoop (.ListComp elt [⟨tg,iter,ifs,0⟩] scope pos) 0 it acc env) R s:=by
 refine codeAny_loop rfl J (fun k t hJ=>?_) n h
 show wpAny _ A ((compTurn (.ListComp elt [⟨tg,iter,ifs,0⟩] scope pos) 0 it acc env).onRaise (fun x=>do noteFrame x env;theTreesLotGoes x)) _ _ t
 refine wpAny_noted (wpAny_mono (E:=fun _ _=>False) ?_ (fun _ _ q=>q) fun _ _ f=>f.elim)
 rw [compTurn_list]
 refine wpAny_bind (wpAny_standAt (wpAny_bind (thn (turn k t hJ) fun r s1 h1=>?_)))
 cases r with
 | none=>exact wpAny_pure h1
 | some v =>
  refine wpAny_bind (thn h1 fun _ s2 h2=>wpAny_bind (thn h2 fun _ s3 h3=>wpAny_bind (thn h3 fun ok s4 h4=>?_)))
  cases ok with
  | false=>exact wpAny_pure ⟨rfl,h4⟩
  | true=>exact wpAny_bind (wpAny_bind (thn h4 fun x s5 h5=>wpAny_bind (thn h5 fun _ s6 h6=>wpAny_pure (wpAny_pure ⟨rfl,h6⟩))))
end
noncomputable def LcW (J:It) (g:TG) (tt:TT) (te:TE) (σ':St) (fin:List V->Hp->Prop) (H1:Hp):Prop :=
 ∃W:Nat->Nat->List V->St->Hp->Prop,(∃m,W 0 m [] σ' H1)/\∀i m ys σ H,W i m ys σ H ->
  (J.stop i H/\ys.length<=sizeLine/\fin ys H)\/(J.go i H/\ys.length < sizeLine/\∃Nx:List V->St->Hp->Prop,(∀ys' σ' H',Nx ys' σ' H'->∃m',m' < m/\W (i + 1) m' ys' σ' H') /\
   ∀x H',J.yld i H x H'->g x σ H' fun σ2 H2=>tt σ2 H2 fun b H3=>if b=true then te σ2 H3 (fun v H4=>Nx (ys++[v]) σ2 H4) else Nx ys σ2 H3)
noncomputable def tLc (wi:TI) (g:TG) (tt:TT) (te:TE) (ix:List (Option Nat)):TE:=fun σ H Q=>wi σ H fun J H1=>LcW J g tt te (emb ix σ) (fun ys H'=>∀p,H' p=none->Q (.ref p) (upd H' p (.lst ys))) H1
section
variable {X:Cx}{scope:Scope}{N:List Str}{ix:List (Option Nat)}
theorem mS {pins pins':List (Addr×Obj)}{σ σ':St}{H2 H':Hp}{s2 s':Shared}{C D:Addr}{fp:List Addr}{ys:List V}{its:List Value}{k:Nat}{h':Heap} (I2:Inv X pins σ H2 s2) (hf:∀b∈fp,aY X pins H2 b)
  (I':Inv (au X scope N C s2 H2 fp) pins' σ' H' s') (hC:s2.heap.objs.size<=C) (hD:s2.heap.objs.size<=D) (hDC:D≠C) (hn:H' D=none) (ho:s'.heap.get? D=some { cls:=.type "list",data:=.seq its.toArray k }) (rv:av ys its) (hz:ys.length<=sizeLine)
  (hs:∀b o,b≠C->s'.heap.get? b=some o->h'.get? b=some o):Inv X pins σ (upd H' D (.lst ys)) { s' with heap:=h' }:=by
 have B:Un (frs X.stack) fp H2 H' s2.heap s'.heap:=I'.base
 have neC:∀b o,s2.heap.get? b=some o->b≠C:=fun b o e=>Nat.ne_of_lt (Nat.lt_of_lt_of_le (Heap.lt_size e) hC)
 have neD:∀b o,s2.heap.get? b=some o->b≠D:=fun b o e=>Nat.ne_of_lt (Nat.lt_of_lt_of_le (Heap.lt_size e) hD)
 have hCn:H' C=none:=I'.free
 have tD:∀b u,H' b=some u->b≠D:=fun b u e=>aV e hn
 have tC:∀b u,H' b=some u->b≠C:=fun b u e=>aV e hCn
 refine I2.call' (s':={ s' with heap:=h' }) (ch:=fp) I'.os ⟨fun b o e n hb hx=>?_,fun b o e n hb hx=>?_,fun b o e n hx=>?_,fun b o e hx=>?_,fun b xs e=>?_,fun b o u e=>?_,fun b ps e=>?_⟩ (fun b u e=>?_) I'.bare fun b hb=>⟨(hf b hb).2.2.2.1,(hf b hb).2.1,(hf b hb).2.2.2.2.1,(hf b hb).2.2.2.2.2⟩
 ·exact hs b o (neC b o e) (B.keep b o e n hb hx)
 ·obtain⟨sl,q⟩:=B.slot b o e n hb hx
  exact⟨sl,hs b _ (neC b o e) q⟩
 ·rw [aj (neD b o e)];exact B.free b o e n hx
 ·obtain⟨o',q⟩:=B.there b o e hx
  exact⟨o',hs b o' (neC b o e) q⟩
 ·rw [aj (tD b _ (B.tups b xs e))];exact B.tups b xs e
 ·rw [aj (tD b _ (B.frzs b o u e))];exact B.frzs b o u e
 ·obtain⟨m,q⟩:=B.tbls b ps e
  exact⟨m,by rw [aj (tD b _ q)];exact q⟩
 ·by_cases hb:b=D
  ·subst hb
   rw [ag] at e
   cases e
   exact⟨hz,its,k,rv,hs b _ hDC ho⟩
  ·rw [aj hb] at e
   refine (I'.hok b u e).stay (fun c v hc q=>hs c v ?_ q) (fun c q=>by rw [aj (tD c _ q)];exact q) fun c xs q=>by rw [aj (tD c _ q)];exact q
   rcases hc with z | z
   ·rw [z];exact tC b u e
   ·exact tC c _ z
theorem gO (L:bz X scope N ix) {pins:List (Addr×Obj)}{σ:St}{H2:Hp}{s2:Shared}{C:Addr}{fp:List Addr}{h1:Heap}{tk:Nat}{m:Str->Option Value} (I2:Inv X pins σ H2 s2) (hC:s2.heap.objs.size<=C) (hf:∀b∈fp,aY X pins H2 b) (hb:∀b∈fp,b < s2.heap.objs.size)
  (kp:∀b o,s2.heap.get? b=some o->h1.get? b=some o) (hn:h1.Ns C m):Inv (au X scope N C s2 H2 fp) [] (emb ix σ) H2 { s2 with heap:=h1,toks:=tk }:=by
 refine⟨vD L I2 hC hf hb,rfl,I2.bare,Un.kept kp,⟨m,hn,fun i x v e1 e2 e3=>?_⟩,fun x c e=>?_,I2.hok.fresh hC,fun x c e=>I2.freeC x c (cq e),fun p hp=>absurd (show p∈([]:List (Addr×Obj)) from hp) (by simp),I2.hok.kept kp,?_⟩
 ·unfold emb at e2
  rw [List.getElem?_map] at e2
  cases q:ix[i]? with
  | none=>rw [q] at e2;cases e2
  | some o =>
   rw [q] at e2
   cases o with
   | none=>cases e2
   | some j =>
    have e2':(σ[j]?).join=some v:=Option.some.inj e2
    have e4:σ[j]?=some (some v):=by
     cases z:σ[j]? with
     | none=>rw [z] at e2';cases e2'
     | some y=>rw [z] at e2';exact congrArg some e2'
    obtain⟨a1,a2,a3⟩:=L.out e1 q
    obtain⟨mo,_,hl⟩:=I2.loc
    obtain⟨u,r,lk⟩:=hl j x v a1 e4 (.inr a3)
    refine⟨u,r,?_⟩
    rcases lk with ⟨k,_⟩ | ⟨k,c,e,o,ho,hd⟩
    ·rcases a3 with z | z
     ·rw [z] at k;cases k
     ·rw [z] at k;cases k
    ·obtain⟨k',hk',e'⟩:=ja (env:=X.env) a2
     refine .inr ⟨?_,c,gf (PySem.mem_of_lookup a2) e,o,kp _ _ ho,hd⟩
     rcases hk' with z | z
     ·subst z;exact .inl e'
     ·subst z;exact .inr e'
 ·obtain⟨v,o,ho,hd⟩:=I2.cell x c (cq e)
  exact⟨v,o,kp _ _ ho,hd⟩
 ·unfold emb
  rw [List.length_map]
  exact L.len.symm
variable {tg iter elt:Expr}{ifs:List Expr}{pos:Pos}{g:TG}{tt:TT}{te:TE}
theorem mW (L:bz X scope N ix) (hc:X.calm=true) (hg:∀C s0 H0 fp,PG (au X scope N C s0 H0 fp) tg g) (ht:∀C s0 H0 fp,PTs (au X scope N C s0 H0 fp) ifs tt) (he:∀C s0 H0 fp,PE (au X scope N C s0 H0 fp) elt te)
  {pins:List (Addr×Obj)}{σ:St}{H2:Hp}{s2:Shared}{it:Addr}{fp:List Addr}{tn:Nat->Heap->Prop}{J:It}{fin:List V->Hp->Prop}{E:Value->Shared->Prop}{RR:Value->Addr->Result->Shared->Prop}
  (I2:Inv X pins σ H2 s2) (T:Turn X.prog X.w X.K tg J fp it tn) (st:tn 0 s2.heap) (f2:∀b∈fp,aY X pins H2 b) (hW:LcW J g tt te (emb ix σ) fin H2)
  (hRR:∀D C s' m ys H',s'.heap.Ns C m->s'.os=s2.os->D≠C->aY X pins (upd H' D (.lst ys)) C->(∀h',Heap.SameBut C s'.heap h'->Inv X pins σ (upd H' D (.lst ys)) { s' with heap:=h' })->H' D=none->fin ys H'->RR (.ref D) C (.ok .next) s') :
  wpAny (model X.prog X.w) X.A (newList []) (fun acc s3=>wpAny (model X.prog X.w) X.A (newFunctionEnv scope X.env.globals (bo X.env scope.names []) [] X.env.qual none .none (some X.env)) (fun cenv s4 =>
   codeAny (model X.prog X.w) X.A (.compStart (.ListComp elt [⟨tg,iter,ifs,0⟩] scope pos) 0 (.ref it) acc { cenv with scope:=relabel scope X.env }) (RR acc cenv.locals) s4) E s3) E s2:=by
 obtain⟨W,⟨m0,w0⟩,turn⟩:=hW
 have hb2:∀b∈fp,b < s2.heap.objs.size:=fun b hb=>by
  obtain⟨o,e,_⟩:=T.obj _ _ st b hb
  exact Heap.lt_size e
 refine wpAny_newObj_type (wpAny_newFunctionEnv L.nocell (by intro y hy;simp at hy) (fun h1 hns hsb=>?_) L.kind)
 dsimp only at hns hsb ⊢
 generalize hG:s2.heap.push { cls:=.type "list",dict:=none,data:=.seq ([]:List Value).toArray }=G at hns hsb ⊢
 have hGs:G.objs.size=s2.heap.objs.size + 1:=by rw [<- hG,Heap.size_push]
 generalize hDe:s2.heap.objs.size=D at hGs hb2
 generalize hCe:G.objs.size=C at hGs hns hsb ⊢
 have hDC:D≠C:=by omega
 have nq:∀b:Nat,b < s2.heap.objs.size->b≠C/\b≠D:=fun b h=>⟨by omega,by omega⟩
 have nq2:∀b∈fp,b≠C/\b≠D:=fun b hb=>nq b (by rw [hDe];exact hb2 b hb)
 have kG:∀b o,s2.heap.get? b=some o->G.get? b=some o:=fun b o e=>by rw [<- hG];exact Heap.get?_push_of_some _ e
 have kp:∀b o,s2.heap.get? b=some o->h1.get? b=some o:=fun b o e=>hsb.extBut b o (nq b (Heap.lt_size e)).1 (Heap.get?_push_of_some _ (kG b o e))
 have oD:∃n,h1.get? D=some { cls:=.type "list",data:=.seq ([]:List Value).toArray n }:=⟨_,hsb.extBut _ _ hDC (Heap.get?_push_of_some _ (by rw [<- hG,<- hDe];exact Heap.get?_push_size _ rfl))⟩
 have I4:=gO L (tk:=s2.toks + ([]:List (Str×Value)).length) I2 (C:=C) (by omega) f2 (by rw [hDe];exact hb2) kp hns
 have st4:tn 0 h1:=T.keep _ _ _ st fun b _ o e=>kp b o e
 have hDf:D∉(au X scope N C s2 H2 fp).fs:=fun z=>by
  have z':D∈frs X.stack:=z
  rcases List.mem_cons.mp (I2.stkSub D z') with q | q
  ·exact (nq _ I2.lt).2 q.symm
  ·exact I2.nofs (a:=D) (by omega) q
 have cellD:∀x c,(au X scope N C s2 H2 fp).env.cells.lookup x=some c->c≠D:=fun x c e z=>by
  obtain⟨v,o,ho,_⟩:=I2.cell x c (cq e)
  exact (nq c (Heap.lt_size ho)).2 z
 have stat:∀{H':Hp}{pl:List (Addr×Obj)},(∀b∈fp,H' b=none)->(∀p∈pl,p.1=D)->∀b∈fp,aY (au X scope N C s2 H2 fp) pl H' b:=fun {H' pl} hn hp b hb=>by
  have hlt:=hb2 b hb
  refine⟨hn b hb,(nq2 b hb).1,fun z=>?_,.inl hb,fun x c e=>(f2 b hb).2.2.2.2.1 x c (cq e),fun p hq z=>?_⟩
  ·exact (List.mem_cons.mp (I2.stkSub b z)).elim (f2 b hb).2.1 (f2 b hb).2.2.1
  ·have hq':p∈pl:=by simpa [au] using hq
   exact (nq2 b hb).2 (z.symm.trans (hp p hq'))
 have pinD:∀{pl:List (Addr×Obj)}{σ':St}{H':Hp}{s':Shared}{o:Obj},Inv (au X scope N C s2 H2 fp) pl σ' H' s'->s'.heap.get? D=some o->H' D=none->(∀v,o.data≠.cell v)->Inv (au X scope N C s2 H2 fp) [(D,o)] σ' H' s' :=
  fun {pl σ' H' s' o} I' ho hn hd=>I'.pins_of fun p hp=>by
   have e:p=(D,o):=by simpa using hp
   subst e
   exact⟨ho,hn,hDC,hDf,hd⟩
 have loop:∀s4:Shared,s4={ s2 with heap:=h1,toks:=s2.toks + ([]:List (Str×Value)).length } ->
   codeAny (model X.prog X.w) X.A (.compLoop (.ListComp elt [⟨tg,iter,ifs,0⟩] scope pos) 0 (.ref it) (.ref D) (au X scope N C s2 H2 fp).env) (RR (.ref D) C) s4:=by
  rintro s4 rfl
  refine lI (fun n s'=>∃i σ' H' ys its k,Inv (au X scope N C s2 H2 fp) [(D,{ cls:=.type "list",data:=.seq its.toArray k })] σ' H' s'/\tn i s'.heap/\(∀b∈fp,H' b=none)/\av ys its/\W i n ys σ' H') ?_ m0 ?_
  ·rintro n s' ⟨i,σ',H',ys,its,k,I',st',fr',rv,w'⟩
   have hD':=I'.pin _ (List.mem_append_right _ List.mem_cons_self)
   rcases turn i n ys σ' H' w' with ⟨stop,hz,qf⟩ | ⟨go,hz,Nx,hN,step⟩
   ·refine thn (T.done (au X scope N C s2 H2 fp) rfl rfl rfl hc i _ s' σ' H' _ I' (stat fr' (by simp)) st' stop) fun r s5 ⟨hr,I5⟩=>?_
    subst hr
    have hD5:=I5.pin _ (List.mem_append_right _ List.mem_cons_self)
    obtain⟨m5,hn5,_⟩:=I5.loc
    refine hRR D C s5 m5 ys H' hn5 I5.os hDC (I2.fpOk (by omega) (by rw [aj (Ne.symm hDC)];exact I5.free)) (fun h' hs'=>?_) hD5.2.1 qf
    exact mS I2 f2 I5 (by omega) (by omega) hDC hD5.2.1 hD5.1 rv hz fun b o hb e=>hs'.extBut b o hb e
   ·refine thn (T.item (au X scope N C s2 H2 fp) rfl rfl rfl hc i _ s' σ' H' _ I' (stat fr' (by simp)) st' go) fun r s5 ⟨u,hr,h5⟩=>?_
    subst hr
    refine thn h5 fun _ s6 ⟨x,H6,I6,r6,y6,st6,fr6⟩=>?_
    have I6':=I6.pinned (stat fr6 (by simp)) (T.obj _ _ st6)
    refine thn (hg C s2 H2 fp _ s6 σ' H6 x u _ I6' r6 (step x H6 y6)) fun _ s7 ⟨σ7,H7,I7,q7⟩=>?_
    refine thn (ht C s2 H2 fp _ s7 σ7 H7 _ I7 q7) fun ok s8 ⟨H8,I8,q8⟩=>?_
    have back:∀{H9:Hp}{s9:Shared},Inv (au X scope N C s2 H2 fp) ([(D,{ cls:=.type "list",data:=.seq its.toArray k })]++cg fp s6.heap) σ7 H9 s9->tn (i + 1) s9.heap/\∀b∈fp,H9 b=none:=fun {H9 s9} I9=>by
     refine⟨T.keep _ _ _ st6 fun b hb o e=>(I9.pin (b,o) (List.mem_append_right _ (List.mem_append_right _ (bS hb e)))).1,fun b hb=>?_⟩
     obtain⟨o,e,d⟩:=T.obj _ _ st6 b hb
     exact (I9.pin (b,o) (List.mem_append_right _ (List.mem_append_right _ (bS hb e)))).2.1
    cases ok with
    | false =>
     rw [if_neg Bool.false_ne_true] at q8 ⊢
     obtain⟨m',hm,w8⟩:=hN _ _ _ q8
     obtain⟨st8,fr8⟩:=back I8
     exact⟨m',hm,i + 1,σ7,H8,ys,its,k,I8.unpinned,st8,fr8,rv,w8⟩
    | true =>
     rw [if_pos rfl] at q8 ⊢
     refine thn (he C s2 H2 fp _ s8 σ7 H8 _ I8 q8) fun y s9 ⟨v,H9,I9,r9,q9⟩=>?_
     have hD9:=I9.pin _ (List.mem_append_right _ (List.mem_append_left _ List.mem_cons_self))
     obtain⟨st9,fr9⟩:=back I9
     refine wpAny_list_append_plain (hsz:=by have:=rv.length;rw [List.size_toArray];omega) ⟨k,hD9.1⟩ fun h' hl' hs'=>?_
     obtain⟨m',hm,w9⟩:=hN _ _ _ q9
     obtain⟨k',ho'⟩:=hl'
     have I10:Inv (au X scope N C s2 H2 fp) [] σ7 H9 { s9 with heap:=h' }:=(I9.pins_of (pins':=[]) fun p hp=>absurd hp (by simp)).turned (t':=s9.toks) (it:=D) (fun b o hb e=>hs'.extBut b o hb e) hD9.2.1 hDC (.inr (by show s2.heap.objs.size<=D;omega)) cellD (fun p hp=>absurd hp (by simp [au]))
     refine⟨m',hm,i + 1,σ7,H9,ys++[v],its++[y],k',pinD I10 (by rw [ho'];simp) hD9.2.1 (fun v z=>by cases z),?_,fr9,rv.append (.cons r9 .nil),w9⟩
     exact T.keep _ _ _ st9 fun b hb o e=>hs'.extBut b o (nq2 b hb).2 e
  ·obtain⟨n,e⟩:=oD
   exact⟨0,emb ix σ,H2,[],[],n,pinD I4 e (I2.hok.fresh (by omega)) (fun v z=>by cases z),st4,fun b hb=>(f2 b hb).1,.nil,w0⟩
 have q:=loop _ rfl
 exact codeAny_compStart_list q (T.self _ 0 _ _ _ st4 q)
end
theorem iu {ss:List Str}:∀{us:List Value},av (ss.map V.str) us->StrsAre us ss:=by
 induction ss with
 | nil=>intro us r;rw [List.map_nil] at r;cases r;exact .nil
 | cons n ns ih =>
  intro us r
  rw [List.map_cons] at r
  cases r with
  | cons r1 r2 =>
   obtain⟨t,e⟩:=r1
   subst e
   exact .cons n t (ih r2)
theorem iC:∀{vs:List Value}{ss:List Str},StrsAre vs ss->av (ss.map V.str) vs
 | _,_,.nil=>.nil
 | _,_,.cons n t h=>.cons ⟨t,rfl⟩ (iC h)
section
variable {X:Cx}
variable {scope:Scope}{N:List Str}{ix:List (Option Nat)}{tg iter elt:Expr}{ifs:List Expr}{pos:Pos}{g:TG}{tt:TT}{te:TE}{wi:TI}
theorem bp (L:bz X scope N ix) (hc:X.calm=true) (hi:PI X tg iter wi) (hg:∀C s0 H0 fp,PG (au X scope N C s0 H0 fp) tg g) (ht:∀C s0 H0 fp,PTs (au X scope N C s0 H0 fp) ifs tt) (he:∀C s0 H0 fp,PE (au X scope N C s0 H0 fp) elt te)
  (hs:∀x,foldedSetIterable iter X.env x=pure x:=by intro _;rfl):PE X (.ListComp elt [⟨tg,iter,ifs,0⟩] scope pos) (tLc wi g tt te ix):=by
 intro pins s σ H Q I h
 rw [eval_ListComp]
 refine wpAny_comprehension_free (use:=none) rfl hs (L.clos I.ok) L.kind L.locals (thn (hi pins s σ H _ I h) fun v s1 h1=>thn h1 fun itv s2 h2=>?_)
 obtain⟨it,fp,tn,J,H2,rfl,I2,T,st2,f2,hW⟩:=h2
 refine mW (RR:=fun acc C=>compPost (model X.prog X.w) X.A X.xe none (EP X pins σ Q) acc C) L hc hg ht he I2 T st2 f2 hW ?_
 intro D C s' m ys H' hn ho hDC hC hI hD fin
 exact⟨m,hn,fun h' hs'=>⟨.ref D,_,hI h' hs',rfl,fin D hD⟩⟩
noncomputable def jg (i:Nat) (wi:TI) (g:TG) (tt:TT) (te:TE) (ix:List (Option Nat)):TS:=fun D σ H=>wi σ H fun J H1=>LcW J g tt te (emb ix σ) (fun ys H'=>∀p,H' p=none->D.nx (σ.set i (some (.ref p))) (upd H' p (.lst ys))) H1
theorem cX {i:Nat}{y:Str}{py spos:Pos} (hN:X.N.Nodup) (hi':X.N[i]?=some y) (hx:Loc X.env.scope y) (L:bz X scope N ix) (hc:X.calm=true) (hi:PI X tg iter wi) (hg:∀C s0 H0 fp,PG (au X scope N C s0 H0 fp) tg g)
  (ht:∀C s0 H0 fp,PTs (au X scope N C s0 H0 fp) ifs tt) (he:∀C s0 H0 fp,PE (au X scope N C s0 H0 fp) elt te)
  (hsw:swapsWith (.ListComp elt [⟨tg,iter,ifs,0⟩] scope pos) (some (.Name y py)) spos.line X.env=pure true:=by rfl) (hs:∀x,foldedSetIterable iter X.env x=pure x:=by intro _;rfl)
  (hf:X.fn y=true\/X.env.scope.names.lookup y=some .local:=by first | exact .inl rfl | exact .inr rfl | assumption) :
  PS X (.Assign [.Name y py] (.ListComp elt [⟨tg,iter,ifs,0⟩] scope pos) spos) (jg i wi g tt te ix):=by
 intro pins s σ H D I h
 rw [exec_Assign_Name_used _ _ _ _ hsw]
 refine wpAny_bind (wpAny_standAt (wpAny_bind ?_))
 show wpAny _ X.A (do let _ <- comprehension (.ListComp elt [⟨tg,iter,ifs,0⟩] scope pos) scope X.env _ (newList []) false (eval iter X.env) (some (assign (.Name y py) X.env))) _ _ s
 refine wpAny_bind (thn (wpAny_comprehension_free (use:=some (assign (.Name y py) X.env)) (Q:=fun _ s'=>SP X pins D .next s') rfl hs (L.clos I.ok) L.kind L.locals
  (thn (hi pins s σ H _ I h) fun v s1 h1=>thn h1 fun itv s2 h2=>?_)) fun _ s' hq=>wpAny_pure (wpAny_pure hq))
 obtain⟨it,fp,tn,J,H2,rfl,I2,T,st2,f2,hW⟩:=h2
 refine mW (RR:=fun acc C=>compPost (model X.prog X.w) X.A X.xe (some (assign (.Name y py) X.env)) (fun _ s'=>SP X pins D .next s') acc C) L hc hg ht he I2 T st2 f2 hW ?_
 intro Da C s' m ys H' hn ho hDC hC hI hD fin
 have I':=hI s'.heap (Heap.SameBut.refl _ _)
 show wpAny _ X.A (assign (.Name y py) X.env (.ref Da)) _ _ s'
 refine wpAny_assign_Name (fX (v:=.ref Da) I' hN hi' hx rfl (fun s'' I'' ch=>?_) hf)
 obtain⟨a,hsa,hwa⟩:=ch
 obtain⟨c1,c2,c3,c4,c5,c6⟩:=hC
 have hCa:C≠a:=by
  rcases hwa with z | z
  ·rw [z];exact c2
  ·exact fun w=>c5 y a z w.symm
 refine⟨m,hn.sameBut hsa hCa,fun h' hs'=>⟨_,_,I''.turned (t':=s''.toks) (it:=C) (fun b o hb e=>hs'.extBut b o hb e) c1 c2 c4 c5 c6,fin Da hD⟩⟩
end
mutual
inductive DV (H:Hp):V->PyData->Prop
 | non:DV H .non .none
 | bl (b:Bool):DV H (.bl b) (.bool b)
 | int (i:Int):DV H (.int i) (.int i)
 | str (x:Str):DV H (.str x) (.str x)
 | tup {a:Addr}{xs:List V}{ds:List PyData}:H a=some (.tup xs)->DVs H xs ds->DV H (.ref a) (.tuple ds)
 | lst {a:Addr}{xs:List V}{ds:List PyData}:H a=some (.lst xs)->DVs H xs ds->DV H (.ref a) (.list ds)
inductive DVs (H:Hp):List V->List PyData->Prop
 | nil:DVs H [] []
 | cons {x:V}{d:PyData}{xs:List V}{ds:List PyData}:DV H x d->DVs H xs ds->DVs H (x::xs) (d::ds)
end
section
variable {P:Program}{w:World}{H:Hp}{h:Heap}
mutual
theorem DV.reads (ok:HOk P w H h):∀{x:V}{d:PyData}{u:Value},DV H x d->RelV x u->∃as,Reads h u d as
 | _,_,u,.non,r=>by cases (show u=Value.none from r);exact⟨_,Reads.none⟩
 | _,_,u,.bl b,r=>by cases (show u=Value.bool b from r);exact⟨_,Reads.bool b⟩
 | _,_,u,.int i,r=>by obtain⟨t,e⟩:=(show ∃t,u=Value.int i t from r);cases e;exact⟨_,Reads.int i t⟩
 | _,_,u,.str x,r=>by obtain⟨t,e⟩:=(show ∃t,u=Value.str x t from r);cases e;exact⟨_,Reads.str x t⟩
 | _,_,u,.tup (a:=a) (xs:=xs) e q,r=>by
  cases (show u=Value.ref a from r)
  obtain⟨_,its,rv,o,ho,hc,n,hd⟩:=(show aM P w H h a (.tup xs) from ok a _ e)
  obtain⟨as,z⟩:=DVs.reads ok q rv
  exact⟨as,Reads.tuple ho hc hd (by simpa using z)⟩
 | _,_,u,.lst (a:=a) (xs:=xs) e q,r=>by
  cases (show u=Value.ref a from r)
  obtain⟨_,its,n,rv,ho⟩:=(show aM P w H h a (.lst xs) from ok a _ e)
  obtain⟨as,z⟩:=DVs.reads ok q rv
  exact⟨_,Reads.list ho rfl rfl (by simpa using z)⟩
theorem DVs.reads (ok:HOk P w H h):∀{xs:List V}{ds:List PyData}{us:List Value},DVs H xs ds->av xs us->∃as,ReadsAll h us ds as
 | _,_,_,.nil,.nil=>⟨_,ReadsAll.nil⟩
 | _,_,_,.cons a b,.cons r rs=>by
  obtain⟨as,p⟩:=DV.reads ok a r
  obtain⟨bs,q⟩:=DVs.reads ok b rs
  exact⟨_,ReadsAll.cons p q⟩
end
end
theorem DVs.strs {H:Hp}:∀ss:List Str,DVs H (ss.map V.str) (ss.map PyData.str)
 | []=>.nil
 | x::r=>.cons (.str x) (DVs.strs r)
section
variable {X:Cx}
open SeqAt in
theorem va {k:Nat} (hr:aN k X.A):OpR X (compareOp .Eq) (fun x y H Q=>∃d e,DV H x d/\DV H y e/\shaped d=true/\shaped e=true/\Q (.bl (PyData.eqv d e)) H):=by
 intro pins s σ H x y v u Q I rx ry h
 obtain⟨d,e,dx,dy,sd,se,q⟩:=h
 obtain⟨as,r1⟩:=dx.reads I.hok rx
 obtain⟨bs,r2⟩:=dy.reads I.hok ry
 exact eq_dataH r1 r2 sd se hr.units ⟨.bl (PyData.eqv d e),H,I,rfl,q⟩
open SeqAt in
theorem jc {k:Nat} (hr:aN k X.A):OpR X (compareOp .NotEq) (fun x y H Q=>∃d e,DV H x d/\DV H y e/\shaped d=true/\shaped e=true/\Q (.bl (!PyData.eqv d e)) H):=by
 intro pins s σ H x y v u Q I rx ry h
 obtain⟨d,e,dx,dy,sd,se,q⟩:=h
 obtain⟨as,r1⟩:=dx.reads I.hok rx
 obtain⟨bs,r2⟩:=dy.reads I.hok ry
 exact ne_dataH r1 r2 sd se hr.units ⟨.bl (!PyData.eqv d e),H,I,rfl,q⟩
theorem pG (bs:List Bool):((List.range bs.length).all fun i=>(bs[i]?).getD true)=bs.all id:=by
 rw [Bool.eq_iff_iff,List.all_eq_true,List.all_eq_true]
 constructor
 ·intro h b hb
  obtain⟨i,hi,e⟩:=List.mem_iff_getElem.mp hb
  have:=h i (List.mem_range.mpr hi)
  rw [List.getElem?_eq_getElem hi,e] at this
  simpa using this
 ·intro h i hi
  have hi:=List.mem_range.mp hi
  rw [List.getElem?_eq_getElem hi]
  simpa using h _ (List.getElem_mem hi)
theorem dn (hc:X.calm=true):bC X (.builtin "all") (fun xs H Q=>∃(p:Addr) (bs:List Bool),xs=[.ref p]/\SqL X.K H p (bs.map V.bl)/\Q (.bl (bs.all id)) H):=by
 intro pins s σ H xs us Q I r h
 obtain⟨p,bs,rfl,hq,q⟩:=h
 obtain⟨u,rfl,rx⟩:=vals1 r
 cases rx
 obtain⟨its,r',pl,hz⟩:=I.list hq
 have hlt:p < s.heap.objs.size:=by obtain⟨o,n,e,_⟩:=pl;exact Heap.lt_size e
 have hlen:=r'.length
 rw [List.length_map] at hlen
 refine call_all_walk (wpAny_pyIter_list pl.isList ?_)
 refine⟨s.heap.objs.size,[s.heap.objs.size,p],[s.heap.objs.size],its.toArray.size,_,_,fun i=>(bs[i]?).getD true,rfl,Walks.list (A:=X.A.in1) (I.ok.hd hc) _ p (Nat.ne_of_lt hlt) its.toArray,
  ⟨⟨_,Heap.get?_push_size _ rfl,rfl,rfl⟩,pl.isList.push _⟩,fun i v s' Q' E' hP hQ=>?_,fun h' tk hk=>?_⟩
 ·have hP':its[i]?=some v:=by simpa using hP
  have hb:∃b,bs[i]?=some b/\v=Value.bool b:=by
   have hi:i < bs.length:=by rw [hlen];exact (List.getElem?_eq_some_iff.mp hP').1
   have e1:(bs.map V.bl)[i]?=some (V.bl bs[i]):=by rw [List.getElem?_map,List.getElem?_eq_getElem hi];rfl
   obtain⟨w',e2,rw'⟩:=r'.get e1
   rw [hP'] at e2
   cases e2
   exact⟨bs[i],List.getElem?_eq_getElem hi,rw'⟩
  obtain⟨b,e,rfl⟩:=hb
  simp only [e,Option.getD_some] at hQ
  exact wpAny_truthy_bool hQ
 ·have e:((List.range its.toArray.size).all fun i=>(bs[i]?).getD true)=bs.all id:=by
   rw [List.size_toArray,<- hlen];exact pG bs
  rw [e]
  refine⟨.bl (bs.all id),H,I.kept (t':=tk) fun b x e=>hk b x (fun hm=>?_) (Heap.get?_push_of_some _ e),rfl,q⟩
  rw [List.mem_singleton.mp hm] at e
  exact Nat.lt_irrefl _ (Heap.lt_size e)
theorem cG {T:String}:bC X (.builtin "isinstance") (fun xs H Q=>∃x t b,xs=[x,.ty T]/\cw X.K H x t/\PySem.W.kitOne X.K t (.type T)=some b/\Q (.bl b) H):=by
 intro pins s σ H xs us Q I r h
 obtain⟨x,t,b,rfl,ty,e,q⟩:=h
 obtain⟨u,w',rfl,rx,ry⟩:=vals2 r
 cases (show w'=Value.type T from ry)
 exact p6 I rx ty e fun tk=>⟨.bl b,H,I.tok tk,rfl,q⟩
theorem kH:OpR X (compareOp .LtE) (fun x y H Q=>∃i j,x=.str i/\y=.str j/\Q (.bl (!decide (j.cps.toList < i.cps.toList))) H):=by
 intro pins s σ H x y v u Q I rx ry h
 obtain⟨i,j,rfl,rfl,q⟩:=h
 obtain⟨t,rfl⟩:=rx
 obtain⟨t',rfl⟩:=ry
 exact PySem.P.le_str ⟨.bl (!decide (j.cps.toList < i.cps.toList)),H,I,rfl,q⟩
theorem sW:MtR X "str.join" (fun x xs H Q=>∃(z:Str) (p:Addr) (ss:List Str),x=.str z/\xs=[.ref p]/\SqL X.K H p (ss.map V.str)/\(ss.map (·.length)).sum + ss.length * z.length<=16777216/\Q (.str (Txt.join z ss)) H):=by
 intro pins s σ H x xs v us Q I rx rs h
 obtain⟨z,p,ss,rfl,rfl,hq,hz,q⟩:=h
 obtain⟨t,rfl⟩:=rx
 obtain⟨u,rfl,ru⟩:=vals1 rs
 cases ru
 obtain⟨its,r',pl,_⟩:=I.list hq
 exact join_list pl.isList (iu r') hz fun t' k=>⟨.str (Txt.join z ss),H,I.tok k,⟨_,rfl⟩,q⟩
theorem jR:bC X (.builtin "sorted") (fun xs H Q=>∃(p:Addr) (ss:List Str),xs=[.ref p]/\SqL X.K H p (ss.map V.str)/\ss.length < 64/\∀(ss':List Str) (q:Addr),ss'.Perm ss->sortedS ss'=true->H q=none->Q (.ref q) (upd H q (.lst (ss'.map V.str)))):=by
 intro pins s σ H xs us Q I r h
 obtain⟨p,ss,rfl,hq,h64,q⟩:=h
 obtain⟨u,rfl,rx⟩:=vals1 r
 cases rx
 obtain⟨its,r',pl,hz⟩:=I.list hq
 have hlen:=r'.length
 rw [List.length_map] at hlen
 refine sorted_strs pl.isList (iu r') (by omega) fun out ss' a1 a2 a3=>?_
 obtain⟨e,he⟩:=sortedAll_at s.heap its out
 have hv:av (ss'.map V.str) out.toList:=iC a1
 have hfr:H (s.heap.objs.size + 1)=none:=I.hok.fresh (Nat.le_succ _)
 refine⟨.ref (s.heap.objs.size + 1),_,I.laid (t':=s.toks) (o:=.lst (ss'.map V.str)) (fun b o z=>sortedAll_old z) (Nat.le_succ _) ⟨?_,out.toList,e,hv,?_⟩,rfl,q ss' _ a2 a3 hfr⟩
 ·rw [List.length_map,a2.length_eq,sizeLine_eq];omega
 ·simpa [seqObj] using he
end
end L2
set_option maxHeartbeats 4000000
namespace L2
open PySem PySem.W PyProof.Rows
noncomputable abbrev gp (p:Array Nat) (i:Nat):Nat:=p.getD i 0
structure Ord (N:Nat) (lt:Nat->Nat->Bool):Prop where
 tr:∀i j k,lt i j=true->lt j k=true->lt i k=true
 irr:∀i,lt i i=false
 tot:∀i j,i < N->j < N->i≠j->lt i j=true\/lt j i=true
noncomputable def Pm (N:Nat) (p:Array Nat):Prop:=p.Perm (List.toArray (List.range N))
theorem Pm.size {N:Nat}{p:Array Nat} (h:Pm N p):p.size=N:=by
 have:=Array.Perm.size_eq h
 simpa using this
theorem fT {p:Array Nat}{i:Nat} (h:i < p.size):gp p i=p[i]:=by simp [gp,Array.getD,h]
theorem gk {p q:Array Nat}{i j:Nat} (h:p[i]?=q[j]?):gp p i=gp q j:=by simp [gp,Array.getD_eq_getD_getElem?,h]
theorem Pm.lt {N:Nat}{p:Array Nat} (h:Pm N p) {i:Nat} (hi:i < N):gp p i < N:=by
 have hs:i < p.size:=by rw [h.size];exact hi
 rw [fT hs]
 have hm:p[i]∈(List.toArray (List.range N)):=h.mem_iff.mp (Array.getElem_mem hs)
 simpa using hm
theorem Pm.nd {N:Nat}{p:Array Nat} (h:Pm N p):p.toList.Nodup:=by
 have hp:p.toList.Perm (List.range N):=by simpa using Array.perm_iff_toList_perm.mp h
 exact hp.nodup_iff.mpr List.nodup_range
theorem Pm.inj {N:Nat}{p:Array Nat} (h:Pm N p) {i j:Nat} (hi:i < N) (hj:j < N) (hij:i≠j):gp p i≠gp p j:=by
 have hsi:i < p.size:=by rw [h.size];exact hi
 have hsj:j < p.size:=by rw [h.size];exact hj
 rw [fT hsi,fT hsj]
 intro e
 have nd:=h.nd
 rcases Nat.lt_or_gt_of_ne hij with z | z
 ·exact List.pairwise_iff_getElem.mp nd i j (by simpa using hsi) (by simpa using hsj) z (by simpa using e)
 ·exact List.pairwise_iff_getElem.mp nd j i (by simpa using hsj) (by simpa using hsi) z (by simpa using e.symm)
section
variable {N:Nat}{lt:Nat->Nat->Bool}{cmp:Nat->Nat->(Bool->Shared->Prop)->Shared->Prop}{s:Shared}
noncomputable def Asc (lt:Nat->Nat->Bool) (p:Array Nat) (b:Nat):Prop:=∀i j,i < j->j < b->lt (gp p i) (gp p j)=true
noncomputable def Dsc (lt:Nat->Nat->Bool) (p:Array Nat) (b:Nat):Prop:=∀i j,i < j->j < b->lt (gp p j) (gp p i)=true
theorem Asc.more (O:Ord N lt) {p:Array Nat}{n:Nat} (h:Asc lt p n) (h1:1<=n) (e:lt (gp p (n - 1)) (gp p n)=true):Asc lt p (n + 1):=fun i j hij hj=>by
 by_cases q:j < n
 ·exact h i j hij q
 ·have:j=n:=by omega
  subst this
  by_cases z:i=j - 1
  ·rw [z];exact e
  ·exact O.tr _ _ _ (h i (j - 1) (by omega) (by omega)) e
theorem Dsc.more (O:Ord N lt) {p:Array Nat}{n:Nat} (h:Dsc lt p n) (h1:1<=n) (e:lt (gp p n) (gp p (n - 1))=true):Dsc lt p (n + 1):=fun i j hij hj=>by
 by_cases q:j < n
 ·exact h i j hij q
 ·have:j=n:=by omega
  subst this
  by_cases z:i=j - 1
  ·rw [z];exact e
  ·exact O.tr _ _ _ e (h i (j - 1) (by omega) (by omega))
theorem Ord.other (O:Ord N lt) {p:Array Nat} (hp:Pm N p) {i j:Nat} (hi:i < N) (hj:j < N) (hij:i≠j) (e:lt (gp p i) (gp p j)≠true):lt (gp p j) (gp p i)=true :=
 (O.tot _ _ (hp.lt hi) (hp.lt hj) (hp.inj hi hj hij)).resolve_left e
variable (O:Ord N lt) (hc:∀(i j:Nat) (C:Bool->Shared->Prop),i < N->j < N->i≠j->C (lt i j) s->cmp i j C s)
include O hc
theorem i8 {p:Array Nat} (hp:Pm N p) {Q:Nat->Shared->Prop}:∀(f n:Nat),1<=n->n + f<=N->Asc lt p n->(∀m,n<=m->m<=n + f->Asc lt p m->(m=n + f\/lt (gp p m) (gp p (m - 1))=true)->Q m s)->(kas_asc p f n).kasWp cmp Q s
 | 0,n,h1,hn,ha,k=>k n (Nat.le_refl _) (Nat.le_refl _) ha (.inl rfl)
 | f + 1,n,h1,hn,ha,k=>by
  unfold kas_asc
  refine hc _ _ _ (hp.lt (by omega)) (hp.lt (by omega)) (hp.inj (by omega) (by omega) (by omega)) ?_
  by_cases e:lt (gp p n) (gp p (n - 1))=true
  ·show KasT.kasWp cmp (if lt (gp p n) (gp p (n - 1))=true then _ else _) Q s
   rw [if_pos e]
   exact k n (Nat.le_refl _) (by omega) ha (.inr e)
  ·show KasT.kasWp cmp (if lt (gp p n) (gp p (n - 1))=true then _ else _) Q s
   rw [if_neg e]
   exact i8 hp f (n + 1) (by omega) (by omega) (ha.more O h1 (O.other hp (by omega) (by omega) (by omega) e)) fun m a b c d=>k m (by omega) (by omega) c (d.imp (fun z=>by omega) id)
theorem lQ {p:Array Nat} (hp:Pm N p) {Q:Array Nat×Nat×Nat->Shared->Prop}:∀(f n:Nat),1<=n->n + f<=N->Dsc lt p n->(∀m,n<=m->m<=n + f->Dsc lt p m->Q (p,m,0) s)->(kas_desc f p n 0).kasWp cmp Q s
 | 0,n,h1,hn,ha,k=>k n (Nat.le_refl _) (Nat.le_refl _) ha
 | f + 1,n,h1,hn,ha,k=>by
  unfold kas_desc
  refine hc _ _ _ (hp.lt (by omega)) (hp.lt (by omega)) (hp.inj (by omega) (by omega) (by omega)) ?_
  by_cases e:lt (gp p n) (gp p (n - 1))=true
  ·show KasT.kasWp cmp (if lt (gp p n) (gp p (n - 1))=true then _ else _) Q s
   rw [if_pos e,if_neg (by omega)]
   exact lQ hp f (n + 1) (by omega) (by omega) (ha.more O h1 e) fun m a b c=>k m (by omega) (by omega) c
  ·show KasT.kasWp cmp (if lt (gp p n) (gp p (n - 1))=true then _ else _) Q s
   rw [if_neg e]
   refine hc _ _ _ (hp.lt (by omega)) (hp.lt (by omega)) (hp.inj (by omega) (by omega) (by omega)) ?_
   have e2:=O.other hp (show n < N by omega) (show n - 1 < N by omega) (by omega) e
   show KasT.kasWp cmp (if lt (gp p (n - 1)) (gp p n)=true then _ else _) Q s
   rw [if_pos e2]
   exact k n (Nat.le_refl _) (by omega) ha
theorem uP {p:Array Nat} (hp:Pm N p) {m:Nat} (hm:m<=N) (h:Dsc lt p m):Pm N (kas_rev p 0 m)/\Asc lt (kas_rev p 0 m) m:=by
 have hz:m<=p.size:=by rw [hp.size];exact hm
 refine⟨(mirror_perm p 0 m _).trans hp,fun i j hij hj=>?_⟩
 have g:∀k,k < m->gp (kas_rev p 0 m) k=gp p (0 + m - 1 - k):=fun k hk=>gk (by
  unfold kas_rev
  rw [getElem?_mirror_all hz,if_pos ⟨Nat.zero_le _,hk⟩])
 rw [g i (by omega),g j hj]
 exact h _ _ (by omega) (by omega)
theorem qU {p:Array Nat} (hp:Pm N p) (h2:2<=N) {Q:Nat×Array Nat->Shared->Prop} (h0:∀m q,1<=m->m<=N->Pm N q->Asc lt q m->Q (m,q) s):(kas_count N p).kasWp cmp Q s:=by
 unfold kas_count
 rw [KasT.kasWp_bind]
 refine i8 O hc hp (N - 1) 1 (Nat.le_refl _) (by omega) (fun i j a b=>by omega) fun m a b c d=>?_
 by_cases e:(m == N)=true
 ·rw [if_pos e]
  exact h0 m p a (by omega) hp c
 ·rw [if_neg e]
  have hm:m≠N:=fun z=>e (beq_iff_eq.mpr z)
  by_cases e1:m > 1
  ·rw [if_pos e1]
   refine hc _ _ _ (hp.lt (by omega)) (hp.lt (by omega)) (hp.inj (by omega) (by omega) (by omega)) ?_
   show KasT.kasWp cmp (if lt (gp p 0) (gp p (m - 1))=true then _ else _) Q s
   rw [if_pos (c 0 (m - 1) (by omega) (by omega))]
   exact h0 m p a (by omega) hp c
  ·rw [if_neg e1]
   have:m=1:=by omega
   subst this
   have e2:lt (gp p 1) (gp p (1 - 1))=true:=d.resolve_left (by omega)
   unfold kas_descPart
   rw [KasT.kasWp_bind]
   refine lQ O hc hp (N - (1 + 1)) (1 + 1) (by omega) (by omega) (fun i j x y=>by
    have:i=0:=by omega
    have:j=1:=by omega
    subst i j
    exact e2) fun m' a' b' c'=>?_
   show KasT.kasWp cmp (if (0:Nat) > 0 then _ else _) Q s
   rw [if_neg (by omega)]
   show KasT.kasWp cmp (kas_tail3 m' N p) Q s
   unfold kas_tail3
   rw [KasT.kasWp_bind]
   obtain⟨r1,r2⟩:=uP O hc hp (show m'<=N by omega) c'
   exact i8 O hc r1 (N - m') m' (by omega) (by omega) r2 fun m'' x y z w=>h0 m'' _ (by omega) (by omega) r1 z
theorem iE {p:Array Nat} (hp:Pm N p) {k:Nat} (hk:k < N) (ha:Asc lt p k) {Q:Nat->Shared->Prop}:∀(f l r:Nat),l<=r->r<=k->r - l<=f->(∀i,i < l->lt (gp p i) (gp p k)=true)->(∀i,r<=i->i < k->lt (gp p k) (gp p i)=true) ->
  (∀l,l<=k->(∀i,i < l->lt (gp p i) (gp p k)=true)->(∀i,l<=i->i < k->lt (gp p k) (gp p i)=true)->Q l s)->(kas_place p k f l r).kasWp cmp Q s
 | 0,l,r,h1,h2,h3,hl,hr,q=>by
  have:l=r:=by omega
  subst this
  exact q l h2 hl hr
 | f + 1,l,r,h1,h2,h3,hl,hr,q=>by
  unfold kas_place
  by_cases e:l ≥ r
  ·rw [if_pos e]
   have:l=r:=by omega
   subst this
   exact q l h2 hl hr
  ·rw [if_neg e]
   refine hc _ _ _ (hp.lt hk) (hp.lt (by omega)) (hp.inj hk (by omega) (by omega)) ?_
   by_cases c:lt (gp p k) (gp p ((l + r) / 2))=true
   ·show KasT.kasWp cmp (if lt (gp p k) (gp p ((l + r) / 2))=true then _ else _) Q s
    rw [if_pos c]
    refine iE hp hk ha f l ((l + r) / 2) (by omega) (by omega) (by omega) hl (fun i a b=>?_) q
    by_cases z:i=(l + r) / 2
    ·rw [z];exact c
    ·exact O.tr _ _ _ c (ha _ _ (by omega) b)
   ·show KasT.kasWp cmp (if lt (gp p k) (gp p ((l + r) / 2))=true then _ else _) Q s
    rw [if_neg c]
    have c':=O.other hp hk (show (l + r) / 2 < N by omega) (by omega) c
    refine iE hp hk ha f ((l + r) / 2 + 1) r (by omega) h2 (by omega) (fun i a=>?_) hr q
    by_cases z:i=(l + r) / 2
    ·rw [z];exact c'
    ·exact O.tr _ _ _ (ha i ((l + r) / 2) (by omega) (by omega)) c'
theorem mV {Q:Array Nat->Shared->Prop} (h0:∀q,Pm N q->Asc lt q N->Q q s):∀(f:Nat) (p:Array Nat) (k:Nat),k + f=N->Pm N p->Asc lt p k->(kas_bin f p k).kasWp cmp Q s
 | 0,p,k,hk,hp,ha=>h0 p hp (by rw [<- hk];exact ha)
 | f + 1,p,k,hk,hp,ha=>by
  unfold kas_bin
  rw [KasT.kasWp_bind]
  refine iE O hc hp (show k < N by omega) ha k 0 k (by omega) (Nat.le_refl _) (by omega) (fun i z=>by omega) (fun i a b=>by omega) fun l hl h1 h2=>?_
  refine mV h0 f _ (k + 1) (by omega) ((bubble_perm p k _).trans hp) fun i j hij hj=>?_
  have hs:k < p.size:=by rw [hp.size];omega
  have g:∀i,gp (bubble p k (k - l)) i=if i=l then gp p k else if l < i/\i<=k then gp p (i - 1) else gp p i:=fun i=>by
   have e:=getElem?_bubble hs (k - l) (by omega) i
   have e1:k - (k - l)=l:=by omega
   rw [e1] at e
   by_cases z1:i=l
   ·rw [if_pos z1] at e ⊢;exact gk e
   ·rw [if_neg z1] at e ⊢
    by_cases z2:l < i/\i<=k
    ·rw [if_pos z2] at e ⊢;exact gk e
    ·rw [if_neg z2] at e ⊢;exact gk e
  rw [g i,g j]
  by_cases a1:i=l
  ·rw [if_pos a1,if_neg (by omega),if_pos (by omega)]
   exact h2 _ (by omega) (by omega)
  ·rw [if_neg a1]
   by_cases a2:l < i/\i<=k
   ·rw [if_pos a2,if_neg (by omega),if_pos (by omega)]
    exact ha _ _ (by omega) (by omega)
   ·rw [if_neg a2]
    by_cases b1:j=l
    ·rw [if_pos b1];exact h1 i (by omega)
    ·rw [if_neg b1]
     by_cases b2:l < j/\j<=k
     ·rw [if_pos b2]
      exact ha _ _ (by omega) (by omega)
     ·rw [if_neg b2]
      exact ha _ _ hij (by omega)
theorem ue (h2:2<=N) {Q:Array Nat->Shared->Prop} (h0:∀q,Pm N q->Asc lt q N->Q q s):(kas_sort N).kasWp cmp Q s:=by
 unfold kas_sort
 rw [KasT.kasWp_bind]
 refine qU O hc (Array.Perm.refl _) h2 fun m q a b hp ha=>?_
 show KasT.kasWp cmp (if m < N then _ else _) Q s
 by_cases e:m < N
 ·rw [if_pos e]
  have em:max m 1=m:=by omega
  show KasT.kasWp cmp (kas_bin (N - max m 1) q (max m 1)) Q s
  rw [em]
  exact mV O hc h0 (N - m) q m (by omega) hp ha
 ·rw [if_neg e]
  have:m=N:=by omega
  subst this
  exact h0 q hp ha
end
end L2
namespace L2
open PySem PySem.Spec PyProof.Rows PySem.W PySem.Calls
section
variable {prog:Program}{w:World}{A:Around}{E:Value->Shared->Prop}{s:Shared}
noncomputable def jz (prog:Program) (w:World) (A:Around) (vs:List Value) (lt:Nat->Nat->Bool) (s:Shared):Prop :=
 ∃κ:SortKind,(∀Q:SortKind->Shared->Prop,Q κ s->wpAny (model prog w) A (keyKind' vs.toArray) Q (fun _ _=>False) s) /\
  ∀(i j:Nat) (C:Bool->Shared->Prop),i < vs.length->j < vs.length->i≠j->C (lt i j) s->kas_ask prog w A κ vs i j C s
noncomputable def eB (vs:List Value) (p:Array Nat):List Value:=p.toList.map fun i=>vs.getD i Value.none
theorem pe {lt:Nat->Nat->Bool}{a:Addr}{vs:List Value}{n:Nat}{P:PySem.Fin->Shared->Prop} (ho:s.heap.get? a=some (seqObj "list" vs.toArray n)) (h64:vs.length < 64) (O:Ord vs.length lt)
  (hk:2<=vs.length->∀s':Shared,(∀b o,b≠a->s.heap.get? b=some o->s'.heap.get? b=some o)->jz prog w A vs lt s')
  (h:∀p,Pm vs.length p->Asc lt p vs.length->P (.done (.ret .none)) { s with heap:=sortedHeap s.heap a vs (eB vs p).toArray }) :
  wpAny (model prog w) A (Builtin.«list.sort» ⟨[.ref a],[]⟩) P E s:=by
 rw [list_sort_plain]
 have hlt:a < s.heap.objs.size:=Heap.lt_size ho
 have hfit:vs.length<=sizeLine:=by rw [sizeLine_eq];omega
 refine wpAny_bind (listItems_at ho rfl (wpAny_bind (listUpdate_at ho rfl ?_ (by rw [List.size_toArray];exact hfit) (Nat.zero_le _))))
 obtain⟨e1,ho1⟩:∃e1,(s.heap.update a (Obj.mapSeq fun _=>(#[]:Array Value))).get? a=some (seqObj "list" #[] e1):=⟨_,get?_update_seq ho fun _=>#[]⟩
 refine wpAny_bind (seqEpoch_at ho1 rfl (wpAny_bind (wpAny_newTuple (wpAny_bind (wpAny_newList (wpAny_holding ?_) (Nat.zero_le _))) (by show vs.length<=_;exact hfit))))
 have ho2:(((s.heap.update a (Obj.mapSeq fun _=>(#[]:Array Value))).push (seqObj "tuple" vs.toArray 0)).push (seqObj "list" #[] 0)).get? a=some (seqObj "list" #[] e1):=Heap.get?_push_of_some _ (Heap.get?_push_of_some _ ho1)
 show wpAny (model prog w) A _ P E { s with heap:=((s.heap.update a (Obj.mapSeq fun _=>(#[]:Array Value))).push (seqObj "tuple" vs.toArray 0)).push (seqObj "list" #[] 0) }
 dsimp only
 by_cases h2:vs.toArray.size < 2
 ·rw [if_pos h2,if_pos h2]
  refine wpAny_bind (wpAny_pure ?_)
  rw [StateT.run_pure]
  refine wpAny_bind (wpAny_pure ?_)
  dsimp only
  have hz:((vs.toArray.zip vs.toArray).map (·.2))=(eB vs (List.toArray (List.range vs.length))).toArray:=by
   unfold eB
   apply Array.ext
   ·simp
   ·intro i h1 h2
    simp only [Array.size_map,Array.size_zip,List.size_toArray,Nat.min_self] at h1
    simp [h1]
  have es:vs.toArray.size=vs.length:=by simp
  refine wpAny_bind (seqEpoch_at ho2 rfl (wpAny_bind (listUpdate_at ho2 rfl ?_ (Nat.zero_le _) ?_)))
  ·simp only [bne_self_eq_false,Bool.false_eq_true,if_false]
   have q:=h (List.toArray (List.range vs.length)) (Array.Perm.refl _) (fun i j hij hj=>by omega)
   unfold sortedHeap at q
   rw [<- hz] at q
   exact wpAny_pure q
  ·show ((vs.toArray.zip vs.toArray).map (·.2)).size<=sizeLine + 1
   simp only [Array.size_map,Array.size_zip,List.size_toArray,Nat.min_self]
   omega
 ·have h2':2<=vs.length:=by rw [List.size_toArray] at h2;omega
  rw [if_neg h2,if_neg h2]
  obtain⟨κ,kd,ask⟩:=hk h2' { s with heap:=((s.heap.update a (Obj.mapSeq fun _=>(#[]:Array Value))).push (seqObj "tuple" vs.toArray 0)).push (seqObj "list" #[] 0) } fun b o hb e =>
   Heap.get?_push_of_some _ (Heap.get?_push_of_some _ (by rw [Heap.get?_update_ne _ _ _ _ hb];exact e))
  refine wpAny_bind (wpAny_mono (E:=fun _ _=>False) (Q:=fun k s'=>k=κ/\s'={ s with heap:=((s.heap.update a (Obj.mapSeq fun _=>(#[]:Array Value))).push (seqObj "tuple" vs.toArray 0)).push (seqObj "list" #[] 0) }) (kd _ ⟨rfl,rfl⟩) ?_ fun _ _ f=>f.elim)
  rintro k s' ⟨rfl,rfl⟩
  refine wpAny_bind (wpAny_mono (kat_run (ks:=vs) (G:=fun p s'=>(Pm vs.length p/\Asc lt p vs.length)/\s'={ s with heap:=((s.heap.update a (Obj.mapSeq fun _=>(#[]:Array Value))).push (seqObj "tuple" vs.toArray 0)).push (seqObj "list" #[] 0) })
   (Q:=fun st' s'=>∃p:Array Nat,arrOf st'=p.map (kas_item (vs.toArray.zip vs.toArray))/\failedOf st'=none/\(Pm vs.length p/\Asc lt p vs.length)/\s'={ s with heap:=((s.heap.update a (Obj.mapSeq fun _=>(#[]:Array Value))).push (seqObj "tuple" vs.toArray 0)).push (seqObj "list" #[] 0) })
   rfl h2' h64 (fun p st' s' _ a2 a3 a4=>⟨p,a2,a3,a4⟩) (ue O ask h2' fun q hq ha=>⟨⟨hq,ha⟩,rfl⟩)) ?_ fun _ _ e=>e)
  rintro⟨⟨⟩,st'⟩ s' ⟨p,har,hf,⟨hp,ha⟩,rfl⟩
  dsimp only
  rw [kat_snds rfl har]
  have hsz:(List.toArray (p.toList.map fun i=>vs.getD i Value.none)).size<=sizeLine + 1:=by
   rw [List.size_toArray,List.length_map,Array.length_toList,hp.size];omega
  refine wpAny_bind (seqEpoch_at ho2 rfl (wpAny_bind (listUpdate_at ho2 rfl ?_ (Nat.zero_le _) hsz)))
  rw [hf]
  simp only [bne_self_eq_false,Bool.false_eq_true,if_false]
  exact wpAny_pure (h p hp ha)
theorem jU {l:Addr}{o:Obj}{vs:List Value}{n:Nat}{T:String}{Q:List Value->Shared->Prop} (hT:T="list"\/T="tuple") (ho:s.heap.get? l=some o) (hc:o.cls=.type T) (hd:o.data=.seq vs.toArray n)
  (h:Q vs { s with heap:=(s.heap.push (seqObj "list" #[] 0)).update s.heap.objs.size (Obj.mapSeq (·++vs.toArray)) }) (hsz:vs.length<=sizeLine):wpAny (model prog w) A (collect (.ref l)) Q E s:=by
 rcases hT with rfl | rfl
 ·exact collect_list ⟨o,ho,hc,n,hd⟩ h hsz
 ·unfold collect
  refine wpAny_bind (wpAny_runValue (codeAny_builtin entry_proto_collect' ?_))
  show wpAny _ _ (do again (.builtin "list.__iadd__" ⟨[<- newList [],.ref l],[]⟩)) _ _ s
  refine wpAny_bind (wpAny_newList (wpAny_pure ⟨Code.quiet_builtin _ (by decide +kernel),codeAny_builtin entry_list_iadd' ?_⟩))
  show wpAny _ _ (Builtin.List.listExtendWith (.ref s.heap.objs.size) (.ref l) (.ref s.heap.objs.size)) _ _ { s with heap:=s.heap.push (seqObj "list" #[] 0) }
  unfold Builtin.List.listExtendWith
  have ho':(s.heap.push (seqObj "list" #[] 0)).get? l=some o:=Heap.get?_push_of_some _ ho
  refine wpAny_bind (wpAny_typeOf (T:="tuple") ⟨o,ho',hc⟩ ?_)
  rw [if_pos (by rw [show (Value.type "tuple" == Value.type "tuple")=true from rfl];simp)]
  refine wpAny_bind (listItems_at ho' hd (wpAny_bind (listItems_at (xs:=#[]) (n:=0) (Heap.get?_push_size _ rfl) rfl ?_)))
  rw [if_neg (by simp)]
  refine wpAny_bind (listUpdate_at (xs:=#[]) (n:=0) (Heap.get?_push_size _ rfl) rfl (wpAny_pure ?_) (Nat.zero_le _) (by show (#[]++vs.toArray).size<=sizeLine + 1;simp only [Array.size_append,List.size_toArray,List.length_nil];omega))
  show wpAny (model prog w) A (do
    let o <- load s.heap.objs.size
    match o.data with
    | .seq xs _=>pure xs.toList
    | _=>unsupported "internal:collect") Q E { s with heap:=(s.heap.push (seqObj "list" #[] 0)).update s.heap.objs.size (Obj.mapSeq (·++vs.toArray)) }
  refine wpAny_bind (wpAny_load (get?_update_seq (Heap.get?_push_size _ rfl) _) ?_)
  show wpAny _ _ (pure ((#[]:Array Value)++vs.toArray).toList) Q E _
  rw [show ((#[]:Array Value)++vs.toArray).toList=vs by simp]
  exact wpAny_pure h
theorem tG {lt:Nat->Nat->Bool}{l:Addr}{o:Obj}{vs:List Value}{n:Nat}{T:String}{Q:Value->Shared->Prop} (hT:T="list"\/T="tuple") (ho:s.heap.get? l=some o) (hc:o.cls=.type T) (hd:o.data=.seq vs.toArray n) (h64:vs.length < 64) (O:Ord vs.length lt)
  (hk:2<=vs.length->∀s':Shared,(∀b o,s.heap.get? b=some o->s'.heap.get? b=some o)->jz prog w A.in1.in1 vs lt s')
  (h:∀p,Pm vs.length p->Asc lt p vs.length->Q (.ref (s.heap.objs.size + 1)) { s with heap:=sortedAll s.heap vs (eB vs p).toArray }):wpAny (model prog w) A (call (.builtin "sorted") [.ref l]) Q E s:=by
 refine Calls.call_function_entry kind_sorted plain_sorted entry_sorted (args_sorted1 _) ?_
 unfold Builtin.«sorted»
 refine wpAny_bind (m:=checkCount "sorted" 1 1 _) (wpAny_pure (wpAny_bind (jU hT ho hc hd (wpAny_bind (wpAny_newList ?_ (by rw [sizeLine_eq];omega))) (by rw [sizeLine_eq];omega))))
 have hsz:((s.heap.push (seqObj "list" #[] 0)).update s.heap.objs.size (Obj.mapSeq (·++vs.toArray))).objs.size=s.heap.objs.size + 1:=by rw [Heap.size_update,size_push']
 have hoL:(((s.heap.push (seqObj "list" #[] 0)).update s.heap.objs.size (Obj.mapSeq (·++vs.toArray))).push (seqObj "list" vs.toArray 0)).get? (s.heap.objs.size + 1)=some (seqObj "list" vs.toArray 0):=by
  rw [<- hsz]
  exact Heap.get?_push_size _ rfl
 show wpAny _ _ _ _ _ { s with heap:=((s.heap.push (seqObj "list" #[] 0)).update s.heap.objs.size (Obj.mapSeq (·++vs.toArray))).push (seqObj "list" vs.toArray 0) }
 rw [hsz]
 have kp:∀b o,s.heap.get? b=some o->(((s.heap.push (seqObj "list" #[] 0)).update s.heap.objs.size (Obj.mapSeq (·++vs.toArray))).push (seqObj "list" vs.toArray 0)).get? b=some o:=fun b ob e=>by
  have hb:=Heap.lt_size e
  refine Heap.get?_push_of_some _ ?_
  rw [Heap.get?_update_ne _ _ _ _ (Nat.ne_of_lt hb)]
  exact Heap.get?_push_of_some _ e
 refine wpAny_bind (wpAny_holding (wpAny_call_entry slot_list_sort ⟨_,hoL,rfl⟩ entry_list_sort (pe hoL h64 O (fun z s' hs'=>hk z s' fun b ob e=>hs' b ob (by have:=Heap.lt_size e;exact Nat.ne_of_lt (Nat.lt_succ_of_lt this)) (kp b ob e)) fun p hp ha=>⟨_,rfl,?_⟩) (args_list_sort _)))
 exact wpAny_pure ⟨_,rfl,h p hp ha⟩
end
theorem je {h:Heap}:∀{vs fs:List Value},KatTups h vs fs->∀(i:Nat),i < vs.length->∃a o xs n f,vs.getD i Value.none=.ref a/\h.get? a=some o/\o.data=.seq xs n/\xs[0]?=some f/\fs[i]?=some f
 | [],[],_,i,hi=>absurd hi (Nat.not_lt_zero _)
 | [],_::_,t,_,_=>t.elim
 | _::_,[],t,_,_=>t.elim
 | v::vs,f::fs,t,0,_=>by
  obtain⟨⟨a,o,xs,n,rfl,ho,hc,hd,hf⟩,_⟩:=t
  exact⟨a,o,xs,n,f,rfl,ho,hd,hf,rfl⟩
 | v::vs,f::fs,t,i + 1,hi=>by
  obtain⟨_,t⟩:=t
  obtain⟨a,o,xs,n,g,e1,e2,e3,e4,e5⟩:=je t i (by simpa using hi)
  exact⟨a,o,xs,n,g,by simpa using e1,e2,e3,e4,by simpa using e5⟩
theorem jb:∀{fs:List Value}{ss:List Str},StrsAre fs ss->∀(i:Nat) (f:Value),fs[i]?=some f->∃t,f=.str (ss.getD i Str.empty) t/\i < ss.length
 | _,_,.nil,i,f,h=>by simp at h
 | _,_,.cons y t r,0,f,h=>by simp at h;exact⟨t,h.symm,by simp⟩
 | _,_,.cons y t r,i + 1,f,h=>by
  obtain⟨t',e1,e2⟩:=jb r i f (by simpa using h)
  exact⟨t',by simpa using e1,by simpa using e2⟩
theorem uo {prog:Program}{w:World}{A:Around}{s:Shared}{vs fs:List Value}{ss:List Str} (t:KatTups s.heap vs fs) (hS:StrsAre fs ss) (hne:0 < fs.length) (hnd:ss.Nodup) :
  jz prog w A vs (fun i j=>decide ((ss.getD i Str.empty).cps.toList < (ss.getD j Str.empty).cps.toList)) s:=by
 refine⟨tuples' (Value.type "str" != Value.type "tuple"),fun Q q=>kat_kind (T:=Value.type "str") t hne (fun v hv=>?_) (by decide) q,fun i j C hi hj hij q=>?_⟩
 ·obtain⟨x,u,rfl⟩:=hS.all v hv
  exact Looks.now
 ·obtain⟨a,o,xs,n,f,e1,e2,e3,e4,e5⟩:=je t i hi
  obtain⟨b,o',ys,n',g,g1,g2,g3,g4,g5⟩:=je t j hj
  obtain⟨tf,rfl,hil⟩:=jb hS i f e5
  obtain⟨tg,rfl,hjl⟩:=jb hS j g g5
  unfold kas_ask
  rw [e1,g1]
  refine kat_lt e2 e3 g2 g3 ?_
  obtain⟨xr,hx⟩:∃xr,xs.toList=.str (ss.getD i Str.empty) tf::xr:=by
   cases hq:xs.toList with
   | nil=>rw [<- Array.getElem?_toList,hq] at e4;simp at e4
   | cons z zr=>rw [<- Array.getElem?_toList,hq] at e4;simp at e4;rw [e4];exact⟨zr,rfl⟩
  obtain⟨yr,hy⟩:∃yr,ys.toList=.str (ss.getD j Str.empty) tg::yr:=by
   cases hq:ys.toList with
   | nil=>rw [<- Array.getElem?_toList,hq] at g4;simp at g4
   | cons z zr=>rw [<- Array.getElem?_toList,hq] at g4;simp at g4;rw [g4];exact⟨zr,rfl⟩
  rw [hx,hy]
  have hnE:ss.getD i Str.empty≠ss.getD j Str.empty:=by
   rw [List.getD_eq_getElem?_getD,List.getD_eq_getElem?_getD,List.getElem?_eq_getElem hil,List.getElem?_eq_getElem hjl]
   intro z
   have z':ss[i]=ss[j]:=z
   rcases Nat.lt_or_gt_of_ne hij with y | y
   ·exact List.pairwise_iff_getElem.mp hnd i j hil hjl y z'
   ·exact List.pairwise_iff_getElem.mp hnd j i hjl hil y z'.symm
  show KatLex prog w A _ _ C ((Value.str (ss.getD i Str.empty) tf,Value.str (ss.getD j Str.empty) tg)::xr.zip yr) 0 s
  refine kat_cons (wpAny_eqBool_str ?_)
  rw [decide_eq_false hnE]
  refine kat_no ?_
  show wpAny _ A (oneLt' true _ _) C _ s
  exact strKind_oneLt prog w A _ s _ _ _ _ rfl rfl q
theorem gx {x y:Str} (h:x≠y):x.cps.toList < y.cps.toList\/y.cps.toList < x.cps.toList:=by
 by_cases c:x.cps.toList < y.cps.toList
 ·exact .inl c
 ·rcases List.le_iff_lt_or_eq.mp (List.not_lt.mp c) with z | z
  ·exact .inr z
  ·refine absurd ?_ h
   obtain⟨a⟩:=x
   obtain⟨b⟩:=y
   have e:b=a:=Array.toList_inj.mp z
   rw [e]
noncomputable def mC (H:Hp) (rs:List (Addr×Str)):Prop:=∀r∈rs,∃rest,H r.1=some (.tup (.str r.2::rest))
noncomputable abbrev refs (rs:List (Addr×Str)):List V:=rs.map fun r=>V.ref r.1
noncomputable def nlt (x y:Str):Prop:=x.cps.toList < y.cps.toList
theorem jZ {P:Program}{w:World}{H:Hp}{h:Heap} (ok:HOk P w H h):∀{rs:List (Addr×Str)}{us:List Value},mC H rs->av (refs rs) us->∃fs,KatTups h us fs/\StrsAre fs (rs.map (·.2))
 | [],us,_,r=>by cases r;exact⟨[],trivial,.nil⟩
 | x::rs,us,hr,r=>by
  cases r with
  | @cons _ u _ us' r1 r2 =>
   obtain⟨fs,t,q⟩:=jZ ok (rs:=rs) (fun y hy=>hr y (List.mem_cons_of_mem _ hy)) r2
   obtain⟨rest,e⟩:=hr x List.mem_cons_self
   cases (show u=Value.ref x.1 from r1)
   obtain⟨_,its,rv,o,ho,hc,n,hd⟩:=(show aM P w H h x.1 (.tup (.str x.2::rest)) from ok x.1 _ e)
   cases rv with
   | @cons _ f _ its' rf _ =>
    obtain⟨tk,rfl⟩:=rf
    exact⟨.str x.2 tk::fs,KatTups.cons ho hc hd (by simp) t,.cons _ _ q⟩
theorem ky {xs:List V}{us:List Value} (r:av xs us):∀{ps:List Nat},(∀i∈ps,i < xs.length)->av (ps.map fun i=>xs.getD i .non) (ps.map fun i=>us.getD i Value.none)
 | [],_=>.nil
 | i::ps,h=>by
  have hi:=h i List.mem_cons_self
  obtain⟨u,e,ru⟩:=r.get (List.getElem?_eq_getElem hi)
  refine .cons ?_ (ky r fun j hj=>h j (List.mem_cons_of_mem _ hj))
  show RelV (xs.getD i .non) (us.getD i Value.none)
  rw [List.getD_eq_getElem?_getD,List.getD_eq_getElem?_getD,List.getElem?_eq_getElem hi,e]
  exact ru
theorem qb {α:Type} (d:α) (xs:List α) {p:Array Nat} (h:Pm xs.length p):(p.toList.map fun i=>xs.getD i d).Perm xs:=by
 have hp:p.toList.Perm (List.range xs.length):=by simpa using Array.perm_iff_toList_perm.mp h
 have e:(List.range xs.length).map (fun i=>xs.getD i d)=xs:=by
  apply List.ext_getElem
  ·simp
  ·intro i h1 h2
   simp [h2]
 exact (hp.map _).trans (by rw [e])
section
variable {X:Cx}
theorem jP:bC X (.builtin "sorted") (fun xs H Q=>∃(p:Addr) (rs:List (Addr×Str)),xs=[.ref p]/\(SqL X.K H p (refs rs)\/SqT X.K H p (refs rs))/\mC H rs/\rs.length < 64/\(rs.map (·.2)).Nodup /\
  ∀(rs':List (Addr×Str)) (q:Addr),rs'.Perm rs->(rs'.map (·.2)).Pairwise nlt->H q=none->Q (.ref q) (upd H q (.lst (refs rs')))):=by
 intro pins s σ H xs us Q I r h
 obtain⟨p,rs,rfl,hq,hR,h64,hnd,q⟩:=h
 obtain⟨u,rfl,rx⟩:=vals1 r
 cases rx
 have core:∀(T:String) (o:Obj) (its:List Value) (n:Nat),(T="list"\/T="tuple")->s.heap.get? p=some o->o.cls=.type T->o.data=.seq its.toArray n->av (refs rs) its ->
   wpAny (model X.prog X.w) X.A (call (.builtin "sorted") [.ref p]) (EP X pins σ Q) X.xe s:=fun T o its n hT ho hc hd r'=>by
  have hl:=r'.length
  have hl':its.length=rs.length:=by rw [<- hl];simp
  have O:Ord its.length (fun i j=>decide (((rs.map (·.2)).getD i Str.empty).cps.toList < ((rs.map (·.2)).getD j Str.empty).cps.toList)):=by
   refine⟨fun i j k h1 h2=>?_,fun i=>?_,fun i j hi hj hij=>?_⟩
   ·exact decide_eq_true (List.lt_trans (of_decide_eq_true h1) (of_decide_eq_true h2))
   ·exact decide_eq_false (List.lt_irrefl _)
   ·have hil:i < (rs.map (·.2)).length:=by simpa [<- hl'] using hi
    have hjl:j < (rs.map (·.2)).length:=by simpa [<- hl'] using hj
    rw [List.getD_eq_getElem?_getD,List.getD_eq_getElem?_getD,List.getElem?_eq_getElem hil,List.getElem?_eq_getElem hjl]
    have ne:(rs.map (·.2))[i]≠(rs.map (·.2))[j]:=by
     rcases Nat.lt_or_gt_of_ne hij with y | y
     ·exact List.pairwise_iff_getElem.mp hnd i j hil hjl y
     ·exact fun z=>List.pairwise_iff_getElem.mp hnd j i hjl hil y z.symm
    exact (gx ne).imp decide_eq_true decide_eq_true
  refine tG hT ho hc hd (by omega) O (fun h2 s' hs'=>?_) fun pm hp ha=>?_
  ·obtain⟨fs,t,hS⟩:=jZ (I.hok.kept hs') hR r'
   have hfl:0 < fs.length:=by
    have:=hS.length
    simp at this
    omega
   exact uo t hS hfl hnd
  ·obtain⟨e,he⟩:=sortedAll_at s.heap its (eB its pm).toArray
   have hpm:Pm rs.length pm:=by rw [<- hl'];exact hp
   have hlt:∀i∈pm.toList,i < rs.length:=fun i hi=>by
    have:i∈(List.toArray (List.range rs.length)):=hpm.mem_iff.mp (by simpa using hi)
    simpa using this
   have hv:av ((pm.toList.map fun i=>(refs rs).getD i .non)) (eB its pm):=ky r' fun i hi=>by simpa using hlt i hi
   have he2:(pm.toList.map fun i=>(refs rs).getD i .non)=refs (pm.toList.map fun i=>rs.getD i (0,Str.empty)):=by
    unfold refs
    rw [List.map_map]
    exact List.map_congr_left fun i hi=>by simp [hlt i hi]
   rw [he2] at hv
   have hfr:H (s.heap.objs.size + 1)=none:=I.hok.fresh (Nat.le_succ _)
   have hpe:=qb (0,Str.empty) rs hpm
   refine⟨.ref (s.heap.objs.size + 1),_,I.laid (t':=s.toks) (o:=.lst (refs (pm.toList.map fun i=>rs.getD i (0,Str.empty)))) (fun b o z=>sortedAll_old z) (Nat.le_succ _) ⟨?_,eB its pm,e,hv,?_⟩,rfl,q _ _ hpe ?_ hfr⟩
   ·unfold refs
    rw [List.length_map,hpe.length_eq,sizeLine_eq];omega
   ·simpa [seqObj] using he
   ·rw [List.map_map,List.pairwise_map]
    refine List.pairwise_iff_getElem.mpr fun i j hi hj hij=>?_
    have hps:=hp.size
    have hi':i < pm.size:=by simpa using hi
    have hj':j < pm.size:=by simpa using hj
    have z:=of_decide_eq_true (ha i j hij (by omega))
    rw [fT hi',fT hj'] at z
    show ((rs.getD pm.toList[i] (0,Str.empty)).2).cps.toList < ((rs.getD pm.toList[j] (0,Str.empty)).2).cps.toList
    have b1:=hlt pm.toList[i] (List.getElem_mem _)
    have b2:=hlt pm.toList[j] (List.getElem_mem _)
    simp only [Array.getElem_toList] at b1 b2 ⊢
    simpa [b1,b2] using z
 rcases hq with hq | hq
 ·obtain⟨its,r',pl,hz⟩:=I.list hq
  obtain⟨o,ho,hc,n,hd⟩:=pl.isList
  exact core "list" o its n (.inl rfl) ho hc hd r'
 ·obtain⟨its,r',pl,hz⟩:=I.tuple hq
  obtain⟨o,ho,hc,n,hd⟩:=pl
  exact core "tuple" o its n (.inr rfl) ho hc hd r'
end
end L2
namespace L2
open PySem PySem.Spec PyProof.Rows
noncomputable def Its (x:Str):It:=⟨fun i _=>i < x.length,fun i H v H'=>H'=H/\∃c,x.cps[i]?=some c/\v=.str ⟨#[c]⟩,fun i _=>x.length<=i⟩
theorem qN {P:Program}{w:World}{K:PySem.W.Frag}{tg:Expr} (x:Str) (t:Tok) (it:Addr):Turn P w K tg (Its x) [it] it (fun i h=>h.IsStrIter it "str_ascii_iterator" x t i) where
 mem:=by simp
 obj:=fun i h st b hb=>by
  have e:b=it:=by simpa using hb
  subst e
  obtain⟨o,e,c,d⟩:=st
  exact⟨o,e,fun v z=>by rw [d] at z;cases z⟩
 keep:=fun i h h' st k=>by
  obtain⟨o,e,r⟩:=st
  exact⟨o,k it (by simp) o e,r⟩
 item:=by
  intro X hP hw hK hc i pins s σ H E I hf st hg
  subst hP hw hK
  have hg':i < x.cps.size:=hg
  obtain⟨f0,f1,f2,f3,f4,f5⟩:=hf it (by simp)
  refine wpAny_pyNext_ascii_item st (Array.getElem?_eq_getElem hg') fun h' st' sb=>?_
  have I1:Inv X pins σ H { s with heap:=h',toks:=s.toks + 1 }:=I.turned (fun b o hb e=>(sb.2 b hb).trans e) f0 f1 f3 f4 f5
  obtain⟨o,e,c,d⟩:=id st'
  exact⟨_,rfl,ff (s:={ s with heap:=h',toks:=s.toks + 1 }) e c d (by decide) ⟨.str ⟨#[x.cps[i]]⟩,H,I1,⟨_,rfl⟩,⟨rfl,_,Array.getElem?_eq_getElem hg',rfl⟩,st',fun b hb=>(hf b hb).1⟩⟩
 done:=by
  intro X hP hw hK hc i pins s σ H E I hf st hg
  subst hP hw hK
  have hg':x.cps.size<=i:=hg
  obtain⟨f0,f1,f2,f3,f4,f5⟩:=hf it (by simp)
  exact wpAny_pyNext_ascii_end (I.ok.hd hc) st (Array.getElem?_eq_none hg') fun h' eb=>⟨rfl,I.turned (t':=s.toks) (fun b o hb e=>eb b o hb e) f0 f1 f3 f4 f5⟩
 self:=fun A i s Q E st h=>wpAny_pyIter_striter_ascii st h
section
variable {X:Cx}{tg:Expr}
noncomputable def wF (tl:TE):TI:=fun σ H R=>tl σ H fun v H1=>∃x:Str,v=.str x/\x.cps.all (· < 128)=true/\R (Its x) H1
theorem ut {l:Expr}{tl:TE} (hl:PE X l tl):PI X tg l (wF tl):=by
 intro pins s σ H R I h
 refine thn (hl pins s σ H _ I h) fun v s1 ⟨x,H1,I1,r1,q1⟩=>?_
 obtain⟨y,rfl,ha,q⟩:=q1
 obtain⟨t,rfl⟩:=r1
 refine wpAny_pyIter_ascii ha ?_
 refine⟨s1.heap.objs.size,[s1.heap.objs.size],_,_,H1,rfl,I1.kept (t':=s1.toks) fun b o e=>Heap.get?_push_of_some _ e,qN y t _,⟨_,Heap.get?_push_size _ rfl,rfl,rfl⟩,fun b hb=>?_,q⟩
 have e:b=s1.heap.objs.size:=by simpa using hb
 subst e
 exact I1.fpOk (Nat.le_refl _) (I1.hok.fresh (Nat.le_refl _))
theorem uv:SlR X (fun x lo hi H Q=>∃z,x=.str z/\z.length<=sizeLine/\Q (.str (Txt.slice z lo hi)) H):=by
 intro pins s σ H x v vl vu lo hi sl Q I rx hs pl pu h
 obtain⟨z,rfl,hz,q⟩:=h
 obtain⟨t,rfl⟩:=rx
 have fin:∀(t':Tok) (k:Nat),EP X pins σ Q (.str (Txt.slice z lo hi) t') { s with toks:=k }:=fun t' k=>⟨.str (Txt.slice z lo hi),H,I.tok k,⟨_,rfl⟩,q⟩
 refine⟨"str",_,F.slot_str_getitem.lookup,typeIs_str _ _ _,?_⟩
 obtain⟨o,ho,hc,hd⟩:=hs
 cases pl with
 | none =>
  cases pu with
  | none=>exact wpAny_getItem_str_slice (l:=none) (u:=none) (st:=none) ⟨o,ho,hc,hd⟩ rfl (post_val_or_str ⟨Nat.le_trans (Txt.slice_le z _ _) hz,fun t' k=>fin t' k⟩)
  | int j uj=>exact wpAny_getItem_str_slice (l:=none) (u:=some (j,uj)) (st:=none) ⟨o,ho,hc,hd⟩ rfl (post_val_or_str ⟨Nat.le_trans (Txt.slice_le z _ _) hz,fun t' k=>fin t' k⟩)
 | int i ui =>
  cases pu with
  | none=>exact wpAny_getItem_str_slice (l:=some (i,ui)) (u:=none) (st:=none) ⟨o,ho,hc,hd⟩ rfl (post_val_or_str ⟨Nat.le_trans (Txt.slice_le z _ _) hz,fun t' k=>fin t' k⟩)
  | int j uj=>exact wpAny_getItem_str_slice (l:=some (i,ui)) (u:=some (j,uj)) (st:=none) ⟨o,ho,hc,hd⟩ rfl (post_val_or_str ⟨Nat.le_trans (Txt.slice_le z _ _) hz,fun t' k=>fin t' k⟩)
theorem p7 {prog:Program}{w:World}{A:Around}{E:Value->Shared->Prop}{s:Shared}{t sl:Addr}{items:Array Value}{vl vu:Value}{lo hi:Option Int}{Q:Value->Shared->Prop} (ht:IsTup s.heap t items) (hs:s.heap.IsSliceOf sl vl vu .none) (pl:IsPart vl lo) (pu:IsPart vu hi)
  (h0:HT.sIx items.size 0 lo=0) (h1:HT.sIx items.size items.size hi=items.size) (h:Q (.ref t) s):wpAny (model prog w) A (getItem (.ref t) (.ref sl)) Q E s:=by
 obtain⟨os,hos,hcs,hds⟩:=id hs
 have hTs:s.TypeIs (.ref sl) "slice":=⟨os,hos,hcs⟩
 unfold getItem
 try with_reducible refine wpAny_holding ?_
 first | refine wpAny_bind (wpAny_pure ?_) | skip
 refine wpAny_bind (wpAny_sequenceKey ht.typeIs (by decide) (wpAny_bind (wpAny_callSpecial?_slot (name:=Str.ofString "__getitem__") ht.typeIs PyProof.Rows.slot_tuple_getitem
  (wpAny_call_entry PyProof.Rows.slot_tuple_getitem ht.typeIs entry_tuple_getitem ?_ (args_tuple_getitem _ _)))))
 show wpAny _ _ (Builtin.Tuple.tupleItemsOf (.ref t) >>= _) _ _ s
 refine wpAny_bind (tupleItemsOf_ ht (wpAny_bind (wpAny_typeOf hTs ?_)))
 rw [if_pos (by decide)]
 refine wpAny_bind (HT.og hs pl pu ?_)
 show wpAny _ _ (if (((HT.sIx items.size 0 lo:Nat):Int) == 0 && (1:Int) == 1 && (HT.sIx items.size items.size hi - HT.sIx items.size 0 lo) == items.size)=true then _ else _) _ _ s
 rw [h0,h1,if_pos (by simp)]
 refine wpAny_bind (wpAny_bind (wpAny_typeOf ht.typeIs (wpAny_pure ?_)))
 rw [if_pos (by rfl)]
 exact wpAny_bind (wpAny_rule (wpAny_pure ⟨_,rfl,wpAny_pure h⟩))
noncomputable def vP (K:PySem.W.Frag):V->Option Int->Option Int->Hp->VK->Prop:=fun x lo hi H Q=>∃a xs,x=.ref a/\SqT K H a xs /\
 (bR xs lo hi=xs->Q (.ref a) H)/\∀p,H p=none->Q (.ref p) (upd H p (.tup (bR xs lo hi)))
theorem tK:SlR X (vP X.K):=by
 intro pins s σ H x v vl vu lo hi sl Q I rx hs pl pu h
 obtain⟨a,xs,rfl,hx,q1,q2⟩:=h
 by_cases hw:HT.sIx xs.length 0 lo=0/\HT.sIx xs.length xs.length hi=xs.length
 ·cases rx
  obtain⟨its,r,ht,hz⟩:=I.tuple hx
  have hlen:its.toArray.size=xs.length:=by rw [List.size_toArray];exact r.length.symm
  refine⟨"tuple",_,PyProof.Rows.slot_tuple_getitem.lookup,ht.typeIs,p7 ht hs pl pu (by rw [hlen];exact hw.1) (by rw [hlen];exact hw.2) ⟨.ref a,H,I,rfl,q1 ?_⟩⟩
  unfold bR
  rw [hw.1,hw.2]
  simp
 ·exact ug pins s σ H (.ref a) v vl vu lo hi sl Q I rx hs pl pu ⟨a,xs,rfl,hx,hw,q2⟩
noncomputable def ny (K:PySem.W.Frag):R2:=fun x y H Q=>∃a b xs ys,x=.ref a/\y=.ref b/\SqT K H a xs/\SqT K H b ys/\xs.length + ys.length<=sizeLine /\
 (xs=[]->Q (.ref b) H)/\(ys=[]->Q (.ref a) H)/\∀p,H p=none->Q (.ref p) (upd H p (.tup (xs++ys)))
theorem tW:OpR X (binaryOp .Add) (ny X.K):=by
 intro pins s σ H x y v u Q I rx ry h
 obtain⟨a,b,xs,ys,rfl,rfl,ha,hb,hz,q0,q1,q2⟩:=h
 by_cases hx:xs=[]
 ·subst hx
  cases rx
  cases ry
  obtain⟨its,r1,p1,_⟩:=I.tuple ha
  obtain⟨its2,r2,p2,_⟩:=I.tuple hb
  cases r1
  obtain⟨⟨cls,dd,data,sl⟩,ho,hc,n,hd⟩:=id p1
  obtain⟨⟨cls2,dd2,data2,sl2⟩,ho2,hc2,n2,hd2⟩:=id p2
  simp only at hc hd hc2 hd2
  subst hc hd hc2 hd2
  exact concat_meets ⟨_,ho,rfl⟩ ⟨_,ho2,rfl⟩ noFill_tuple_add seq_tuple_add PySem.F.slot_tuple_add PySem.F.entry_tuple_add (PySem.F.args_tuple_add_2 _ _)
   (tuple_addW0 a b _ its2.toArray n n2 dd dd2 sl sl2 (by simp)) ⟨ho,ho2,⟨.ref b,H,I,rfl,q0 rfl⟩⟩
 ·exact sR pins s σ H (.ref a) (.ref b) v u Q I rx ry ⟨a,b,xs,ys,rfl,rfl,ha,hb,hx,hz,q1,fun _=>q2⟩
end
section
variable {K:PySem.W.Frag}{g:TG}{tt:TT}{te:TE}{σ':St}{fin:List V->Hp->Prop}{H1:Hp}
theorem gv {J:It}{n:Nat} (hn:n < sizeLine) (Pv:Nat->List V->St->Hp->Prop) (Yd:Nat->V->Prop) (h0:Pv 0 [] σ' H1) (hl:∀i ys σ H,i<=n->Pv i ys σ H->ys.length<=i)
  (hgo:∀i ys σ H,i < n->Pv i ys σ H->J.go i H) (hst:∀ys σ H,Pv n ys σ H->J.stop n H) (hy:∀i ys σ H x H',i < n->Pv i ys σ H->J.yld i H x H'->H'=H/\Yd i x)
  (hs:∀i x ys σ H,i < n->Yd i x->Pv i ys σ H->g x σ H fun σ2 H2=>tt σ2 H2 fun b H3=>if b=true then te σ2 H3 (fun v H4=>Pv (i + 1) (ys++[v]) σ2 H4) else Pv (i + 1) ys σ2 H3) (hd:∀ys σ H,Pv n ys σ H->fin ys H) :
  LcW J g tt te σ' fin H1:=by
 refine⟨fun i m ys σ H=>m=n - i/\i<=n/\Pv i ys σ H,⟨n,by simp,Nat.zero_le _,h0⟩,?_⟩
 rintro i m ys σ H ⟨rfl,hi,p⟩
 have hly:=hl i ys σ H hi p
 by_cases hlt:i < n
 ·refine .inr ⟨hgo i ys σ H hlt p,by omega,fun ys' σ2 H2=>Pv (i + 1) ys' σ2 H2,fun ys' σ2 H2 q=>⟨n - (i + 1),by omega,rfl,hlt,q⟩,fun x H' y=>?_⟩
  obtain⟨e,yd⟩:=hy i ys σ H x H' hlt p y
  subst e
  exact hs i x ys σ H' hlt yd p
 ·have e:i=n:=by omega
  subst e
  exact .inl ⟨hst ys σ H p,by omega,hd ys σ H p⟩
theorem iY {a:Addr}{xs:List V} (hn:xs.length < sizeLine) (Pv:Nat->List V->St->Hp->Prop) (h0:Pv 0 [] σ' H1) (hl:∀i ys σ H,i<=xs.length->Pv i ys σ H->ys.length<=i/\SqT K H a xs)
  (hs:∀i x ys σ H,xs[i]?=some x->Pv i ys σ H->g x σ H fun σ2 H2=>tt σ2 H2 fun b H3=>if b=true then te σ2 H3 (fun v H4=>Pv (i + 1) (ys++[v]) σ2 H4) else Pv (i + 1) ys σ2 H3) (hd:∀ys σ H,Pv xs.length ys σ H->fin ys H) :
  LcW (Itt K a) g tt te σ' fin H1 :=
 gv hn Pv (fun i x=>xs[i]?=some x) h0 (fun i ys σ H hi p=>(hl i ys σ H hi p).1) (fun i ys σ H hi p=>⟨xs,xs[i],(hl i ys σ H (Nat.le_of_lt hi) p).2,by simp [hi]⟩) (fun ys σ H p=>⟨xs,(hl _ ys σ H (Nat.le_refl _) p).2,Nat.le_refl _⟩)
  (fun i ys σ H x H' hi p y=>⟨y.1,y.2 xs (hl i ys σ H (Nat.le_of_lt hi) p).2⟩) (fun i x ys σ H _ yd p=>hs i x ys σ H yd p) hd
theorem iN {a:Addr}{xs:List V} (hn:xs.length < sizeLine) (Pv:Nat->List V->St->Hp->Prop) (h0:Pv 0 [] σ' H1) (hl:∀i ys σ H,i<=xs.length->Pv i ys σ H->ys.length<=i/\SqL K H a xs)
  (hs:∀i x ys σ H,xs[i]?=some x->Pv i ys σ H->g x σ H fun σ2 H2=>tt σ2 H2 fun b H3=>if b=true then te σ2 H3 (fun v H4=>Pv (i + 1) (ys++[v]) σ2 H4) else Pv (i + 1) ys σ2 H3) (hd:∀ys σ H,Pv xs.length ys σ H->fin ys H) :
  LcW (Itl K a) g tt te σ' fin H1 :=
 gv hn Pv (fun i x=>xs[i]?=some x) h0 (fun i ys σ H hi p=>(hl i ys σ H hi p).1) (fun i ys σ H hi p=>⟨xs,xs[i],(hl i ys σ H (Nat.le_of_lt hi) p).2,by simp [hi]⟩) (fun ys σ H p=>⟨xs,(hl _ ys σ H (Nat.le_refl _) p).2,Nat.le_refl _⟩)
  (fun i ys σ H x H' hi p y=>⟨y.1,y.2 xs (hl i ys σ H (Nat.le_of_lt hi) p).2⟩) (fun i x ys σ H _ yd p=>hs i x ys σ H yd p) hd
theorem qw {lo:Int}{n:Nat} (hn:n < sizeLine) (Pv:Nat->List V->St->Hp->Prop) (h0:Pv 0 [] σ' H1) (hl:∀i ys σ H,i<=n->Pv i ys σ H->ys.length<=i)
  (hs:∀i ys σ H,i < n->Pv i ys σ H->g (.int (lo + i)) σ H fun σ2 H2=>tt σ2 H2 fun b H3=>if b=true then te σ2 H3 (fun v H4=>Pv (i + 1) (ys++[v]) σ2 H4) else Pv (i + 1) ys σ2 H3) (hd:∀ys σ H,Pv n ys σ H->fin ys H) :
  LcW (Itr lo n) g tt te σ' fin H1 :=
 gv hn Pv (fun i x=>x=.int (lo + i)) h0 hl (fun i ys σ H hi p=>hi) (fun ys σ H p=>Nat.le_refl _) (fun i ys σ H x H' hi p y=>y) (fun i x ys σ H hi yd p=>by subst yd;exact hs i ys σ H hi p) hd
theorem si {x:Str} (hn:x.length < sizeLine) (Pv:Nat->List V->St->Hp->Prop) (h0:Pv 0 [] σ' H1) (hl:∀i ys σ H,i<=x.length->Pv i ys σ H->ys.length<=i)
  (hs:∀i c ys σ H,x.cps[i]?=some c->Pv i ys σ H->g (.str ⟨#[c]⟩) σ H fun σ2 H2=>tt σ2 H2 fun b H3=>if b=true then te σ2 H3 (fun v H4=>Pv (i + 1) (ys++[v]) σ2 H4) else Pv (i + 1) ys σ2 H3) (hd:∀ys σ H,Pv x.length ys σ H->fin ys H) :
  LcW (Its x) g tt te σ' fin H1 :=
 gv hn Pv (fun i v=>∃c,x.cps[i]?=some c/\v=.str ⟨#[c]⟩) h0 hl (fun i ys σ H hi p=>hi) (fun ys σ H p=>Nat.le_refl _) (fun i ys σ H v H' hi p y=>y) (fun i v ys σ H hi yd p=>by obtain⟨c,e,rfl⟩:=yd;exact hs i c ys σ H e p) hd
end
section
variable {K:PySem.W.Frag}{tt:TT}{te:TE}{σ':St}{fin:List V->Hp->Prop}{H1:Hp}{j:Nat}
theorem dU {a:Addr}{xs:List V} (hn:xs.length < sizeLine) (Pv:Nat->List V->St->Hp->Prop) (h0:Pv 0 [] σ' H1) (hl:∀i ys σ H,i<=xs.length->Pv i ys σ H->ys.length<=i/\SqT K H a xs)
  (hs:∀i x ys σ H,xs[i]?=some x->Pv i ys σ H->te (σ.set j (some x)) H fun v H4=>Pv (i + 1) (ys++[v]) (σ.set j (some x)) H4) (hd:∀ys σ H,Pv xs.length ys σ H->fin ys H):LcW (Itt K a) (bH j) bQ te σ' fin H1 :=
 iY hn Pv h0 hl (fun i x ys σ H hx p=>by unfold bH bQ;exact bJ (hs i x ys σ H hx p)) hd
theorem eI {a:Addr}{xs:List V} (hn:xs.length < sizeLine) (Pv:Nat->List V->St->Hp->Prop) (h0:Pv 0 [] σ' H1) (hl:∀i ys σ H,i<=xs.length->Pv i ys σ H->ys.length<=i/\SqL K H a xs)
  (hs:∀i x ys σ H,xs[i]?=some x->Pv i ys σ H->te (σ.set j (some x)) H fun v H4=>Pv (i + 1) (ys++[v]) (σ.set j (some x)) H4) (hd:∀ys σ H,Pv xs.length ys σ H->fin ys H):LcW (Itl K a) (bH j) bQ te σ' fin H1 :=
 iN hn Pv h0 hl (fun i x ys σ H hx p=>by unfold bH bQ;exact bJ (hs i x ys σ H hx p)) hd
theorem fB {lo:Int}{n:Nat} (hn:n < sizeLine) (Pv:Nat->List V->St->Hp->Prop) (h0:Pv 0 [] σ' H1) (hl:∀i ys σ H,i<=n->Pv i ys σ H->ys.length<=i)
  (hs:∀i ys σ H,i < n->Pv i ys σ H->te (σ.set j (some (.int (lo + i)))) H fun v H4=>Pv (i + 1) (ys++[v]) (σ.set j (some (.int (lo + i)))) H4) (hd:∀ys σ H,Pv n ys σ H->fin ys H):LcW (Itr lo n) (bH j) bQ te σ' fin H1 :=
 qw hn Pv h0 hl (fun i ys σ H hx p=>by unfold bH bQ;exact bJ (hs i ys σ H hx p)) hd
theorem rO {x:Str} (hn:x.length < sizeLine) (Pv:Nat->List V->St->Hp->Prop) (h0:Pv 0 [] σ' H1) (hl:∀i ys σ H,i<=x.length->Pv i ys σ H->ys.length<=i)
  (hs:∀i c ys σ H,x.cps[i]?=some c->Pv i ys σ H->te (σ.set j (some (.str ⟨#[c]⟩))) H fun v H4=>Pv (i + 1) (ys++[v]) (σ.set j (some (.str ⟨#[c]⟩))) H4) (hd:∀ys σ H,Pv x.length ys σ H->fin ys H):LcW (Its x) (bH j) bQ te σ' fin H1 :=
 si hn Pv h0 hl (fun i c ys σ H hx p=>by unfold bH bQ;exact bJ (hs i c ys σ H hx p)) hd
theorem fN {a:Addr}{xs:List V} (hn:xs.length < sizeLine) (Pv:Nat->List V->St->Hp->Prop) (h0:Pv 0 [] σ' H1) (hl:∀i ys σ H,i<=xs.length->Pv i ys σ H->ys.length<=i/\SqT K H a xs)
  (hs:∀i x ys σ H,xs[i]?=some x->Pv i ys σ H->tt (σ.set j (some x)) H fun b H3=>if b=true then te (σ.set j (some x)) H3 (fun v H4=>Pv (i + 1) (ys++[v]) (σ.set j (some x)) H4) else Pv (i + 1) ys (σ.set j (some x)) H3)
  (hd:∀ys σ H,Pv xs.length ys σ H->fin ys H):LcW (Itt K a) (bH j) tt te σ' fin H1:=iY hn Pv h0 hl hs hd
theorem fG {a:Addr}{xs:List V} (hn:xs.length < sizeLine) (Pv:Nat->List V->St->Hp->Prop) (h0:Pv 0 [] σ' H1) (hl:∀i ys σ H,i<=xs.length->Pv i ys σ H->ys.length<=i/\SqL K H a xs)
  (hs:∀i x ys σ H,xs[i]?=some x->Pv i ys σ H->tt (σ.set j (some x)) H fun b H3=>if b=true then te (σ.set j (some x)) H3 (fun v H4=>Pv (i + 1) (ys++[v]) (σ.set j (some x)) H4) else Pv (i + 1) ys (σ.set j (some x)) H3)
  (hd:∀ys σ H,Pv xs.length ys σ H->fin ys H):LcW (Itl K a) (bH j) tt te σ' fin H1:=iN hn Pv h0 hl hs hd
end
noncomputable abbrev lc2 (elt tg iter tg2 iter2:Expr) (ifs ifs2:List Expr) (scope:Scope) (pos:Pos):Expr:=.ListComp elt [⟨tg,iter,ifs,0⟩,⟨tg2,iter2,ifs2,0⟩] scope pos
theorem qD (elt tg iter tg2 iter2:Expr) (ifs ifs2:List Expr) (scope:Scope) (pos:Pos) (it acc:Value) (env:Env):compTurn (lc2 elt tg iter tg2 iter2 ifs ifs2 scope pos) 1 it acc env=(do
   standAt iter2.pos
   match <- pyNext it with
   | none=>pure (.done .next)
   | some v =>
    letOwnedTupleGo tg2 it v
    assign tg2 env v
    let mut ok:=true
    for c in ifs2 do
     if ok then ok <- isTrue c env (eval c env)
    if ok then (do let _ <- call (.builtin "list.append") [acc,<- eval elt env])
    again (.compLoop (lc2 elt tg iter tg2 iter2 ifs ifs2 scope pos) 1 it acc env)):=by rfl
theorem qC (elt tg iter tg2 iter2:Expr) (ifs ifs2:List Expr) (scope:Scope) (pos:Pos) (it acc:Value) (env:Env):compTurn (lc2 elt tg iter tg2 iter2 ifs ifs2 scope pos) 0 it acc env=(do
   standAt iter.pos
   match <- pyNext it with
   | none=>pure (.done .next)
   | some v =>
    letOwnedTupleGo tg it v
    assign tg env v
    let mut ok:=true
    for c in ifs do
     if ok then ok <- isTrue c env (eval c env)
    if ok then
     let x <- eval iter2 env
     standAt iter2.pos
     let x <- foldedSetIterable iter2 env x
     let _ <- runOwn (.compStart (lc2 elt tg iter tg2 iter2 ifs ifs2 scope pos) 1 (<- holding [x] (pyIter x)) acc env) env
    again (.compLoop (lc2 elt tg iter tg2 iter2 ifs ifs2 scope pos) 0 it acc env)):=by rfl
section
variable {prog:Program}{w:World}{A:Around}{R:Result->Shared->Prop}{s:Shared}{elt tg iter tg2 iter2:Expr}{ifs ifs2:List Expr}{scope:Scope}{pos:Pos}{it acc:Value}{env:Env}
theorem qc (h0:codeAny (model prog w) A (.compLoop (lc2 elt tg iter tg2 iter2 ifs ifs2 scope pos) 1 it acc env) R s)
  (h:wpAny (model prog w) A (pyIter it) (fun it' s'=>codeAny (model prog w) A (.compLoop (lc2 elt tg iter tg2 iter2 ifs ifs2 scope pos) 1 it' acc env) R s') (fun _ _=>False) s) :
  codeAny (model prog w) A (.compStart (lc2 elt tg iter tg2 iter2 ifs ifs2 scope pos) 1 it acc env) R s:=by
 refine codeAny_of_tree ?_
 show wpAny _ _ ((compStart (lc2 elt tg iter tg2 iter2 ifs ifs2 scope pos) 1 it acc env).onRaise (fun x=>do noteFrame x env;standAt theWindowsPlace)) _ _ s
 refine wpAny_notedAt (wpAny_mono (E:=fun _ _=>False) ?_ (fun _ _ q=>q) fun _ _ f=>f.elim)
 unfold compStart
 show wpAny _ _ (ask >>= _) _ _ s
 refine wpAny_bind (wpAny_askSetting (wpAny_ite ?_))
 split
 ·first | exact wpAny_bind (wpAny_pure (wpAny_pure (And.intro rfl h0))) | exact wpAny_pure (And.intro rfl h0)
 ·first
   | exact wpAny_bind (wpAny_rule (wpAny_bind (wpAny_standAt (wpAny_bind (wpAny_mono h (fun it' s' h'=>wpAny_pure (And.intro rfl h')) fun _ _ x=>x)))))
   | (refine wpAny_bind (wpAny_rule ?_);show wpAny _ _ (standAt iter2.pos >>= _) _ _ s;exact wpAny_bind (wpAny_standAt (wpAny_bind (wpAny_mono h (fun it' s' h'=>wpAny_pure (And.intro rfl h')) fun _ _ x=>x))))
theorem rM (J:Nat->Shared->Prop)
  (turn:∀n s,J n s->wpAny (model prog w) A (pyNext it) (fun r s1=>match r with
   | none=>R (.ok .next) s1
   | some v=>wpAny (model prog w) A (letOwnedTupleGo tg2 it v) (fun _ s2=>wpAny (model prog w) A (assign tg2 env v) (fun _ s3 =>
     wpAny (model prog w) A (forIn ifs2 true fun c r=>if r=true then do let ok <- isTrue c env (eval c env);pure (ForInStep.yield ok) else pure (ForInStep.yield r)) (fun ok s4 =>
      if ok=true then wpAny (model prog w) A (eval elt env) (fun x s5=>wpAny (model prog w) A (call (.builtin "list.append") [acc,x]) (fun _ s6=>∃m,m < n/\J m s6) (fun _ _=>False) s5) (fun _ _=>False) s4
      else ∃m,m < n/\J m s4) (fun _ _=>False) s3) (fun _ _=>False) s2) (fun _ _=>False) s1) (fun _ _=>False) s)
  (n:Nat) (h:J n s):codeAny (model prog w) A (.compLoop (lc2 elt tg iter tg2 iter2 ifs ifs2 scope pos) 1 it acc env) R s:=by
 refine codeAny_loop rfl J (fun k t hJ=>?_) n h
 show wpAny _ A ((compTurn (lc2 elt tg iter tg2 iter2 ifs ifs2 scope pos) 1 it acc env).onRaise (fun x=>do noteFrame x env;theTreesLotGoes x)) _ _ t
 refine wpAny_noted (wpAny_mono (E:=fun _ _=>False) ?_ (fun _ _ q=>q) fun _ _ f=>f.elim)
 rw [qD]
 refine wpAny_bind (wpAny_standAt (wpAny_bind (thn (turn k t hJ) fun r s1 h1=>?_)))
 cases r with
 | none=>exact wpAny_pure h1
 | some v =>
  refine wpAny_bind (thn h1 fun _ s2 h2=>wpAny_bind (thn h2 fun _ s3 h3=>wpAny_bind (thn h3 fun ok s4 h4=>?_)))
  cases ok with
  | false=>exact wpAny_pure ⟨rfl,h4⟩
  | true=>exact wpAny_bind (wpAny_bind (thn h4 fun x s5 h5=>wpAny_bind (thn h5 fun _ s6 h6=>wpAny_pure (wpAny_pure ⟨rfl,h6⟩))))
theorem qL (hs:∀x,foldedSetIterable iter2 env x=pure x) (J:Nat->Shared->Prop)
  (turn:∀n s,J n s->wpAny (model prog w) A (pyNext it) (fun r s1=>match r with
   | none=>R (.ok .next) s1
   | some v=>wpAny (model prog w) A (letOwnedTupleGo tg it v) (fun _ s2=>wpAny (model prog w) A (assign tg env v) (fun _ s3 =>
     wpAny (model prog w) A (forIn ifs true fun c r=>if r=true then do let ok <- isTrue c env (eval c env);pure (ForInStep.yield ok) else pure (ForInStep.yield r)) (fun ok s4 =>
      if ok=true then wpAny (model prog w) A (eval iter2 env) (fun x s5=>wpAny (model prog w) A (pyIter x) (fun it2 s6=>codeAny (model prog w) A (.compStart (lc2 elt tg iter tg2 iter2 ifs ifs2 scope pos) 1 it2 acc env) (fun r s7=>match r with | .ok _=>∃m,m < n/\J m s7 | .error _=>False) s6) (fun _ _=>False) s5) (fun _ _=>False) s4
      else ∃m,m < n/\J m s4) (fun _ _=>False) s3) (fun _ _=>False) s2) (fun _ _=>False) s1) (fun _ _=>False) s)
  (n:Nat) (h:J n s):codeAny (model prog w) A (.compLoop (lc2 elt tg iter tg2 iter2 ifs ifs2 scope pos) 0 it acc env) R s:=by
 refine codeAny_loop rfl J (fun k t hJ=>?_) n h
 show wpAny _ A ((compTurn (lc2 elt tg iter tg2 iter2 ifs ifs2 scope pos) 0 it acc env).onRaise (fun x=>do noteFrame x env;theTreesLotGoes x)) _ _ t
 refine wpAny_noted (wpAny_mono (E:=fun _ _=>False) ?_ (fun _ _ q=>q) fun _ _ f=>f.elim)
 rw [qC]
 refine wpAny_bind (wpAny_standAt (wpAny_bind (thn (turn k t hJ) fun r s1 h1=>?_)))
 cases r with
 | none=>exact wpAny_pure h1
 | some v =>
  refine wpAny_bind (thn h1 fun _ s2 h2=>wpAny_bind (thn h2 fun _ s3 h3=>wpAny_bind (thn h3 fun ok s4 h4=>?_)))
  cases ok with
  | false=>exact wpAny_pure ⟨rfl,h4⟩
  | true =>
   refine wpAny_bind (thn h4 fun x s5 h5=>wpAny_bind (wpAny_standAt (wpAny_bind (wpAny_of_eq (hs x) (wpAny_bind (wpAny_holding (thn h5 fun it2 s6 h6=>wpAny_bind (wpAny_runOwn ?_))))))))
   rw [Around.mark_none]
   refine codeAny_mono h6 fun r s7 h7=>?_
   cases r with
   | error e=>exact h7.elim
   | ok f=>exact wpAny_pure ⟨rfl,h7⟩
end
noncomputable def nW (J:It) (g:TG) (tt:TT) (te:TE) (ys0:List V) (σ':St) (fin:List V->St->Hp->Prop) (H1:Hp):Prop :=
 ∃W:Nat->Nat->List V->St->Hp->Prop,(∃m,W 0 m ys0 σ' H1)/\∀i m ys σ H,W i m ys σ H ->
  (J.stop i H/\ys.length<=sizeLine/\fin ys σ H)\/(J.go i H/\ys.length < sizeLine/\∃Nx:List V->St->Hp->Prop,(∀ys' σ' H',Nx ys' σ' H'->∃m',m' < m/\W (i + 1) m' ys' σ' H') /\
   ∀x H',J.yld i H x H'->g x σ H' fun σ2 H2=>tt σ2 H2 fun b H3=>if b=true then te σ2 H3 (fun v H4=>Nx (ys++[v]) σ2 H4) else Nx ys σ2 H3)
noncomputable abbrev lsO (its:List Value) (k:Nat):Obj:={ cls:=.type "list",data:=.seq its.toArray k }
theorem qZ {Y:Cx}{D:Addr}{elt tg iter tg2 iter2:Expr}{ifs ifs2:List Expr}{scope:Scope}{pos:Pos}{g:TG}{tt:TT}{te:TE} (hc:Y.calm=true) (hDC:D≠Y.env.locals) (hDf:D∉Y.fs) (hDs:Y.s₀.heap.objs.size<=D) (cellD:∀x c,Y.env.cells.lookup x=some c->c≠D) (pn:Y.pn=[]) (hxe:Y.xe=fun _ _=>False)
  (hg:PG Y tg2 g) (ht:PTs Y ifs2 tt) (he:PE Y elt te) {P0:List (Addr×Obj)} (hP0:∀p∈P0,p.1≠D)
  {σ:St}{H:Hp}{s:Shared}{its:List Value}{k:Nat}{it:Addr}{fp:List Addr}{tn:Nat->Heap->Prop}{J:It}{ys:List V}{fin:List V->St->Hp->Prop}{R:Result->Shared->Prop}
  (I:Inv Y ((D,lsO its k)::P0) σ H s) (rv:av ys its) (T:Turn Y.prog Y.w Y.K tg2 J fp it tn) (st:tn 0 s.heap) (f2:∀b∈fp,aY Y ((D,lsO its k)::P0) H b) (hW:nW J g tt te ys σ fin H)
  (hR:∀σ' H' s' ys' its' k',Inv Y ((D,lsO its' k')::P0) σ' H' s'->av ys' its'->ys'.length<=sizeLine->fin ys' σ' H'->R (.ok .next) s') :
  codeAny (model Y.prog Y.w) Y.A (.compLoop (lc2 elt tg iter tg2 iter2 ifs ifs2 scope pos) 1 (.ref it) (.ref D) Y.env) R s:=by
 obtain⟨W,⟨m0,w0⟩,turn⟩:=hW
 have nD:∀b∈fp,b≠D:=fun b hb z=>(f2 b hb).2.2.2.2.2 (D,lsO its k) (List.mem_append_right _ List.mem_cons_self) z.symm
 have stat:∀{H':Hp} (its':List Value) (k':Nat),(∀b∈fp,H' b=none)->∀b∈fp,aY Y ((D,lsO its' k')::P0) H' b:=fun {H'} its' k' hn b hb=>by
  obtain⟨_,a1,a2,a3,a4,a5⟩:=f2 b hb
  refine⟨hn b hb,a1,a2,a3,a4,fun p hp=>?_⟩
  rcases List.mem_append.mp hp with z | z
  ·exact a5 p (List.mem_append_left _ z)
  ·rcases List.mem_cons.mp z with q | q
   ·rw [q];exact fun z=>nD b hb z.symm
   ·exact a5 p (List.mem_append_right _ (List.mem_cons_of_mem _ q))
 refine rM (fun n s'=>∃i σ' H' ys its k,Inv Y ((D,lsO its k)::P0) σ' H' s'/\tn i s'.heap/\(∀b∈fp,H' b=none)/\av ys its/\W i n ys σ' H') ?_ m0 ⟨0,σ,H,ys,its,k,I,st,fun b hb=>(f2 b hb).1,rv,w0⟩
 rintro n s' ⟨i,σ',H',ys,its,k,I',st',fr',rv,w'⟩
 rcases turn i n ys σ' H' w' with ⟨stop,hz,qf⟩ | ⟨go,hz,Nx,hN,step⟩
 ·refine thn (T.done Y rfl rfl rfl hc i _ s' σ' H' _ I' (stat _ _ fr') st' stop) fun r s5 ⟨hr,I5⟩=>?_
  subst hr
  exact hR σ' H' s5 ys its k I5 rv hz qf
 ·refine thn (T.item Y rfl rfl rfl hc i _ s' σ' H' _ I' (stat _ _ fr') st' go) fun r s5 ⟨u,hr,h5⟩=>?_
  subst hr
  refine thn h5 fun _ s6 ⟨x,H6,I6,r6,y6,st6,fr6⟩=>?_
  have I6':=I6.pinned (stat _ _ fr6) (T.obj _ _ st6)
  have g1:=hg _ s6 σ' H6 x u _ I6' r6 (step x H6 y6)
  rw [hxe] at g1
  refine thn g1 fun _ s7 ⟨σ7,H7,I7,q7⟩=>?_
  have g2:=ht _ s7 σ7 H7 _ I7 q7
  rw [hxe] at g2
  refine thn g2 fun ok s8 ⟨H8,I8,q8⟩=>?_
  have back:∀{H9:Hp}{s9:Shared},Inv Y (((D,lsO its k)::P0)++cg fp s6.heap) σ7 H9 s9->tn (i + 1) s9.heap/\∀b∈fp,H9 b=none:=fun {H9 s9} I9=>by
   refine⟨T.keep _ _ _ st6 fun b hb o e=>(I9.pin (b,o) (List.mem_append_right _ (List.mem_append_right _ (bS hb e)))).1,fun b hb=>?_⟩
   obtain⟨o,e,d⟩:=T.obj _ _ st6 b hb
   exact (I9.pin (b,o) (List.mem_append_right _ (List.mem_append_right _ (bS hb e)))).2.1
  cases ok with
  | false =>
   rw [if_neg Bool.false_ne_true] at q8 ⊢
   obtain⟨m',hm,w8⟩:=hN _ _ _ q8
   obtain⟨st8,fr8⟩:=back I8
   exact⟨m',hm,i + 1,σ7,H8,ys,its,k,I8.unpinned,st8,fr8,rv,w8⟩
  | true =>
   rw [if_pos rfl] at q8 ⊢
   have g3:=he _ s8 σ7 H8 _ I8 q8
   rw [hxe] at g3
   refine thn g3 fun y s9 ⟨v,H9,I9,r9,q9⟩=>?_
   have hD9:=I9.pin (D,lsO its k) (List.mem_append_right _ (List.mem_append_left _ List.mem_cons_self))
   obtain⟨st9,fr9⟩:=back I9
   refine wpAny_list_append_plain (hsz:=by have:=rv.length;rw [List.size_toArray];omega) ⟨k,hD9.1⟩ fun h' hl' hs'=>?_
   obtain⟨m',hm,w9⟩:=hN _ _ _ q9
   obtain⟨k',ho'⟩:=hl'
   have IP:Inv Y P0 σ7 H9 s9:=I9.pins_of fun p hp=>I9.pin p (List.mem_append_right _ (List.mem_append_left _ (List.mem_cons_of_mem _ hp)))
   have I10:Inv Y P0 σ7 H9 { s9 with heap:=h' }:=IP.turned (t':=s9.toks) (it:=D) (fun b o hb e=>hs'.extBut b o hb e) hD9.2.1 hDC (.inr hDs) cellD (fun p hp=>by
    rw [pn,List.nil_append] at hp
    exact hP0 p hp)
   refine⟨m',hm,i + 1,σ7,H9,ys++[v],its++[y],k',I10.pins_of fun p hp=>?_,T.keep _ _ _ st9 fun b hb o e=>hs'.extBut b o (nD b hb) e,fr9,rv.append (.cons r9 .nil),w9⟩
   rcases List.mem_cons.mp hp with q | q
   ·rw [q];exact⟨by show h'.get? D=_;rw [ho'];simp,hD9.2.1,hDC,hDf,fun v z=>by cases z⟩
   ·exact I10.pin p (List.mem_append_right _ q)
noncomputable def nJ (J:It) (g:TG) (tt:TT) (wi2:TI) (g2:TG) (tt2:TT) (te:TE) (σ':St) (fin:List V->Hp->Prop) (H1:Hp):Prop :=
 ∃W:Nat->Nat->List V->St->Hp->Prop,(∃m,W 0 m [] σ' H1)/\∀i m ys σ H,W i m ys σ H ->
  (J.stop i H/\ys.length<=sizeLine/\fin ys H)\/(J.go i H/\∃Nx:List V->St->Hp->Prop,(∀ys' σ' H',Nx ys' σ' H'->∃m',m' < m/\W (i + 1) m' ys' σ' H') /\
   ∀x H',J.yld i H x H'->g x σ H' fun σ2 H2=>tt σ2 H2 fun b H3=>if b=true then wi2 σ2 H3 (fun J2 H4=>nW J2 g2 tt2 te ys σ2 Nx H4) else Nx ys σ2 H3)
noncomputable def wK (wi:TI) (g:TG) (tt:TT) (wi2:TI) (g2:TG) (tt2:TT) (te:TE) (ix:List (Option Nat)):TE:=fun σ H Q=>wi σ H fun J H1=>nJ J g tt wi2 g2 tt2 te (emb ix σ) (fun ys H'=>∀p,H' p=none->Q (.ref p) (upd H' p (.lst ys))) H1
section
variable {X:Cx}{scope:Scope}{N:List Str}{ix:List (Option Nat)}{tg iter tg2 iter2 elt:Expr}{ifs ifs2:List Expr}{pos:Pos}{g g2:TG}{tt tt2:TT}{te:TE}{wi wi2:TI}
theorem tR (L:bz X scope N ix) (hc:X.calm=true) (hg:∀C s0 H0 fp,PG (au X scope N C s0 H0 fp) tg g) (ht:∀C s0 H0 fp,PTs (au X scope N C s0 H0 fp) ifs tt) (hi2:∀C s0 H0 fp,PI (au X scope N C s0 H0 fp) tg2 iter2 wi2) (hs2:∀C s0 H0 fp x,foldedSetIterable iter2 (au X scope N C s0 H0 fp).env x=pure x) (hg2:∀C s0 H0 fp,PG (au X scope N C s0 H0 fp) tg2 g2) (ht2:∀C s0 H0 fp,PTs (au X scope N C s0 H0 fp) ifs2 tt2) (he:∀C s0 H0 fp,PE (au X scope N C s0 H0 fp) elt te)
  {pins:List (Addr×Obj)}{σ:St}{H2:Hp}{s2:Shared}{it:Addr}{fp:List Addr}{tn:Nat->Heap->Prop}{J:It}{fin:List V->Hp->Prop}{E:Value->Shared->Prop}{RR:Value->Addr->Result->Shared->Prop}
  (I2:Inv X pins σ H2 s2) (T:Turn X.prog X.w X.K tg J fp it tn) (st:tn 0 s2.heap) (f2:∀b∈fp,aY X pins H2 b) (hW:nJ J g tt wi2 g2 tt2 te (emb ix σ) fin H2)
  (hRR:∀D C s' m ys H',s'.heap.Ns C m->s'.os=s2.os->D≠C->aY X pins (upd H' D (.lst ys)) C->(∀h',Heap.SameBut C s'.heap h'->Inv X pins σ (upd H' D (.lst ys)) { s' with heap:=h' })->H' D=none->fin ys H'->RR (.ref D) C (.ok .next) s') :
  wpAny (model X.prog X.w) X.A (newList []) (fun acc s3=>wpAny (model X.prog X.w) X.A (newFunctionEnv scope X.env.globals (bo X.env scope.names []) [] X.env.qual none .none (some X.env)) (fun cenv s4 =>
   codeAny (model X.prog X.w) X.A (.compStart (lc2 elt tg iter tg2 iter2 ifs ifs2 scope pos) 0 (.ref it) acc { cenv with scope:=relabel scope X.env }) (RR acc cenv.locals) s4) E s3) E s2:=by
 obtain⟨W,⟨m0,w0⟩,turn⟩:=hW
 have hb2:∀b∈fp,b < s2.heap.objs.size:=fun b hb=>by
  obtain⟨o,e,_⟩:=T.obj _ _ st b hb
  exact Heap.lt_size e
 refine wpAny_newObj_type (wpAny_newFunctionEnv L.nocell (by intro y hy;simp at hy) (fun h1 hns hsb=>?_) L.kind)
 dsimp only at hns hsb ⊢
 generalize hG:s2.heap.push { cls:=.type "list",dict:=none,data:=.seq ([]:List Value).toArray }=G at hns hsb ⊢
 have hGs:G.objs.size=s2.heap.objs.size + 1:=by rw [<- hG,Heap.size_push]
 generalize hDe:s2.heap.objs.size=D at hGs hb2
 generalize hCe:G.objs.size=C at hGs hns hsb ⊢
 have hDC:D≠C:=by omega
 have nq:∀b:Nat,b < s2.heap.objs.size->b≠C/\b≠D:=fun b h=>⟨by omega,by omega⟩
 have nq2:∀b∈fp,b≠C/\b≠D:=fun b hb=>nq b (by rw [hDe];exact hb2 b hb)
 have kG:∀b o,s2.heap.get? b=some o->G.get? b=some o:=fun b o e=>by rw [<- hG];exact Heap.get?_push_of_some _ e
 have kp:∀b o,s2.heap.get? b=some o->h1.get? b=some o:=fun b o e=>hsb.extBut b o (nq b (Heap.lt_size e)).1 (Heap.get?_push_of_some _ (kG b o e))
 have oD:∃n,h1.get? D=some { cls:=.type "list",data:=.seq ([]:List Value).toArray n }:=⟨_,hsb.extBut _ _ hDC (Heap.get?_push_of_some _ (by rw [<- hG,<- hDe];exact Heap.get?_push_size _ rfl))⟩
 have I4:=gO L (tk:=s2.toks + ([]:List (Str×Value)).length) I2 (C:=C) (by omega) f2 (by rw [hDe];exact hb2) kp hns
 have st4:tn 0 h1:=T.keep _ _ _ st fun b _ o e=>kp b o e
 have hDf:D∉(au X scope N C s2 H2 fp).fs:=fun z=>by
  have z':D∈frs X.stack:=z
  rcases List.mem_cons.mp (I2.stkSub D z') with q | q
  ·exact (nq _ I2.lt).2 q.symm
  ·exact I2.nofs (a:=D) (by omega) q
 have cellD:∀x c,(au X scope N C s2 H2 fp).env.cells.lookup x=some c->c≠D:=fun x c e z=>by
  obtain⟨v,o,ho,_⟩:=I2.cell x c (cq e)
  exact (nq c (Heap.lt_size ho)).2 z
 have stat:∀{H':Hp}{pl:List (Addr×Obj)},(∀b∈fp,H' b=none)->(∀p∈pl,p.1=D)->∀b∈fp,aY (au X scope N C s2 H2 fp) pl H' b:=fun {H' pl} hn hp b hb=>by
  have hlt:=hb2 b hb
  refine⟨hn b hb,(nq2 b hb).1,fun z=>?_,.inl hb,fun x c e=>(f2 b hb).2.2.2.2.1 x c (cq e),fun p hq z=>?_⟩
  ·exact (List.mem_cons.mp (I2.stkSub b z)).elim (f2 b hb).2.1 (f2 b hb).2.2.1
  ·have hq':p∈pl:=by simpa [au] using hq
   exact (nq2 b hb).2 (z.symm.trans (hp p hq'))
 have pinD:∀{pl:List (Addr×Obj)}{σ':St}{H':Hp}{s':Shared}{o:Obj},Inv (au X scope N C s2 H2 fp) pl σ' H' s'->s'.heap.get? D=some o->H' D=none->(∀v,o.data≠.cell v)->Inv (au X scope N C s2 H2 fp) [(D,o)] σ' H' s' :=
  fun {pl σ' H' s' o} I' ho hn hd=>I'.pins_of fun p hp=>by
   have e:p=(D,o):=by simpa using hp
   subst e
   exact⟨ho,hn,hDC,hDf,hd⟩
 have loop:∀s4:Shared,s4={ s2 with heap:=h1,toks:=s2.toks + ([]:List (Str×Value)).length } ->
   codeAny (model X.prog X.w) X.A (.compLoop (lc2 elt tg iter tg2 iter2 ifs ifs2 scope pos) 0 (.ref it) (.ref D) (au X scope N C s2 H2 fp).env) (RR (.ref D) C) s4:=by
  rintro s4 rfl
  refine qL (hs2 C s2 H2 fp) (fun n s'=>∃i σ' H' ys its k,Inv (au X scope N C s2 H2 fp) [(D,{ cls:=.type "list",data:=.seq its.toArray k })] σ' H' s'/\tn i s'.heap/\(∀b∈fp,H' b=none)/\av ys its/\W i n ys σ' H') ?_ m0 ?_
  ·rintro n s' ⟨i,σ',H',ys,its,k,I',st',fr',rv,w'⟩
   have hD':=I'.pin _ (List.mem_append_right _ List.mem_cons_self)
   rcases turn i n ys σ' H' w' with ⟨stop,hz,qf⟩ | ⟨go,Nx,hN,step⟩
   ·refine thn (T.done (au X scope N C s2 H2 fp) rfl rfl rfl hc i _ s' σ' H' _ I' (stat fr' (by simp)) st' stop) fun r s5 ⟨hr,I5⟩=>?_
    subst hr
    have hD5:=I5.pin _ (List.mem_append_right _ List.mem_cons_self)
    obtain⟨m5,hn5,_⟩:=I5.loc
    refine hRR D C s5 m5 ys H' hn5 I5.os hDC (I2.fpOk (by omega) (by rw [aj (Ne.symm hDC)];exact I5.free)) (fun h' hs'=>?_) hD5.2.1 qf
    exact mS I2 f2 I5 (by omega) (by omega) hDC hD5.2.1 hD5.1 rv hz fun b o hb e=>hs'.extBut b o hb e
   ·refine thn (T.item (au X scope N C s2 H2 fp) rfl rfl rfl hc i _ s' σ' H' _ I' (stat fr' (by simp)) st' go) fun r s5 ⟨u,hr,h5⟩=>?_
    subst hr
    refine thn h5 fun _ s6 ⟨x,H6,I6,r6,y6,st6,fr6⟩=>?_
    have I6':=I6.pinned (stat fr6 (by simp)) (T.obj _ _ st6)
    refine thn (hg C s2 H2 fp _ s6 σ' H6 x u _ I6' r6 (step x H6 y6)) fun _ s7 ⟨σ7,H7,I7,q7⟩=>?_
    refine thn (ht C s2 H2 fp _ s7 σ7 H7 _ I7 q7) fun ok s8 ⟨H8,I8,q8⟩=>?_
    have back:∀{H9:Hp}{s9:Shared},Inv (au X scope N C s2 H2 fp) ([(D,{ cls:=.type "list",data:=.seq its.toArray k })]++cg fp s6.heap) σ7 H9 s9->tn (i + 1) s9.heap/\∀b∈fp,H9 b=none:=fun {H9 s9} I9=>by
     refine⟨T.keep _ _ _ st6 fun b hb o e=>(I9.pin (b,o) (List.mem_append_right _ (List.mem_append_right _ (bS hb e)))).1,fun b hb=>?_⟩
     obtain⟨o,e,d⟩:=T.obj _ _ st6 b hb
     exact (I9.pin (b,o) (List.mem_append_right _ (List.mem_append_right _ (bS hb e)))).2.1
    cases ok with
    | false =>
     rw [if_neg Bool.false_ne_true] at q8 ⊢
     obtain⟨m',hm,w8⟩:=hN _ _ _ q8
     obtain⟨st8,fr8⟩:=back I8
     exact⟨m',hm,i + 1,σ7,H8,ys,its,k,I8.unpinned,st8,fr8,rv,w8⟩
    | true =>
     rw [if_pos rfl] at q8 ⊢
     have hD8:=I8.pin _ (List.mem_append_right _ (List.mem_append_left _ List.mem_cons_self))
     refine thn (hi2 C s2 H2 fp _ s8 σ7 H8 _ I8 q8) fun x2 s9 h9=>thn h9 fun it2 s10 h10=>?_
     obtain⟨i2,fp2,tn2,J2,H10,rfl,I10,T2,st10,f10,hW2⟩:=h10
     have I10':Inv (au X scope N C s2 H2 fp) ((D,lsO its k)::cg fp s6.heap) σ7 H10 s10:=I10
     have hP0:∀p∈cg fp s6.heap,p.1≠D:=fun p hp=>(nq2 p.1 (kg hp).1).2
     have inner:∀R:Result->Shared->Prop,(∀σ' H' s' ys' its' k',Inv (au X scope N C s2 H2 fp) ((D,lsO its' k')::cg fp s6.heap) σ' H' s'->av ys' its'->ys'.length<=sizeLine->Nx ys' σ' H'->R (.ok .next) s') ->
       codeAny (model X.prog X.w) X.A (.compStart (lc2 elt tg iter tg2 iter2 ifs ifs2 scope pos) 1 (.ref i2) (.ref D) (au X scope N C s2 H2 fp).env) R s10:=fun R hR=>by
      have q:=qZ (Y:=au X scope N C s2 H2 fp) (iter:=iter) (tg:=tg) (ifs:=ifs) (iter2:=iter2) (scope:=scope) (pos:=pos) (R:=R) hc hDC hDf (by show s2.heap.objs.size<=D;omega) cellD rfl rfl (hg2 C s2 H2 fp) (ht2 C s2 H2 fp) (he C s2 H2 fp) hP0 I10' rv T2 st10 f10 hW2 hR
      exact qc q (T2.self _ 0 _ _ _ st10 q)
     refine inner _ fun σ' H' s' ys' its' k' I' rv' hz' qn=>?_
     ·obtain⟨m',hm,w9⟩:=hN _ _ _ qn
      have I'':Inv (au X scope N C s2 H2 fp) ([(D,lsO its' k')]++cg fp s6.heap) σ' H' s':=I'
      refine⟨m',hm,i + 1,σ',H',ys',its',k',I''.unpinned,?_,?_,rv',w9⟩
      ·exact T.keep _ _ _ st6 fun b hb o e=>(I''.pin (b,o) (List.mem_append_right _ (List.mem_append_right _ (bS hb e)))).1
      ·intro b hb
       obtain⟨o,e,d⟩:=T.obj _ _ st6 b hb
       exact (I''.pin (b,o) (List.mem_append_right _ (List.mem_append_right _ (bS hb e)))).2.1
  ·obtain⟨n,e⟩:=oD
   exact⟨0,emb ix σ,H2,[],[],n,pinD I4 e (I2.hok.fresh (by omega)) (fun v z=>by cases z),st4,fun b hb=>(f2 b hb).1,.nil,w0⟩
 have q:=loop _ rfl
 exact codeAny_compStart_list q (T.self _ 0 _ _ _ st4 q)
theorem um (L:bz X scope N ix) (hc:X.calm=true) (hi:PI X tg iter wi) (hg:∀C s0 H0 fp,PG (au X scope N C s0 H0 fp) tg g) (ht:∀C s0 H0 fp,PTs (au X scope N C s0 H0 fp) ifs tt)
  (hi2:∀C s0 H0 fp,PI (au X scope N C s0 H0 fp) tg2 iter2 wi2) (hg2:∀C s0 H0 fp,PG (au X scope N C s0 H0 fp) tg2 g2) (ht2:∀C s0 H0 fp,PTs (au X scope N C s0 H0 fp) ifs2 tt2) (he:∀C s0 H0 fp,PE (au X scope N C s0 H0 fp) elt te)
  (hs:∀x,foldedSetIterable iter X.env x=pure x:=by intro _;rfl) (hs2:∀C s0 H0 fp x,foldedSetIterable iter2 (au X scope N C s0 H0 fp).env x=pure x:=by intros;rfl):PE X (lc2 elt tg iter tg2 iter2 ifs ifs2 scope pos) (wK wi g tt wi2 g2 tt2 te ix):=by
 intro pins s σ H Q I h
 show wpAny _ _ (eval (.ListComp elt [⟨tg,iter,ifs,0⟩,⟨tg2,iter2,ifs2,0⟩] scope pos) _) _ _ _
 rw [eval_ListComp]
 refine wpAny_comprehension_free (use:=none) rfl hs (L.clos I.ok) L.kind L.locals (thn (hi pins s σ H _ I h) fun v s1 h1=>thn h1 fun itv s2 h2=>?_)
 obtain⟨it,fp,tn,J,H2,rfl,I2,T,st2,f2,hW⟩:=h2
 refine tR (RR:=fun acc C=>compPost (model X.prog X.w) X.A X.xe none (EP X pins σ Q) acc C) L hc hg ht hi2 hs2 hg2 ht2 he I2 T st2 f2 hW ?_
 intro D C s' m ys H' hn ho hDC hC hI hD fin
 exact⟨m,hn,fun h' hs'=>⟨.ref D,_,hI h' hs',rfl,fin D hD⟩⟩
end
theorem dv:∀(ns:List (Str×NameKind)) (n:Nat) (acc:List (Str×Addr)),cellsFrom n ns acc=cellsFrom n ns []++acc
 | [],_,_=>rfl
 | (y,k)::r,n,acc=>by
  unfold cellsFrom
  split
  ·rw [dv r (n + 1) ((y,n)::acc),dv r (n + 1) [(y,n)],List.append_assoc];rfl
  ·exact dv r n acc
theorem eV {x:Str}{c:Addr}:∀{ns:List (Str×NameKind)}{n:Nat},(x,c)∈cellsFrom n ns []->(x,NameKind.cell)∈ns/\n<=c
 | [],_,h=>nomatch h
 | (y,k)::r,n,h=>by
  unfold cellsFrom at h
  split at h
  ·next hk =>
   rw [dv] at h
   rcases List.mem_append.mp h with q | q
   ·have:=eV q
    exact⟨List.mem_cons_of_mem _ this.1,Nat.le_of_succ_le this.2⟩
   ·have e:x=y/\c=n:=by simpa using q
    have e2:k=NameKind.cell:=by simpa using hk
    rw [e.1,e.2,e2]
    exact⟨List.mem_cons_self,Nat.le_refl _⟩
  ·have:=eV h
   exact⟨List.mem_cons_of_mem _ this.1,this.2⟩
theorem iG:∀(ns:List (Str×NameKind)) (n:Nat),(cellsFrom n ns []).Pairwise fun x y=>x.2≠y.2
 | [],_=>List.Pairwise.nil
 | (y,k)::r,n=>by
  unfold cellsFrom
  split
  ·rw [dv,List.pairwise_append]
   refine⟨iG r (n + 1),List.pairwise_cons.mpr ⟨fun _ h=>(nomatch h),List.Pairwise.nil⟩,fun a ha b hb=>?_⟩
   have e:b=(y,n):=by simpa using hb
   have q:=(eV (x:=a.1) (c:=a.2) ha).2
   rw [e]
   intro z
   have z':a.2=n:=z
   have q':n + 1<=n:=by rw [z'] at q;exact q
   exact absurd q' (Nat.not_succ_le_self n)
  ·exact iG r n
theorem vI {M:Model}{A:Around}{E:Value->Shared->Prop}{s:Shared}{scope:Scope}{globals:Addr}{cl:List (Str×Addr)}{qual:Str}{env:Env}{Q:Env->Shared->Prop}
  (hQ:Q (newEnv scope s.heap.objs.size globals (cellsFrom (s.heap.objs.size + 1) scope.names cl) qual none .none (some env) builtinsNs) { s with heap:=pushCells (s.heap.push { cls:=.type "dict",data:=.dict #[] }) scope.names }) :
  wpAny M A (newFunctionEnv scope globals cl [] qual none .none (some env)) Q E s:=by
 simp only [newFunctionEnv,Option.isSome_some,if_true]
 refine wpAny_bind (wpAny_alloc ?_)
 refine wpAny_bind (wpAny_layCells _ (fun name kind cells=>by cases hkc:kind == NameKind.cell <;> simp [hkc]) _ _ _ _ ?_)
 rw [show ({ s with heap:=s.heap.push { cls:=.type "dict",data:=.dict #[] } }:Shared).heap.objs.size=s.heap.objs.size + 1 from Heap.size_push ..]
 refine wpAny_bind ?_
 rw [List.forIn_nil]
 exact wpAny_pure (wpAny_pure hQ)
noncomputable def bw (X:Cx) (scope:Scope) (N:List Str) (C:Addr) (s0:Shared) (H0:Hp) (fp:List Addr):Cx :=
 { X with N:=N,s₀:=s0,H₀:=H0,env:=compEnvC scope (cellsFrom (C + 1) scope.names (bo X.env scope.names [])) C X.env,outer:=X.stack,stack:=X.stack,ex:=fp,fn:=fun x=>scope.names.lookup x == some NameKind.cell,pn:=[],xe:=fun _ _=>False }
structure bX (X:Cx) (scope:Scope) (N:List Str) (ix:List (Option Nat)):Prop where
 kind:scope.kind=.function
 names:scope.names.all (fun x=>((x.2 != .cell) || (scope.names.lookup x.1 == some .cell)) && ((x.2 != .local) || (scope.names.lookup x.1 == some .local)) && ((x.2 != .free) || (X.env.kindOf x.1 == some .cell) || (X.env.kindOf x.1 == some .free)))=true
 em:fe X.N X.env.kindOf scope N ix=true
 nd:N.Nodup
theorem jl {env:Env}{x:Str}{k:NameKind}:∀{ns:List (Str×NameKind)},(ns.map fun (n,k)=>if (k == NameKind.free && env.scope.kind == .function && env.kindOf n == some .cell)=true then (n,NameKind.cell) else (n,k)).lookup x=some k ->
  (k=.cell\/k=.free)->(x,NameKind.free)∈ns\/(x,NameKind.cell)∈ns
 | [],h,_=>by cases h
 | (n,k')::r,h,hk=>by
  have ih:=fun h'=>jl (env:=env) (x:=x) (k:=k) (ns:=r) h' hk
  rw [List.map_cons] at h
  dsimp only at h
  cases hx:x == n with
  | true =>
   have e:x=n:=eq_of_beq hx
   subst e
   split at h
   ·next hh =>
    have:k'=NameKind.free:=by cases k' <;> first | rfl | (simp at hh)
    rw [this];exact .inl List.mem_cons_self
   ·rw [List.lookup_cons,hx] at h
    cases h
    rcases hk with z | z
    ·rw [z];exact .inr List.mem_cons_self
    ·rw [z];exact .inl List.mem_cons_self
  | false =>
   have h':(r.map fun (n,k)=>if (k == NameKind.free && env.scope.kind == .function && env.kindOf n == some .cell)=true then (n,NameKind.cell) else (n,k)).lookup x=some k:=by
    split at h
    ·rw [List.lookup_cons,hx] at h;exact h
    ·rw [List.lookup_cons,hx] at h;exact h
   exact (ih h').imp (List.mem_cons_of_mem _) (List.mem_cons_of_mem _)
theorem ka {env:Env}:∀{names:List (Str×NameKind)}{x:Str},names.lookup x=some .cell ->
  (names.map fun (n,k)=>if (k == NameKind.free && env.scope.kind == .function && env.kindOf n == some .cell) then (n,NameKind.cell) else (n,k)).lookup x=some .cell
 | [],_,h=>by cases h
 | (n,k)::r,x,h=>by
  rw [List.map_cons]
  dsimp only
  rw [List.lookup_cons] at h
  cases hx:x == n with
  | true =>
   rw [hx] at h
   cases h
   split
   ·rw [List.lookup_cons,hx]
   ·rw [List.lookup_cons,hx]
  | false =>
   rw [hx] at h
   have ih:=ka (env:=env) (names:=r) h
   split
   ·rw [List.lookup_cons,hx];exact ih
   ·rw [List.lookup_cons,hx];exact ih
section
variable {X:Cx}{scope:Scope}{N:List Str}{ix:List (Option Nat)}
theorem bX.cells (L:bX X scope N ix):∀x∈scope.names,x.2=.cell->scope.names.lookup x.1=some .cell:=fun x hx z=>by
 have q:=List.all_eq_true.mp L.names x hx
 rw [z] at q
 simpa using q
theorem dW {C:Addr}{x:Str}{c:Addr} (h:(cellsFrom (C + 1) scope.names (bo X.env scope.names [])).lookup x=some c) :
  ((cellsFrom (C + 1) scope.names []).lookup x=some c/\C < c)\/X.env.cells.lookup x=some c:=by
 rw [dv,List.lookup_append] at h
 cases e:(cellsFrom (C + 1) scope.names []).lookup x with
 | none=>rw [e] at h;exact .inr (cq h)
 | some d =>
  rw [e] at h
  have h':d=c:=by simpa using h
  subst h'
  exact .inl ⟨rfl,(eV (PySem.mem_of_lookup e)).2⟩
theorem bX.locals (L:bX X scope N ix):∀x∈scope.names,x.2=.local->scope.names.lookup x.1=some .local:=fun x hx z=>by
 have q:=List.all_eq_true.mp L.names x hx
 rw [z] at q
 simpa using q
theorem bX.frees (L:bX X scope N ix):∀x∈scope.names,x.2=.free->X.env.kindOf x.1=some .cell\/X.env.kindOf x.1=some .free:=fun x hx z=>by
 have q:=List.all_eq_true.mp L.names x hx
 rw [z] at q
 simpa using q
theorem bX.clos (L:bX X scope N ix) (ok:X.Ok):closureFor scope X.env=pure (bo X.env scope.names []) :=
 j0 fun x hx z=>ok.has _ (L.frees x hx z)
theorem bX.len (L:bX X scope N ix):N.length=ix.length:=by
 have q:=L.em
 unfold fe at q
 rw [Bool.and_eq_true] at q
 exact eq_of_beq q.1
theorem bX.out (L:bX X scope N ix) {i j:Nat}{x:Str} (h1:N[i]?=some x) (h2:ix[i]?=some (some j)):X.N[j]?=some x/\scope.names.lookup x=some NameKind.free/\(X.env.kindOf x=some .cell\/X.env.kindOf x=some .free):=by
 have q:=L.em
 unfold fe at q
 rw [Bool.and_eq_true] at q
 have hz:(N.zip ix)[i]?=some (x,some j):=by
  rw [List.getElem?_zip_eq_some]
  exact⟨h1,h2⟩
 have r:=List.all_eq_true.mp q.2 _ (List.mem_of_getElem? hz)
 simp only [Bool.and_eq_true,Bool.or_eq_true,beq_iff_eq] at r
 exact⟨r.1.1,r.1.2,r.2⟩
theorem u9 (L:bX X scope N ix) {pins:List (Addr×Obj)}{σ:St}{H2:Hp}{s2:Shared}{C:Addr}{fp:List Addr} (I2:Inv X pins σ H2 s2) (hC:s2.heap.objs.size<=C) (hf:∀b∈fp,aY X pins H2 b) (hb:∀b∈fp,b < s2.heap.objs.size) :
  (bw X scope N C s2 H2 fp).Ok where
 mod:=I2.ok.mod
 kind:=L.kind
 glob:=I2.ok.glob
 blt:=I2.ok.blt
 above:=hC
 inj:=fun x y c h1 h2=>by
  have low:∀{z:Str},X.env.cells.lookup z=some c->c < s2.heap.objs.size:=fun e=>(let ⟨_,_,ho,_⟩:=I2.cell _ _ e;Heap.lt_size ho)
  rcases dW h1 with ⟨q1,l1⟩ | q1 <;> rcases dW h2 with ⟨q2,l2⟩ | q2
  ·exact name_of_addr (iG _ _) (PySem.mem_of_lookup q1) (PySem.mem_of_lookup q2)
  ·exact absurd (Nat.lt_of_lt_of_le (Nat.lt_trans l1 (low q2)) hC) (Nat.lt_irrefl _)
  ·exact absurd (Nat.lt_of_lt_of_le (Nat.lt_trans l2 (low q1)) hC) (Nat.lt_irrefl _)
  ·exact I2.ok.inj x y c q1 q2
 has:=fun x hx=>by
  have hm:(x,NameKind.free)∈scope.names\/(x,NameKind.cell)∈scope.names:=by
   rcases hx with hx | hx
   ·exact jl (env:=X.env) hx (.inl rfl)
   ·exact jl (env:=X.env) hx (.inr rfl)
  refine Option.isSome_iff_exists.mp (PySem.W.cellsFrom_some _ _ _ ?_)
  rcases hm with hm | hm
  ·obtain⟨c,e⟩:=I2.ok.has x (L.frees _ hm rfl)
   exact .inr (Option.isSome_iff_exists.mpr ⟨c,gf hm e⟩)
  ·exact .inl (L.cells _ hm rfl)
 cab:=fun x c h e=>by
  have h':scope.names.lookup x=some NameKind.cell:=eq_of_beq h
  obtain⟨d,hd⟩:=iL (n:=C + 1) h'
  have e':(cellsFrom (C + 1) scope.names (bo X.env scope.names [])).lookup x=some c:=e
  rw [dv,List.lookup_append,hd] at e'
  have e2:d=c:=by simpa using e'
  subst e2
  exact Nat.le_trans hC (Nat.le_of_lt (eV (PySem.mem_of_lookup hd)).2)
 hd:=I2.ok.hd
 frames:=I2.ok.frames
 stk:=.inl rfl
 exf:=fun b h=>⟨Nat.ne_of_lt (Nat.lt_of_lt_of_le (hb b h) hC),fun x c e=>by
  rcases dW e with ⟨_,l⟩ | q
  ·exact Nat.ne_of_gt (Nat.lt_trans (Nat.lt_of_lt_of_le (hb b h) hC) l)
  ·exact (hf b h).2.2.2.2.1 x c q⟩
 bs:=fun b o e=>I2.bs b o e
 bsz:=Nat.le_trans I2.ok.bsz I2.sz
 noex:=fun b o e h=>by
  rcases (hf b h).2.2.2.1 with z | z
  ·exact I2.ok.noex b o e z
  ·exact absurd (Nat.lt_of_lt_of_le (Heap.lt_size e) (Nat.le_trans I2.ok.bsz z)) (Nat.lt_irrefl _)
 exfs:=fun b h z=>(List.mem_cons.mp (I2.stkSub b z)).elim (hf b h).2.1 (hf b h).2.2.1
 funs:=I2.stack
 frf:=fun b h=>I2.stkFree b h
theorem sU {pins pins':List (Addr×Obj)}{σ σ':St}{H2 H':Hp}{s2 s':Shared}{C D:Addr}{fp:List Addr}{ys:List V}{its:List Value}{k:Nat}{h':Heap} (I2:Inv X pins σ H2 s2) (hf:∀b∈fp,aY X pins H2 b)
  (I':Inv (bw X scope N C s2 H2 fp) pins' σ' H' s') (hC:s2.heap.objs.size<=C) (hD:s2.heap.objs.size<=D) (hDC:D≠C) (hn:H' D=none) (ho:s'.heap.get? D=some { cls:=.type "list",data:=.seq its.toArray k }) (rv:av ys its) (hz:ys.length<=sizeLine)
  (hs:∀b o,b≠C->s'.heap.get? b=some o->h'.get? b=some o):Inv X pins σ (upd H' D (.lst ys)) { s' with heap:=h' }:=by
 have B:Un (frs X.stack) fp H2 H' s2.heap s'.heap:=I'.base
 have neC:∀b o,s2.heap.get? b=some o->b≠C:=fun b o e=>Nat.ne_of_lt (Nat.lt_of_lt_of_le (Heap.lt_size e) hC)
 have neD:∀b o,s2.heap.get? b=some o->b≠D:=fun b o e=>Nat.ne_of_lt (Nat.lt_of_lt_of_le (Heap.lt_size e) hD)
 have hCn:H' C=none:=I'.free
 have tD:∀b u,H' b=some u->b≠D:=fun b u e=>aV e hn
 have tC:∀b u,H' b=some u->b≠C:=fun b u e=>aV e hCn
 refine I2.call' (s':={ s' with heap:=h' }) (ch:=fp) I'.os ⟨fun b o e n hb hx=>?_,fun b o e n hb hx=>?_,fun b o e n hx=>?_,fun b o e hx=>?_,fun b xs e=>?_,fun b o u e=>?_,fun b ps e=>?_⟩ (fun b u e=>?_) I'.bare fun b hb=>⟨(hf b hb).2.2.2.1,(hf b hb).2.1,(hf b hb).2.2.2.2.1,(hf b hb).2.2.2.2.2⟩
 ·exact hs b o (neC b o e) (B.keep b o e n hb hx)
 ·obtain⟨sl,q⟩:=B.slot b o e n hb hx
  exact⟨sl,hs b _ (neC b o e) q⟩
 ·rw [aj (neD b o e)];exact B.free b o e n hx
 ·obtain⟨o',q⟩:=B.there b o e hx
  exact⟨o',hs b o' (neC b o e) q⟩
 ·rw [aj (tD b _ (B.tups b xs e))];exact B.tups b xs e
 ·rw [aj (tD b _ (B.frzs b o u e))];exact B.frzs b o u e
 ·obtain⟨m,q⟩:=B.tbls b ps e
  exact⟨m,by rw [aj (tD b _ q)];exact q⟩
 ·by_cases hb:b=D
  ·subst hb
   rw [ag] at e
   cases e
   exact⟨hz,its,k,rv,hs b _ hDC ho⟩
  ·rw [aj hb] at e
   refine (I'.hok b u e).stay (fun c v hc q=>hs c v ?_ q) (fun c q=>by rw [aj (tD c _ q)];exact q) fun c xs q=>by rw [aj (tD c _ q)];exact q
   rcases hc with z | z
   ·rw [z];exact tC b u e
   ·exact tC c _ z
theorem u5 (L:bX X scope N ix) {pins:List (Addr×Obj)}{σ:St}{H2:Hp}{s2:Shared}{C:Addr}{fp:List Addr}{h1:Heap}{tk:Nat}{m:Str->Option Value} (I2:Inv X pins σ H2 s2) (hC:s2.heap.objs.size<=C) (hf:∀b∈fp,aY X pins H2 b) (hb:∀b∈fp,b < s2.heap.objs.size)
  (kp:∀b o,s2.heap.get? b=some o->h1.get? b=some o) (hn:h1.Ns C m) (hoc:∀x c,(x,c)∈cellsFrom (C + 1) scope.names []->h1.IsCell c none):Inv (bw X scope N C s2 H2 fp) [] (emb ix σ) H2 { s2 with heap:=h1,toks:=tk }:=by
 refine⟨u9 L I2 hC hf hb,rfl,I2.bare,Un.kept kp,⟨m,hn,fun i x v e1 e2 e3=>?_⟩,fun x c e=>?_,I2.hok.fresh hC,fun x c e=>(dW e).elim (fun q=>I2.hok.fresh (Nat.le_trans hC (Nat.le_of_lt q.2))) fun q=>I2.freeC x c q,fun p hp=>absurd (show p∈([]:List (Addr×Obj)) from hp) (by simp),I2.hok.kept kp,?_⟩
 ·unfold emb at e2
  rw [List.getElem?_map] at e2
  cases q:ix[i]? with
  | none=>rw [q] at e2;cases e2
  | some o =>
   rw [q] at e2
   cases o with
   | none=>cases e2
   | some j =>
    have e2':(σ[j]?).join=some v:=Option.some.inj e2
    have e4:σ[j]?=some (some v):=by
     cases z:σ[j]? with
     | none=>rw [z] at e2';cases e2'
     | some y=>rw [z] at e2';exact congrArg some e2'
    obtain⟨a1,a2,a3⟩:=L.out e1 q
    obtain⟨mo,_,hl⟩:=I2.loc
    obtain⟨u,r,lk⟩:=hl j x v a1 e4 (.inr a3)
    refine⟨u,r,?_⟩
    rcases lk with ⟨k,_⟩ | ⟨k,c,e,o,ho,hd⟩
    ·rcases a3 with z | z
     ·rw [z] at k;cases k
     ·rw [z] at k;cases k
    ·obtain⟨k',hk',e'⟩:=ja (env:=X.env) a2
     have eL:(cellsFrom (C + 1) scope.names (bo X.env scope.names [])).lookup x=some c:=by
      rw [dv,List.lookup_append]
      cases eo:(cellsFrom (C + 1) scope.names []).lookup x with
      | none=>exact gf (PySem.mem_of_lookup a2) e
      | some d =>
       have:=L.cells _ (eV (PySem.mem_of_lookup eo)).1 rfl
       rw [a2] at this
       cases this
     refine .inr ⟨?_,c,eL,o,kp _ _ ho,hd⟩
     rcases hk' with z | z
     ·subst z;exact .inl e'
     ·subst z;exact .inr e'
 ·rcases dW e with ⟨q,_⟩ | q
  ·exact⟨none,hoc x c (PySem.mem_of_lookup q)⟩
  ·obtain⟨v,o,ho,hd⟩:=I2.cell x c q
   exact⟨v,o,kp _ _ ho,hd⟩
 ·unfold emb
  rw [List.length_map]
  exact L.len.symm
variable {tg iter elt:Expr}{ifs:List Expr}{pos:Pos}{g:TG}{tt:TT}{te:TE}
theorem uf (L:bX X scope N ix) (hc:X.calm=true) (hg:∀C s0 H0 fp,PG (bw X scope N C s0 H0 fp) tg g) (ht:∀C s0 H0 fp,PTs (bw X scope N C s0 H0 fp) ifs tt) (he:∀C s0 H0 fp,PE (bw X scope N C s0 H0 fp) elt te)
  {pins:List (Addr×Obj)}{σ:St}{H2:Hp}{s2:Shared}{it:Addr}{fp:List Addr}{tn:Nat->Heap->Prop}{J:It}{fin:List V->Hp->Prop}{E:Value->Shared->Prop}{RR:Value->Addr->Result->Shared->Prop}
  (I2:Inv X pins σ H2 s2) (T:Turn X.prog X.w X.K tg J fp it tn) (st:tn 0 s2.heap) (f2:∀b∈fp,aY X pins H2 b) (hW:LcW J g tt te (emb ix σ) fin H2)
  (hRR:∀D C s' m ys H',s'.heap.Ns C m->s'.os=s2.os->D≠C->aY X pins (upd H' D (.lst ys)) C->(∀h',Heap.SameBut C s'.heap h'->Inv X pins σ (upd H' D (.lst ys)) { s' with heap:=h' })->H' D=none->fin ys H'->RR (.ref D) C (.ok .next) s') :
  wpAny (model X.prog X.w) X.A (newList []) (fun acc s3=>wpAny (model X.prog X.w) X.A (newFunctionEnv scope X.env.globals (bo X.env scope.names []) [] X.env.qual none .none (some X.env)) (fun cenv s4 =>
   codeAny (model X.prog X.w) X.A (.compStart (.ListComp elt [⟨tg,iter,ifs,0⟩] scope pos) 0 (.ref it) acc { cenv with scope:=relabel scope X.env }) (RR acc cenv.locals) s4) E s3) E s2:=by
 obtain⟨W,⟨m0,w0⟩,turn⟩:=hW
 have hb2:∀b∈fp,b < s2.heap.objs.size:=fun b hb=>by
  obtain⟨o,e,_⟩:=T.obj _ _ st b hb
  exact Heap.lt_size e
 refine wpAny_newObj_type (vI ?_)
 show codeAny _ _ _ _ { s2 with heap:=pushCells ((s2.heap.push { cls:=.type "list",dict:=none,data:=.seq ([]:List Value).toArray }).push { cls:=.type "dict",data:=.dict #[] }) scope.names }
 generalize hG:s2.heap.push { cls:=.type "list",dict:=none,data:=.seq ([]:List Value).toArray }=G
 have hGs:G.objs.size=s2.heap.objs.size + 1:=by rw [<- hG,Heap.size_push]
 generalize hDe:s2.heap.objs.size=D at hGs hb2
 have coc:=cellsFrom_ok scope.names (G.push { cls:=.type "dict",data:=.dict #[] }) (G.objs.size + 1) [] ⟨fun _ _ hm=>(nomatch hm),List.Pairwise.nil⟩ (by rw [Heap.size_push];exact Nat.le_refl _)
 rw [Heap.size_push] at coc
 have hns:=(Heap.Ns.new G (.type "dict")).keeps (pushCells_keeps scope.names _)
 have kP:=pushCells_keeps scope.names (G.push { cls:=.type "dict",data:=.dict #[] })
 generalize pushCells (G.push { cls:=.type "dict",data:=.dict #[] }) scope.names=h1 at coc hns kP ⊢
 generalize hCe:G.objs.size=C at hGs hns coc ⊢
 have hDC:D≠C:=by omega
 have nq:∀b:Nat,b < s2.heap.objs.size->b≠C/\b≠D:=fun b h=>⟨by omega,by omega⟩
 have nq2:∀b∈fp,b≠C/\b≠D:=fun b hb=>nq b (by rw [hDe];exact hb2 b hb)
 have kG:∀b o,s2.heap.get? b=some o->G.get? b=some o:=fun b o e=>by rw [<- hG];exact Heap.get?_push_of_some _ e
 have kp:∀b o,s2.heap.get? b=some o->h1.get? b=some o:=fun b o e=>kP b o (Heap.get?_push_of_some _ (kG b o e))
 have oD:∃n,h1.get? D=some { cls:=.type "list",data:=.seq ([]:List Value).toArray n }:=⟨_,kP _ _ (Heap.get?_push_of_some _ (by rw [<- hG,<- hDe];exact Heap.get?_push_size _ rfl))⟩
 have I4:=u5 L (tk:=s2.toks) I2 (C:=C) (by omega) f2 (by rw [hDe];exact hb2) kp hns fun x c hm=>(coc.empty x c hm).1
 have st4:tn 0 h1:=T.keep _ _ _ st fun b _ o e=>kp b o e
 have hDf:D∉(bw X scope N C s2 H2 fp).fs:=fun z=>by
  have z':D∈frs X.stack:=z
  rcases List.mem_cons.mp (I2.stkSub D z') with q | q
  ·exact (nq _ I2.lt).2 q.symm
  ·exact I2.nofs (a:=D) (by omega) q
 have cellD:∀x c,(bw X scope N C s2 H2 fp).env.cells.lookup x=some c->c≠D:=fun x c e z=>by
  rcases dW e with ⟨_,l⟩ | q
  ·exact absurd (Nat.lt_trans (show D < C by omega) l) (by rw [z];exact Nat.lt_irrefl _)
  ·obtain⟨v,o,ho,_⟩:=I2.cell x c q
   exact (nq c (Heap.lt_size ho)).2 z
 have stat:∀{H':Hp}{pl:List (Addr×Obj)},(∀b∈fp,H' b=none)->(∀p∈pl,p.1=D)->∀b∈fp,aY (bw X scope N C s2 H2 fp) pl H' b:=fun {H' pl} hn hp b hb=>by
  have hlt:=hb2 b hb
  refine⟨hn b hb,(nq2 b hb).1,fun z=>?_,.inl hb,fun x c e=>(dW e).elim (fun q=>Nat.ne_of_gt (Nat.lt_trans (Nat.lt_of_lt_of_le hlt (show D<=C by omega)) q.2)) fun q=>(f2 b hb).2.2.2.2.1 x c q,fun p hq z=>?_⟩
  ·exact (List.mem_cons.mp (I2.stkSub b z)).elim (f2 b hb).2.1 (f2 b hb).2.2.1
  ·have hq':p∈pl:=by simpa [bw] using hq
   exact (nq2 b hb).2 (z.symm.trans (hp p hq'))
 have pinD:∀{pl:List (Addr×Obj)}{σ':St}{H':Hp}{s':Shared}{o:Obj},Inv (bw X scope N C s2 H2 fp) pl σ' H' s'->s'.heap.get? D=some o->H' D=none->(∀v,o.data≠.cell v)->Inv (bw X scope N C s2 H2 fp) [(D,o)] σ' H' s' :=
  fun {pl σ' H' s' o} I' ho hn hd=>I'.pins_of fun p hp=>by
   have e:p=(D,o):=by simpa using hp
   subst e
   exact⟨ho,hn,hDC,hDf,hd⟩
 have loop:∀s4:Shared,s4={ s2 with heap:=h1,toks:=s2.toks } ->
   codeAny (model X.prog X.w) X.A (.compLoop (.ListComp elt [⟨tg,iter,ifs,0⟩] scope pos) 0 (.ref it) (.ref D) (bw X scope N C s2 H2 fp).env) (RR (.ref D) C) s4:=by
  rintro s4 rfl
  refine lI (fun n s'=>∃i σ' H' ys its k,Inv (bw X scope N C s2 H2 fp) [(D,{ cls:=.type "list",data:=.seq its.toArray k })] σ' H' s'/\tn i s'.heap/\(∀b∈fp,H' b=none)/\av ys its/\W i n ys σ' H') ?_ m0 ?_
  ·rintro n s' ⟨i,σ',H',ys,its,k,I',st',fr',rv,w'⟩
   have hD':=I'.pin _ (List.mem_append_right _ List.mem_cons_self)
   rcases turn i n ys σ' H' w' with ⟨stop,hz,qf⟩ | ⟨go,hz,Nx,hN,step⟩
   ·refine thn (T.done (bw X scope N C s2 H2 fp) rfl rfl rfl hc i _ s' σ' H' _ I' (stat fr' (by simp)) st' stop) fun r s5 ⟨hr,I5⟩=>?_
    subst hr
    have hD5:=I5.pin _ (List.mem_append_right _ List.mem_cons_self)
    obtain⟨m5,hn5,_⟩:=I5.loc
    refine hRR D C s5 m5 ys H' hn5 I5.os hDC (I2.fpOk (by omega) (by rw [aj (Ne.symm hDC)];exact I5.free)) (fun h' hs'=>?_) hD5.2.1 qf
    exact sU I2 f2 I5 (by omega) (by omega) hDC hD5.2.1 hD5.1 rv hz fun b o hb e=>hs'.extBut b o hb e
   ·refine thn (T.item (bw X scope N C s2 H2 fp) rfl rfl rfl hc i _ s' σ' H' _ I' (stat fr' (by simp)) st' go) fun r s5 ⟨u,hr,h5⟩=>?_
    subst hr
    refine thn h5 fun _ s6 ⟨x,H6,I6,r6,y6,st6,fr6⟩=>?_
    have I6':=I6.pinned (stat fr6 (by simp)) (T.obj _ _ st6)
    refine thn (hg C s2 H2 fp _ s6 σ' H6 x u _ I6' r6 (step x H6 y6)) fun _ s7 ⟨σ7,H7,I7,q7⟩=>?_
    refine thn (ht C s2 H2 fp _ s7 σ7 H7 _ I7 q7) fun ok s8 ⟨H8,I8,q8⟩=>?_
    have back:∀{H9:Hp}{s9:Shared},Inv (bw X scope N C s2 H2 fp) ([(D,{ cls:=.type "list",data:=.seq its.toArray k })]++cg fp s6.heap) σ7 H9 s9->tn (i + 1) s9.heap/\∀b∈fp,H9 b=none:=fun {H9 s9} I9=>by
     refine⟨T.keep _ _ _ st6 fun b hb o e=>(I9.pin (b,o) (List.mem_append_right _ (List.mem_append_right _ (bS hb e)))).1,fun b hb=>?_⟩
     obtain⟨o,e,d⟩:=T.obj _ _ st6 b hb
     exact (I9.pin (b,o) (List.mem_append_right _ (List.mem_append_right _ (bS hb e)))).2.1
    cases ok with
    | false =>
     rw [if_neg Bool.false_ne_true] at q8 ⊢
     obtain⟨m',hm,w8⟩:=hN _ _ _ q8
     obtain⟨st8,fr8⟩:=back I8
     exact⟨m',hm,i + 1,σ7,H8,ys,its,k,I8.unpinned,st8,fr8,rv,w8⟩
    | true =>
     rw [if_pos rfl] at q8 ⊢
     refine thn (he C s2 H2 fp _ s8 σ7 H8 _ I8 q8) fun y s9 ⟨v,H9,I9,r9,q9⟩=>?_
     have hD9:=I9.pin _ (List.mem_append_right _ (List.mem_append_left _ List.mem_cons_self))
     obtain⟨st9,fr9⟩:=back I9
     refine wpAny_list_append_plain (hsz:=by have:=rv.length;rw [List.size_toArray];omega) ⟨k,hD9.1⟩ fun h' hl' hs'=>?_
     obtain⟨m',hm,w9⟩:=hN _ _ _ q9
     obtain⟨k',ho'⟩:=hl'
     have I10:Inv (bw X scope N C s2 H2 fp) [] σ7 H9 { s9 with heap:=h' }:=(I9.pins_of (pins':=[]) fun p hp=>absurd hp (by simp)).turned (t':=s9.toks) (it:=D) (fun b o hb e=>hs'.extBut b o hb e) hD9.2.1 hDC (.inr (by show s2.heap.objs.size<=D;omega)) cellD (fun p hp=>absurd hp (by simp [bw]))
     refine⟨m',hm,i + 1,σ7,H9,ys++[v],its++[y],k',pinD I10 (by rw [ho'];simp) hD9.2.1 (fun v z=>by cases z),?_,fr9,rv.append (.cons r9 .nil),w9⟩
     exact T.keep _ _ _ st9 fun b hb o e=>hs'.extBut b o (nq2 b hb).2 e
  ·obtain⟨n,e⟩:=oD
   exact⟨0,emb ix σ,H2,[],[],n,pinD I4 e (I2.hok.fresh (by omega)) (fun v z=>by cases z),st4,fun b hb=>(f2 b hb).1,.nil,w0⟩
 have q:=loop _ rfl
 exact codeAny_compStart_list q (T.self _ 0 _ _ _ st4 q)
variable {wi:TI}
theorem qg {i:Nat}{y:Str}{py spos:Pos} (hN:X.N.Nodup) (hi':X.N[i]?=some y) (hx:Loc X.env.scope y) (L:bX X scope N ix) (hc:X.calm=true) (hi:PI X tg iter wi) (hg:∀C s0 H0 fp,PG (bw X scope N C s0 H0 fp) tg g)
  (ht:∀C s0 H0 fp,PTs (bw X scope N C s0 H0 fp) ifs tt) (he:∀C s0 H0 fp,PE (bw X scope N C s0 H0 fp) elt te)
  (hsw:swapsWith (.ListComp elt [⟨tg,iter,ifs,0⟩] scope pos) (some (.Name y py)) spos.line X.env=pure true:=by rfl) (hs:∀x,foldedSetIterable iter X.env x=pure x:=by intro _;rfl)
  (hf:X.fn y=true\/X.env.scope.names.lookup y=some .local:=by first | exact .inl rfl | exact .inr rfl | assumption) :
  PS X (.Assign [.Name y py] (.ListComp elt [⟨tg,iter,ifs,0⟩] scope pos) spos) (jg i wi g tt te ix):=by
 intro pins s σ H D I h
 rw [exec_Assign_Name_used _ _ _ _ hsw]
 refine wpAny_bind (wpAny_standAt (wpAny_bind ?_))
 show wpAny _ X.A (do let _ <- comprehension (.ListComp elt [⟨tg,iter,ifs,0⟩] scope pos) scope X.env _ (newList []) false (eval iter X.env) (some (assign (.Name y py) X.env))) _ _ s
 refine wpAny_bind (thn (wpAny_comprehension_free (use:=some (assign (.Name y py) X.env)) (Q:=fun _ s'=>SP X pins D .next s') rfl hs (L.clos I.ok) L.kind L.locals
  (thn (hi pins s σ H _ I h) fun v s1 h1=>thn h1 fun itv s2 h2=>?_)) fun _ s' hq=>wpAny_pure (wpAny_pure hq))
 obtain⟨it,fp,tn,J,H2,rfl,I2,T,st2,f2,hW⟩:=h2
 refine uf (RR:=fun acc C=>compPost (model X.prog X.w) X.A X.xe (some (assign (.Name y py) X.env)) (fun _ s'=>SP X pins D .next s') acc C) L hc hg ht he I2 T st2 f2 hW ?_
 intro Da C s' m ys H' hn ho hDC hC hI hD fin
 have I':=hI s'.heap (Heap.SameBut.refl _ _)
 show wpAny _ X.A (assign (.Name y py) X.env (.ref Da)) _ _ s'
 refine wpAny_assign_Name (fX (v:=.ref Da) I' hN hi' hx rfl (fun s'' I'' ch=>?_) hf)
 obtain⟨a,hsa,hwa⟩:=ch
 obtain⟨c1,c2,c3,c4,c5,c6⟩:=hC
 have hCa:C≠a:=by
  rcases hwa with z | z
  ·rw [z];exact c2
  ·exact fun w=>c5 y a z w.symm
 refine⟨m,hn.sameBut hsa hCa,fun h' hs'=>⟨_,_,I''.turned (t':=s''.toks) (it:=C) (fun b o hb e=>hs'.extBut b o hb e) c1 c2 c4 c5 c6,fin Da hD⟩⟩
theorem uZ {C:Addr}{s0:Shared}{H0:Hp}{fp:List Addr}{x:Str}{pos:Pos} (i:Nat) (hN:N.Nodup) (hi:N[i]?=some x) (hx:scope.names.lookup x=some .cell) :
  PG (bw X scope N C s0 H0 fp) (.Name x pos) (bH i) :=
 aX (X:=bw X scope N C s0 H0 fp) hN hi (.inr (ka hx)) (.inl (by show (scope.names.lookup x == some NameKind.cell)=true;rw [hx];rfl))
end
section
variable {X:Cx}{pins:List (Addr×Obj)}{σ:St}{H:Hp}{s:Shared}{h':Heap}
theorem Inv.turnedS {t':Nat}{ch:List Addr} (I:Inv X pins σ H s) (k:∀b o,b∉ch->s.heap.get? b=some o->h'.get? b=some o) (hf:∀b∈ch,aY X pins H b):Inv X pins σ H { s with heap:=h',toks:=t' }:=by
 have nit:∀b u,H b=some u->b∉ch:=fun b u e z=>by rw [(hf b z).1] at e;cases e
 have hL:X.env.locals∉ch:=fun z=>(hf _ z).2.1 rfl
 refine I.step (g':=s.gens) (d':=s.drawn) (ch:=ch) (fun b hb=>⟨(hf b hb).2.2.2.1,(hf b hb).2.1,(hf b hb).2.2.2.2.1,(hf b hb).2.2.2.2.2⟩) (fun b o _ _ hc e _=>k b o hc e) (fun b o _ _ hc e _=>⟨o.slots,k b o hc e⟩) (fun _ _ _ _ n=>n)
  (fun b o hc e=>⟨o,k b o hc e⟩) (fun _ _ e=>e) (fun _ _ _ e=>e) (fun b ps e=>⟨#[],by rw [e];simp⟩) (fun m hm=>?_) (fun b u e=>?_) I.bare
 ·obtain⟨o,es,ep,ho,r⟩:=hm
  exact⟨o,es,ep,k _ o hL ho,r⟩
 ·refine (I.hok b u e).stay (fun c v hc q=>k c v ?_ q) (fun _ q=>q) fun _ _ q=>q
  rcases hc with z | z
  ·rw [z];exact nit b u e
  ·exact nit c _ z
end
noncomputable def Itz (K:PySem.W.Frag) (a b:Addr):It :=
 ⟨fun i H=>∃xs ys x y,SqL K H a xs/\SqL K H b ys/\xs[i]?=some x/\ys[i]?=some y,
  fun i H v H'=>∃T x y,v=.ref T/\H T=none/\H'=upd H T (.tup [x,y])/\(∀xs,SqL K H a xs->xs[i]?=some x)/\∀ys,SqL K H b ys->ys[i]?=some y,
  fun i H=>∃xs ys,SqL K H a xs/\SqL K H b ys/\(xs.length<=i\/ys.length<=i)⟩
noncomputable def vJ (z TI TO i1 i2 l1 l2:Addr) (i:Nat) (h:Heap):Prop:=IsZip h z TI TO .none/\IsPair h TI (.ref i1) (.ref i2)/\(∃a b,IsPair h TO a b)/\h.IsListIter i1 l1 i/\h.IsListIter i2 l2 i
theorem rk {P:Program}{w:World}{K:PySem.W.Frag}{elts:List Expr}{x1}{pos:Pos} (z TI TO i1 i2 l1 l2:Addr) (D:ZipApart z TI TO i1 i2 l1 l2) :
  Turn P w K (.Tuple elts x1 pos) (Itz K l1 l2) [z,TI,TO,i1,i2] z (vJ z TI TO i1 i2 l1 l2) where
 mem:=by simp
 obj:=fun i h st b hb=>by
  obtain⟨hz,hTI,⟨a,c,hTO⟩,⟨o1,e1,c1,d1⟩,⟨o2,e2,c2,d2⟩⟩:=st
  simp only [List.mem_cons,List.not_mem_nil,or_false] at hb
  rcases hb with rfl | rfl | rfl | rfl | rfl
  ·exact⟨_,hz,fun v q=>by cases q⟩
  ·exact⟨_,hTI,fun v q=>by cases q⟩
  ·exact⟨_,hTO,fun v q=>by cases q⟩
  ·exact⟨_,e1,fun v q=>by rw [d1] at q;cases q⟩
  ·exact⟨_,e2,fun v q=>by rw [d2] at q;cases q⟩
 keep:=fun i h h' st k=>by
  obtain⟨hz,hTI,⟨a,c,hTO⟩,h1,h2⟩:=st
  exact⟨k z (by simp) _ hz,k TI (by simp) _ hTI,⟨a,c,k TO (by simp) _ hTO⟩,h1.at fun o e=>k i1 (by simp) o e,h2.at fun o e=>k i2 (by simp) o e⟩
 item:=by
  intro X hP hw hK hc i pins s σ H E I hf st hg
  subst hP hw hK
  obtain⟨xs,ys,x,y,hq1,hq2,hx,hy⟩:=hg
  obtain⟨hz,hTI,⟨a,c,hTO⟩,h1,h2⟩:=id st
  obtain⟨its1,rv1,p1,hz1⟩:=I.list hq1
  obtain⟨its2,rv2,p2,hz2⟩:=I.list hq2
  obtain⟨u1,hu1,ru1⟩:=rv1.get hx
  obtain⟨u2,hu2,ru2⟩:=rv2.get hy
  refine wpAny_pyNext_zip_item D hz hTI hTO h1 h2 p1.isList p2.isList (x:=u1) (y:=u2) (by simpa using hu1) (by simpa using hu2) fun h' a1 a2 a3 a4 a5 a6 a7=>?_
  refine⟨_,rfl,wpAny_letOwnedTupleGo_zip (s:={ s with heap:=h' }) a1 fun h'' z2 sb=>?_⟩
  have sb':=sb.extBut
  generalize hT:s.heap.objs.size=T at *
  have lt:∀{b:Addr}{o:Obj},s.heap.get? b=some o->b≠T:=fun {b o} e=>by rw [<- hT];exact Nat.ne_of_lt (Heap.lt_size e)
  have fresh:H T=none:=by rw [<- hT];exact I.hok.fresh (Nat.le_refl _)
  have hne:∀b∈[z,TI,TO,i1,i2],b≠T:=fun b hb=>by
   obtain⟨o1,e1,_⟩:=h1
   obtain⟨o2,e2,_⟩:=h2
   simp only [List.mem_cons,List.not_mem_nil,or_false] at hb
   rcases hb with rfl | rfl | rfl | rfl | rfl
   ·exact lt hz
   ·exact lt hTI
   ·exact lt hTO
   ·exact lt e1
   ·exact lt e2
  have I0:Inv X pins σ (upd H T (.tup [x,y])) { s with heap:=s.heap.push { cls:=.type "tuple",data:=.seq #[u1,u2] },toks:=s.toks }:=by
   subst hT
   exact I.laid (t':=s.toks) (fun b o q=>Heap.get?_push_of_some _ q) (Nat.le_refl _) ⟨by show 2<=sizeLine;decide,[u1,u2],.cons ru1 (.cons ru2 .nil),_,Heap.get?_push_size _ rfl,rfl,0,rfl⟩
  have up:∀b o,b∉[z,TI,TO,i1,i2]->(s.heap.push { cls:=.type "tuple",data:=.seq #[u1,u2] }).get? b=some o->h''.get? b=some o:=fun b o hb e=>by
   simp only [List.mem_cons,List.not_mem_nil,or_false,not_or] at hb
   rcases Heap.get?_push_cases e with ⟨e1,e2⟩ | e1
   ·subst e2
    rw [e1,hT]
    exact sb' _ _ (hne z (by simp)).symm a5
   ·exact sb' _ _ hb.1 (a7 b o hb.1 hb.2.2.1 hb.2.2.2.1 hb.2.2.2.2 e1)
  have I2:Inv X pins σ (upd H T (.tup [x,y])) { s with heap:=h'',toks:=s.toks }:=Inv.turnedS (s:={ s with heap:=s.heap.push { cls:=.type "tuple",data:=.seq #[u1,u2] },toks:=s.toks }) (t':=s.toks) (ch:=[z,TI,TO,i1,i2]) I0 up fun b hb=>by
   obtain⟨f0,f1⟩:=hf b hb
   exact⟨by rw [aj (hne b hb)];exact f0,f1⟩
  exact⟨.ref T,upd H T (.tup [x,y]),I2,rfl,⟨T,x,y,rfl,fresh,rfl,fun ws hw=>by rw [I.list_inj hw hq1];exact hx,fun ws hw=>by rw [I.list_inj hw hq2];exact hy⟩,
   ⟨z2,sb' _ _ D.TIz (a7 _ _ D.TIz D.TITO D.TIi1 D.TIi2 hTI),⟨_,_,sb' _ _ D.TOz a2⟩,a3.at fun o e=>sb' _ _ D.i1z e,a4.at fun o e=>sb' _ _ D.i2z e⟩,fun b hb=>by rw [aj (hne b hb)];exact (hf b hb).1⟩
 done:=by
  intro X hP hw hK hc i pins s σ H E I hf st hg
  subst hP hw hK
  obtain⟨xs,ys,hq1,hq2,hx⟩:=hg
  obtain⟨hz,hTI,⟨a,c,hTO⟩,h1,h2⟩:=id st
  obtain⟨its1,rv1,p1,hz1⟩:=I.list hq1
  obtain⟨its2,rv2,p2,hz2⟩:=I.list hq2
  have hl1:=rv1.length
  have hl2:=rv2.length
  refine wpAny_pyNext_zip_end (I.ok.hd hc) D hz hTI hTO h1 h2 p1.isList p2.isList ?_ fun h' hk=>⟨rfl,I.turnedS (t':=s.toks) (ch:=[z,TI,TO,i1,i2]) (fun b o hb e=>?_) hf⟩
  ·rcases hx with q | q
   ·exact .inl (by simp;omega)
   ·exact .inr (by simp;omega)
  ·simp only [List.mem_cons,List.not_mem_nil,or_false,not_or] at hb
   exact hk b o hb.1 hb.2.2.1 hb.2.2.2.1 hb.2.2.2.2 e
 self:=fun _ _ _ _ _ st h=>wpAny_pyIter_zip st.1 h
theorem boot_zip:bootBuiltins "zip"=some (.type "zip"):=by decide +kernel
section
variable {X:Cx}
noncomputable def v9 (K:PySem.W.Frag) (ta:TA):TI:=fun σ H R=>ta σ H fun vs H1=>∃a b xs ys,vs=[.ref a,.ref b]/\SqL K H1 a xs/\SqL K H1 b ys/\R (Itz K a b) H1
theorem mP {a b:Expr}{elts:List Expr}{x1}{tpos:Pos}{ta:TA}{p pos:Pos} (hg:Gl X "zip") (hm:X.mg "zip"=none) (ha:PA X [a,b] ta) (hs:starEach [a,b] X.env=[(false,eval a X.env),(false,eval b X.env)]:=by rfl) (hs2:starEach [b] X.env=[(false,eval b X.env)]:=by rfl) :
  PI X (.Tuple elts x1 tpos) (.Call (.Name "zip" p) [a,b] [] pos) (v9 X.K ta):=by
 intro pins s σ H R I h
 refine Call_ (dB I hg hm boot_zip (PyProof.Rows.callWith_type1 (thn (ha pos pins s σ H _ I h) fun us s1 ⟨vs,H1,I1,r1,q1⟩=>?_) (by rw [hs,hs2]) (by rw [hs2];rfl)))
 obtain⟨a',b',xs,ys,rfl,hq1,hq2,q⟩:=q1
 obtain⟨u1,u2,rfl,ra,rb⟩:=vals2 r1
 cases ra
 cases rb
 obtain⟨its1,rv1,p1,hz1⟩:=I1.list hq1
 obtain⟨its2,rv2,p2,hz2⟩:=I1.list hq2
 have l1:a' < s1.heap.objs.size:=by obtain⟨o,n,e,_⟩:=p1;exact Heap.lt_size e
 have l2:b' < s1.heap.objs.size:=by obtain⟨o,n,e,_⟩:=p2;exact Heap.lt_size e
 refine call_zip_2 p1.isList p2.isList fun h' hz hTI hTO hi1 hi2 hsz hk=>?_
 refine wpAny_pyIter_zip hz ?_
 refine⟨_,[s1.heap.objs.size + 4,s1.heap.objs.size + 2,s1.heap.objs.size + 3,s1.heap.objs.size,s1.heap.objs.size + 1],_,_,H1,rfl,I1.kept (t':=s1.toks) hk,rk _ _ _ _ _ _ _ (zipApart_new l1 l2),⟨hz,hTI,⟨_,_,hTO⟩,hi1,hi2⟩,fun b hb=>?_,q⟩
 have hle:s1.heap.objs.size<=b:=by
  simp only [List.mem_cons,List.not_mem_nil,or_false] at hb
  rcases hb with rfl | rfl | rfl | rfl | rfl
  ·exact Nat.le_add_right _ _
  ·exact Nat.le_add_right _ _
  ·exact Nat.le_add_right _ _
  ·exact Nat.le_refl _
  ·exact Nat.le_add_right _ _
 exact I1.fpOk hle (I1.hok.fresh hle)
end
section
variable {prog:Program}{w:World}{A:Around}{E:Value->Shared->Prop}{s:Shared}
end
section
variable {X:Cx}
theorem sv {K:PySem.W.Frag}{g:TG}{tt:TT}{te:TE}{σ':St}{fin:List V->Hp->Prop}{H1:Hp}{a b:Addr}{xs ys:List V} (hn:min xs.length ys.length < sizeLine) (Pv:Nat->List V->St->Hp->Prop) (h0:Pv 0 [] σ' H1)
  (hl:∀i zs σ H,i<=min xs.length ys.length->Pv i zs σ H->zs.length<=i/\SqL K H a xs/\SqL K H b ys)
  (hs:∀i x y zs σ H T,xs[i]?=some x->ys[i]?=some y->Pv i zs σ H->H T=none->g (.ref T) σ (upd H T (.tup [x,y])) fun σ2 H2=>tt σ2 H2 fun b H3=>if b=true then te σ2 H3 (fun v H4=>Pv (i + 1) (zs++[v]) σ2 H4) else Pv (i + 1) zs σ2 H3)
  (hd:∀zs σ H,Pv (min xs.length ys.length) zs σ H->fin zs H):LcW (Itz K a b) g tt te σ' fin H1:=by
 refine⟨fun i m zs σ H=>m=min xs.length ys.length - i/\i<=min xs.length ys.length/\Pv i zs σ H,⟨min xs.length ys.length,by simp,Nat.zero_le _,h0⟩,?_⟩
 rintro i m zs σ H ⟨rfl,hi,p⟩
 obtain⟨q0,q1,q2⟩:=hl i zs σ H hi p
 by_cases hlt:i < min xs.length ys.length
 ·have h1:i < xs.length:=by omega
  have h2:i < ys.length:=by omega
  refine .inr ⟨⟨xs,ys,xs[i],ys[i],q1,q2,by simp [h1],by simp [h2]⟩,by omega,fun zs' σ2 H2=>Pv (i + 1) zs' σ2 H2,fun zs' σ2 H2 q=>⟨min xs.length ys.length - (i + 1),by omega,rfl,hlt,q⟩,fun v H' y=>?_⟩
  obtain⟨T,x,y,rfl,hT,rfl,e1,e2⟩:=y
  exact hs i x y zs σ H T (e1 xs q1) (e2 ys q2) p hT
 ·have e:i=min xs.length ys.length:=by omega
  subst e
  refine .inl ⟨⟨xs,ys,q1,q2,?_⟩,by omega,hd zs σ H p⟩
  rcases Nat.le_total xs.length ys.length with z | z
  ·exact .inl (by omega)
  ·exact .inr (by omega)
end
section
variable {κ:Type} [DecidableEq κ]
noncomputable def aU (kvs:List (κ×V)) (k:κ):Option V:=(kvs.find? fun kv=>decide (kv.1=k)).map (·.2)
noncomputable def putK (kvs:List (κ×V)) (k:κ) (v:V):List (κ×V) :=
 if (kvs.any fun kv=>decide (kv.1=k))=true then kvs.map (fun kv=>if kv.1=k then (kv.1,v) else kv) else kvs++[(k,v)]
noncomputable def wZ (kvs:List (κ×V)) (k:κ):List (κ×V):=kvs.filter fun kv=>decide (kv.1≠k)
theorem ce {p:κ×V}{r:List (κ×V)}{k:κ} (e:p.1=k):aU (p::r) k=some p.2:=by simp [aU,List.find?_cons,e]
theorem bM {p:κ×V}{r:List (κ×V)}{k:κ} (e:¬ p.1=k):aU (p::r) k=aU r k:=by simp [aU,List.find?_cons,e]
theorem dt (k:κ):∀kvs:List (κ×V),(kvs.any fun kv=>decide (kv.1=k))=(aU kvs k).isSome
 | []=>rfl
 | p::r=>by
  rw [List.any_cons]
  by_cases e:p.1=k
  ·simp only [ce e,decide_eq_true e,Bool.true_or,Option.isSome_some]
  ·rw [bM e,decide_eq_false e,Bool.false_or];exact dt k r
theorem kT (k j:κ) (y:V):∀kvs:List (κ×V),aU (kvs.map fun kv=>if kv.1=k then (kv.1,y) else kv) j=(aU kvs j).map fun x=>if j=k then y else x
 | []=>rfl
 | p::r=>by
  have ih:=kT k j y r
  rw [List.map_cons]
  by_cases h:p.1=k
  ·rw [if_pos h]
   by_cases e:p.1=j
   ·rw [ce (p:=(p.1,y)) e,ce e,Option.map_some,if_pos (e.symm.trans h)]
   ·rw [bM (p:=(p.1,y)) e,bM e,ih]
  ·rw [if_neg h]
   by_cases e:p.1=j
   ·rw [ce (p:=p) e,ce e,Option.map_some,if_neg (fun z=>h (e.trans z))]
   ·rw [bM (p:=p) e,bM e,ih]
theorem j8 (k j:κ) (y:V):∀kvs:List (κ×V),aU kvs k=none->aU (kvs++[(k,y)]) j=if j=k then some y else aU kvs j
 | [],_=>by
  by_cases e:k=j
  ·rw [if_pos e.symm];exact ce (p:=(k,y)) e
  ·rw [if_neg (fun z=>e z.symm)];exact bM (p:=(k,y)) e
 | p::r,hn=>by
  rw [List.cons_append]
  have hk:¬ p.1=k:=fun z=>by rw [ce z] at hn;cases hn
  rw [bM hk] at hn
  have ih:=j8 k j y r hn
  by_cases e:p.1=j
  ·rw [ce e,ce e,if_neg (fun z=>hk (e.trans z))]
  ·rw [bM e,bM e,ih]
theorem lh (kvs:List (κ×V)) (k j:κ) (y:V):aU (putK kvs k y) j=if j=k then some y else aU kvs j:=by
 unfold putK
 by_cases a:(kvs.any fun kv=>decide (kv.1=k))=true
 ·rw [if_pos a,kT]
  rw [dt] at a
  by_cases e:j=k
  ·obtain⟨x,hx⟩:=Option.isSome_iff_exists.mp a
   rw [if_pos e,e,hx,Option.map_some,if_pos rfl]
  ·rw [if_neg e]
   cases aU kvs j with
   | none=>rfl
   | some x=>rw [Option.map_some,if_neg e]
 ·rw [if_neg a]
  refine j8 k j y kvs ?_
  rw [dt] at a
  cases q:aU kvs k with
  | none=>rfl
  | some x=>rw [q] at a;exact (a rfl).elim
theorem fA (kvs:List (κ×V)) (k:κ) (v:V):(putK kvs k v).length<=kvs.length + 1:=by
 unfold putK
 split
 ·rw [List.length_map];omega
 ·rw [List.length_append,List.length_cons,List.length_nil];omega
theorem iS {kvs:List (κ×V)}{k:κ} (v:V) (h:aU kvs k=none):putK kvs k v=kvs++[(k,v)]:=by
 unfold putK
 rw [dt,h]
 exact if_neg (by decide)
theorem cL.isSome_eq {o:Option V}{u:Option Value} (r:cL o u):o.isSome=u.isSome:=by
 cases o with
 | none=>cases u with
  | none=>rfl
  | some _=>exact (show False from r).elim
 | some _=>cases u with
  | none=>exact (show False from r).elim
  | some _=>rfl
theorem KV.val {kvs:List (κ×V)}{vs:List (κ×Value)} (r:KV kvs vs) (k:κ):cL (aU kvs k) (valueAt vs k):=by
 unfold KV at r
 induction r with
 | nil=>exact True.intro
 | @cons p q ps qs h t ih =>
  obtain⟨h1,h2⟩:=h
  by_cases e:p.1=k
  ·have e':q.1=k:=h1.symm.trans e
   have b:valueAt (q::qs) k=some q.2:=by simp [valueAt,List.find?_cons,e']
   rw [ce e,b];exact h2
  ·have e':¬ q.1=k:=fun z=>e (h1.trans z)
   have b:valueAt (q::qs) k=valueAt qs k:=by simp [valueAt,List.find?_cons,e']
   rw [bM e,b];exact ih
theorem KV.any {kvs:List (κ×V)}{vs:List (κ×Value)} (r:KV kvs vs) (k:κ):(kvs.any fun kv=>decide (kv.1=k))=vs.any fun kv=>decide (kv.1=k):=by
 unfold KV at r
 induction r with
 | nil=>rfl
 | cons h t ih=>rw [List.any_cons,List.any_cons,ih,h.1]
theorem KV.repl {kvs:List (κ×V)}{vs:List (κ×Value)} (r:KV kvs vs) (k:κ) {y:V}{u:Value} (ry:RelV y u) :
  KV (kvs.map fun kv=>if kv.1=k then (kv.1,y) else kv) (vs.map fun kv=>if kv.1=k then (kv.1,u) else kv):=by
 unfold KV at r ⊢
 induction r with
 | nil=>exact .nil
 | @cons p q ps qs h t ih =>
  rw [List.map_cons,List.map_cons]
  refine .cons ?_ ih
  obtain⟨h1,h2⟩:=h
  by_cases e:p.1=k
  ·rw [if_pos e,if_pos (h1.symm.trans e)];exact⟨h1,ry⟩
  ·rw [if_neg e,if_neg (fun z=>e (h1.trans z))];exact⟨h1,h2⟩
theorem KV.put {kvs:List (κ×V)}{vs:List (κ×Value)} (r:KV kvs vs) (k:κ) {y:V}{u:Value} (ry:RelV y u):KV (putK kvs k y) (stored vs k u):=by
 unfold putK stored
 rw [r.any k]
 by_cases e:(vs.any fun kv=>decide (kv.1=k))=true
 ·rw [if_pos e,if_pos e];exact r.repl k ry
 ·rw [if_neg e,if_neg e];exact Paired.snoc r ⟨rfl,ry⟩
theorem KV.length {kvs:List (κ×V)}{vs:List (κ×Value)} (r:KV kvs vs):kvs.length=vs.length:=Paired.length r
end
theorem gP {P:Program}{w:World}{k:Key}{u:Value} (r:RelV (kV k) u):(b5 P w).is k u=true:=by
 cases k with
 | inl i=>obtain⟨t,e⟩:=(show ∃t,u=Value.int i t from r);subst e;exact oV P w i t
 | inr x=>obtain⟨t,e⟩:=(show ∃t,u=Value.str x t from r);subst e;exact oM P w x t
theorem kc {P:Program}{w:World}:∀{ks:List Key}{us:List Value},av (ks.map kV) us->ItemsAre (b5 P w) ks us
 | [],_,r=>by rw [List.map_nil] at r;cases r;exact .nil
 | k::ks,_,r=>by
  rw [List.map_cons] at r
  cases r with
  | cons h t=>exact .cons (gP h) (kc t)
noncomputable abbrev KT (H:Hp):List (List Key×V)->List (List Key×Addr×Value)->Prop:=Paired fun p q=>p.1=q.1/\H q.2.1=some (.tup (p.1.map kV))/\RelV p.2 q.2.2
theorem KT.val {H:Hp}{kvs:List (List Key×V)}{xs:List (List Key×Addr×Value)} (r:KT H kvs xs) (k:List Key):cL (aU kvs k) ((atKey xs k).map (·.2)):=by
 induction r with
 | nil=>exact True.intro
 | @cons p q ps qs h t ih =>
  obtain⟨h1,_,h2⟩:=h
  by_cases e:p.1=k
  ·have e':q.1=k:=h1.symm.trans e
   have b:atKey (q::qs) k=some q.2:=by simp [atKey,List.find?_cons,e']
   rw [ce e,b];exact h2
  ·have e':¬ q.1=k:=fun z=>e (h1.trans z)
   have b:atKey (q::qs) k=atKey qs k:=by simp [atKey,List.find?_cons,e']
   rw [bM e,b];exact ih
theorem KT.repl {H:Hp}{kvs:List (List Key×V)}{xs:List (List Key×Addr×Value)} (r:KT H kvs xs) (k:List Key) {y:V}{u:Value} (ry:RelV y u) :
  KT H (kvs.map fun kv=>if kv.1=k then (kv.1,y) else kv) (xs.map (putAt k u)):=by
 induction r with
 | nil=>exact .nil
 | @cons p q ps qs h t ih =>
  rw [List.map_cons,List.map_cons]
  refine .cons ?_ ih
  obtain⟨h1,h2,h3⟩:=h
  unfold putAt
  by_cases e:p.1=k
  ·rw [if_pos e,if_pos (h1.symm.trans e)];exact⟨h1,h2,ry⟩
  ·rw [if_neg e,if_neg (fun z=>e (h1.trans z))];exact⟨h1,h2,h3⟩
theorem KT.put {H:Hp}{kvs:List (List Key×V)}{xs:List (List Key×Addr×Value)} (r:KT H kvs xs) (k:List Key) {b:Addr}{y:V}{u:Value} (hb:H b=some (.tup (k.map kV))) (ry:RelV y u) :
  KT H (putK kvs k y) (storedH xs k b u):=by
 have e:(kvs.any fun kv=>decide (kv.1=k))=(atKey xs k).isSome:=by
  rw [dt,(r.val k).isSome_eq,Option.isSome_map]
 unfold putK storedH
 rw [e]
 by_cases q:(atKey xs k).isSome=true
 ·rw [if_pos q,if_pos q];exact r.repl k ry
 ·rw [if_neg q,if_neg q];exact Paired.snoc r ⟨rfl,hb,ry⟩
theorem KT.keeps {H H':Hp}{kvs:List (List Key×V)}{xs:List (List Key×Addr×Value)} (r:KT H kvs xs) (ht:∀b ys,H b=some (.tup ys)->H' b=some (.tup ys)):KT H' kvs xs :=
 Paired.mapP r fun _ _ z=>⟨z.1,ht _ _ z.2.1,z.2.2⟩
section
variable {P:Program}{w:World}{H:Hp}{h:Heap}{a:Addr}
theorem nC {u:HO} (ok:HOk P w H h) (e:Rd H a u):aM P w H h a u:=e.ok ok
theorem jv {kvs:List (Key×V)} (ok:HOk P w H h) (e:Rd H a (.dK kvs)):kvs.length<=sizeLine/\(a == sysModules)=false/\∃vs,KV kvs vs/\h.DictOf (b5 P w) a vs :=
 show aM P w H h a (.dK kvs) from nC ok e
theorem nu {kvs:List (Key×V)} (ok:HOk P w H h) (e:H a=some (.dK kvs)):kvs.length<=sizeLine/\(a == sysModules)=false/\∃vs,KV kvs vs/\h.DictOf (b5 P w) a vs:=jv ok (.inl e)
theorem gK {ks:List Key} (ok:HOk P w H h) (e:H a=some (.tup (ks.map kV))):(tupleKind (b5 P w)).is h ks a:=by
 obtain⟨_,its,r,o,h1,h2,n,h3⟩:=(show aM P w H h a (.tup (ks.map kV)) from ok a _ e)
 exact⟨o,its.toArray,n,h1,h2,h3,by simpa using kc r⟩
theorem jr {kvs:List (List Key×V)} (ok:HOk P w H h) (e:Rd H a (.dT kvs)):kvs.length<=sizeLine/\(a == sysModules)=false /\
  ∃xs,KT H kvs xs/\h.DictOfH (tupleKind (b5 P w)) a xs:=by
 obtain⟨z,y,xs,r,o,es,ep,h1,h2,h3,h4,h5⟩:=(show aM P w H h a (.dT kvs) from nC ok e)
 refine⟨z,y,xs,r,o,es,ep,h1,h2,h3,h4,fun x hx=>?_,h5⟩
 have all:∀{l:List (List Key×V)}{m:List (List Key×Addr×Value)},KT H l m->∀x∈m,(tupleKind (b5 P w)).is h x.1 x.2.1:=by
  intro l m q
  induction q with
  | nil=>intro x hx;exact nomatch hx
  | @cons p q ps qs hq t ih =>
   intro x hx
   rcases List.mem_cons.mp hx with e | hx
   ·subst e
    exact gK ok (by rw [<- hq.1];exact hq.2.1)
   ·exact ih x hx
 exact all r x hx
theorem nj {kvs:List (List Key×V)} (ok:HOk P w H h) (e:H a=some (.dT kvs)):kvs.length<=sizeLine/\(a == sysModules)=false /\
  ∃xs,KT H kvs xs/\h.DictOfH (tupleKind (b5 P w)) a xs:=jr ok (.inl e)
end
noncomputable def bu (H:Hp) (a:Addr) (y:V) (r:Option V):Prop :=
 (∃kvs k,Rd H a (.dK kvs)/\y=kV k/\r=aU kvs k)\/∃kvs k b,Rd H a (.dT kvs)/\y=.ref b/\H b=some (.tup (k.map kV))/\r=aU kvs k
noncomputable def cU (H:Hp) (a:Addr) (y v:V) (H':Hp):Prop :=
 (∃kvs k,H a=some (.dK kvs)/\y=kV k/\kvs.length < sizeLine/\H'=upd H a (.dK (putK kvs k v))) \/
 ∃kvs k b,H a=some (.dT kvs)/\y=.ref b/\H b=some (.tup (k.map kV))/\kvs.length < sizeLine/\H'=upd H a (.dT (putK kvs k v))
theorem bu.k {H:Hp}{a:Addr}{kvs:List (Key×V)}{k:Key} (e:H a=some (.dK kvs)):bu H a (kV k) (aU kvs k):=.inl ⟨kvs,k,.inl e,rfl,rfl⟩
theorem bu.t {H:Hp}{a b:Addr}{kvs:List (List Key×V)}{k:List Key} (e:H a=some (.dT kvs)) (eb:H b=some (.tup (k.map kV))):bu H a (.ref b) (aU kvs k):=.inr ⟨kvs,k,b,.inl e,rfl,eb,rfl⟩
theorem cU.k {H:Hp}{a:Addr}{kvs:List (Key×V)}{k:Key}{v:V} (e:H a=some (.dK kvs)) (hl:kvs.length < sizeLine):cU H a (kV k) v (upd H a (.dK (putK kvs k v))):=.inl ⟨kvs,k,e,rfl,hl,rfl⟩
theorem cU.t {H:Hp}{a b:Addr}{kvs:List (List Key×V)}{k:List Key}{v:V} (e:H a=some (.dT kvs)) (eb:H b=some (.tup (k.map kV))) (hl:kvs.length < sizeLine) :
  cU H a (.ref b) v (upd H a (.dT (putK kvs k v))):=.inr ⟨kvs,k,b,e,rfl,eb,hl,rfl⟩
section
variable {X:Cx}{pins:List (Addr×Obj)}{σ:St}{H:Hp}{s:Shared}{a:Addr}{y v:V}{u r:Value}{o:Option V}{A:Around}{E:Value->Shared->Prop}
theorem Inv.big (I:Inv X pins σ H s):sysModules < s.heap.objs.size:=by
 have h:mainGlobals < s.heap.objs.size:=(I.mod.glob.keeps I.bk).lt
 exact Nat.lt_trans (by decide) h
theorem kj {Q:Value->Shared->Prop} (hu:A.units + 1 < cLine) (I:Inv X pins σ H s) (g:bu H a y (some v)) (ry:RelV y u) (h:∀w' s',Inv X pins σ H s'->RelV v w'->Q w' s') :
  wpAny (model X.prog X.w) A (getItem (.ref a) u) Q E s:=by
 rcases g with ⟨kvs,k,e,ey,l⟩ | ⟨kvs,k,b,e,ey,eb,l⟩
 ·subst ey
  obtain⟨z,hd,vs,rel,dd⟩:=jv I.hok e
  obtain⟨w',hw,rw'⟩:=cL.some_of (v:=v) (o:=valueAt vs k) (by rw [l];exact rel.val k)
  exact wpAny_getItem_of (gP ry) dd.mapOf hw (h w' _ (I.tok _) rw')
 ·subst ey
  cases (show u=Value.ref b from ry)
  obtain⟨z,hd,xs,rel,dd⟩:=jr I.hok e
  obtain⟨w',hw,rw'⟩:=cL.some_of (v:=v) (o:=(atKey xs k).map (·.2)) (by rw [l];exact rel.val k)
  obtain⟨p,hp,hp2⟩:=Option.map_eq_some_iff.mp hw
  refine wpAny_getItem_heap (tupleKind_room_in1 hu) (gK I.hok eb) dd hp ?_
  rw [hp2]
  exact h w' _ (I.tok _) rw'
theorem gA {h':Heap}{t':Nat}{ob:HO} (I:Inv X pins σ H s) (mu:Mut (H a)) (hs:Heap.SameBut a s.heap h') (he:∃q,h'.get? a=some q) (new:aM X.prog X.w (upd H a ob) h' a ob) :
  Inv X pins σ (upd H a ob) { s with heap:=h',toks:=t' } :=
 I.write (x:=a) (e:=a) mu (.inl rfl) (fun b q hb z=>(hs.2 b hb).trans z) he new
theorem mY {P:Program}{w:World}{H':Hp}{h':Heap}{kvs:List (Key×V)}{vs:List (Key×Value)} (z:kvs.length<=sizeLine) (hd:(a == sysModules)=false) (rel:KV kvs vs) (dd:h'.DictOf (b5 P w) a vs) :
  aM P w H' h' a (.dK kvs):=⟨z,hd,vs,rel,dd⟩
theorem kK {H':Hp}{Q:Unit->Shared->Prop} (hu:A.units + 1 < cLine) (I:Inv X pins σ H s) (g:cU H a y v H') (ry:RelV y u) (rv:RelV v r) (h:∀s',Inv X pins σ H' s'->Q () s') :
  wpAny (model X.prog X.w) A (setItem (.ref a) u r) Q E s:=by
 rcases g with ⟨kvs,k,e,ey,l,eH⟩ | ⟨kvs,k,b,e,ey,eb,l,eH⟩
 ·subst ey eH
  obtain⟨z,hd,vs,rel,dd⟩:=nu I.hok e
  have hz:vs.length<=sizeLine:=by rw [<- rel.length];exact z
  have hl:(putK kvs k v).length<=sizeLine:=by have:=fA kvs k v;omega
  refine wpAny_setItem_pairs (hsz:=hz) (gP ry) dd fun h' dd' hs=>h _ ?_
  have he:∃q,h'.get? a=some q:=let ⟨q,_,_,hq,_⟩:=dd';⟨q,hq⟩
  exact gA I (by rw [e];exact True.intro) hs he (mY hl hd (rel.put k rv) dd')
 ·subst ey eH
  cases (show u=Value.ref b from ry)
  obtain⟨z,hd,xs,rel,dd⟩:=nj I.hok e
  have hz:xs.length<=sizeLine:=by rw [<- Paired.length rel];exact z
  have hl:(putK kvs k v).length<=sizeLine:=by have:=fA kvs k v;omega
  refine wpAny_setItem_heap (hsz:=hz) (tupleKind_room_in1 hu) (gK I.hok eb) dd fun h' dd' hs=>h _ ?_
  obtain⟨q,es,ep,hq,h2,h3,h4,_,h5⟩:=dd'
  refine gA I (by rw [e];exact True.intro) hs ⟨q,hq⟩ ⟨hl,hd,_,(rel.put k eb rv).keeps fun c ys ec=>?_,q,es,ep,hq,h2,h3,h4,h5⟩
  rw [aj (eZ ec e (fun z=>nomatch z))]
  exact ec
end
section
variable {X:Cx}{pins:List (Addr×Obj)}{σ:St}{H:Hp}{s:Shared}{a:Addr}{kvs:List (Key×V)}{k:Key}{u:Value}{A:Around}{E:Value->Shared->Prop}
end
noncomputable def nI (i:Expr):Prop:=∀ov iv,subscripted i false ov iv=operate [ov,iv] (getItem ov iv)
theorem sk {prog:Program}{w:World}{A:Around}{E:Value->Shared->Prop}{s:Shared}{env:Env}{value slice:Expr}{pos:Pos}{T id:String}{Q:Value->Shared->Prop}
  (hl:typeLookup (.type T) "__getitem__"=pure (some (.builtin id))) (hs:nI slice)
  (h:wpAny (model prog w) A (eval value env) (fun o s₁=>wpAny (model prog w) A (eval slice env) (fun i s₂=>s₂.TypeIs o T/\wpAny (model prog w) A (getItem o i) Q E s₂) E s₁) E s) :
  wpAny (model prog w) A (eval (.Subscript value slice pos) env) Q E s:=by
 refine Subscript_ (wpAny_mono h (fun o s₁ h₁=>wpAny_mono h₁ (fun i s₂ h₂=>?_) fun _ _ x=>x) fun _ _ x=>x)
 obtain⟨hT,h₂⟩:=h₂
 unfold subscriptTail
 refine wpAny_bind ?_
 rw [getitemInPython_of_ne hT.not_modules]
 refine wpAny_bind (wpAny_specialOf hT hl ?_)
 have fin:wpAny (model prog w) A (subscripted slice false o i) (fun r s₃=>wpAny (model prog w) A (letTemporaryGo value o r >>= fun _=>pure r) Q E s₃) E s₂:=by
  rw [hs o i]
  exact wpAny_operating (wpAny_mono h₂ (fun r s₃ h₃=>wpAny_bind (wpAny_letTemporaryGo (wpAny_pure h₃))) fun _ _ x=>x)
 first
  | exact wpAny_pure (wpAny_bind fin)
  | exact wpAny_bind (wpAny_pure (wpAny_bind fin))
  | exact wpAny_bind fin
theorem oZ {X:Cx}{pins:List (Addr×Obj)}{σ:St}{H:Hp}{s:Shared}{a:Addr}{y:V}{o:Option V} (I:Inv X pins σ H s) (g:bu H a y o):s.TypeIs (.ref a) "dict":=by
 rcases g with ⟨kvs,k,e,_,_⟩ | ⟨kvs,k,b,e,_,_,_⟩
 ·obtain⟨_,_,vs,_,dd⟩:=jv I.hok e
  exact dd.typeIs
 ·obtain⟨_,_,xs,_,dd⟩:=jr I.hok e
  exact dd.typeIs
noncomputable def vq (td ty:TE):TE:=fun σ H Q=>td σ H fun x H1=>ty σ H1 fun y H2=>∃a v,x=.ref a/\bu H2 a y (some v)/\Q v H2
noncomputable def vp (td ty tv:TE):TS:=fun D σ H=>tv σ H fun v H1=>td σ H1 fun x H2=>ty σ H2 fun y H3=>∃a H4,x=.ref a/\cU H3 a y v H4/\D.nx σ H4
noncomputable def vK (td ty tv:TE) (rd:V->V->Hp->VK->Prop):TS:=fun D σ H=>td σ H fun x H1=>ty σ H1 fun y H2=>∃a v,x=.ref a/\bu H2 a y (some v) /\
 tv σ H2 fun y2 H3=>rd v y2 H3 fun z H4=>∃H5,cU H4 a y z H5/\D.nx σ H5
section
variable {X:Cx}{o i e value:Expr}{pos pos' tpos:Pos}{td ty tv:TE}
theorem cZ (hu:X.A.units + 1 < cLine) (ho:PE X o td) (hi:PE X i ty) (hs:nI i):PE X (.Subscript o i pos) (vq td ty):=by
 intro pins s σ H Q I h
 refine sk PySem.F.slot_dict_getitem.lookup hs (thn (ho pins s σ H _ I h) fun u s1 ⟨x,H1,I1,rx,q1⟩=>thn (hi pins s1 σ H1 _ I1 q1) fun iv s2 ⟨y,H2,I2,ry,a,v,ex,g,q2⟩=>?_)
 subst ex
 obtain rfl:u=Value.ref a:=rx
 exact⟨oZ I2 g,kj hu I2 g ry fun w' s3 I3 rw'=>⟨v,H2,I3,rw',q2⟩⟩
theorem sf (hu:X.A.units + 1 < cLine) (ho:PE X o td) (hi:PE X i ty) (hv:PE X value tv) (hs:swapsWith value (some (.Subscript o i pos')) pos.line X.env=pure false) :
  PS X (.Assign [.Subscript o i pos'] value pos) (vp td ty tv):=by
 intro pins s σ H D I h
 refine wpAny_Assign_Subscript (thn (hv pins s σ H _ I h) fun r s1 ⟨v,H1,I1,rv,q1⟩=>thn (ho pins s1 σ H1 _ I1 q1) fun u s2 ⟨x,H2,I2,rx,q2⟩=>thn (hi pins s2 σ H2 _ I2 q2) fun iv s3 ⟨y,H3,I3,ry,a,H4,ex,g,q3⟩=>?_) hs
 subst ex
 obtain rfl:u=Value.ref a:=rx
 exact kK hu I3 g ry rv fun s4 I4=>⟨σ,H4,I4,q3⟩
theorem lL {op:Operator}{rd:V->V->Hp->VK->Prop} (hu:X.A.units + 1 < cLine) (ho:PE X o td) (hi:PE X i ty) (hv:PE X value tv) (hop:jD X op rd)
  (ha:∀ov iv new,augStore i ov iv new=(do holding [new,ov,iv] (setItem ov iv new);release [new,ov,iv] [];pure .next)):PS X (.AugAssign (.Subscript o i tpos) op value pos) (vK td ty tv rd):=by
 intro pins s σ H D I h
 refine wpAny_AugAssign_SubscriptAny (thn (ho pins s σ H _ I h) fun u s1 ⟨x,H1,I1,rx,q1⟩=>thn (hi pins s1 σ H1 _ I1 q1) fun iv s2 ⟨y,H2,I2,ry,a,v,ex,g,q2⟩=>?_) ha
 subst ex
 obtain rfl:u=Value.ref a:=rx
 refine kj hu I2 g ry fun w' s3 I3 rw'=>thn (hv pins s3 σ H2 _ I3 q2) fun w2 s4 ⟨y2,H3,I4,ry2,q3⟩=>thn (hop pins s4 σ H3 v y2 w' w2 _ I4 rw' ry2 q3) fun w3 s5 ⟨z,H4,I5,rz,H5,g5,q4⟩=>?_
 exact kK hu I5 g5 ry rz fun s6 I6=>⟨σ,H5,I6,q4⟩
end
theorem qJ {P:Program}{w:World}{H:Hp} (h:Heap) (hb:sysModules < h.objs.size):aM P w H (h.push { cls:=.type "dict",data:=.dict #[] }) h.objs.size (.dK []) :=
 ⟨Nat.zero_le _,beq_eq_false_iff_ne.mpr (Ne.symm (Nat.ne_of_lt hb)),[],.nil,Heap.DictOf.new h⟩
theorem rG {P:Program}{w:World}{H:Hp} (h:Heap) (hb:sysModules < h.objs.size):aM P w H (h.push { cls:=.type "dict",data:=.dict #[] }) h.objs.size (.dT []) :=
 ⟨Nat.zero_le _,beq_eq_false_iff_ne.mpr (Ne.symm (Nat.ne_of_lt hb)),[],.nil,_,#[],0,Heap.get?_push_size _ rfl,⟨rfl,rfl,rfl⟩,rfl,rfl,List.nodup_nil⟩
section
variable {X:Cx}{pos:Pos}
end
section
variable {prog:Program}{w:World}{A:Around}{R:Result->Shared->Prop}{s:Shared}
theorem md {kx vx tg iter:Expr}{ifs:List Expr}{scope:Scope}{pos:Pos}{it:Value}{D:Addr}{env:Env} (J:Nat->Shared->Prop)
  (turn:∀n s,J n s->wpAny (model prog w) A (pyNext it) (fun r s1=>match r with
   | none=>R (.ok .next) s1
   | some v=>wpAny (model prog w) A (letOwnedTupleGo tg it v) (fun _ s2=>wpAny (model prog w) A (assign tg env v) (fun _ s3 =>
     wpAny (model prog w) A (forIn ifs true fun c r=>if r=true then do let ok <- isTrue c env (eval c env);pure (ForInStep.yield ok) else pure (ForInStep.yield r)) (fun ok s4 =>
      if ok=true then wpAny (model prog w) A (eval kx env) (fun y s5=>wpAny (model prog w) A (eval vx env) (fun x s6=>wpAny (model prog w) A (dictSet D y x) (fun _ s7=>∃m,m < n/\J m s7) (fun _ _=>False) s6) (fun _ _=>False) s5) (fun _ _=>False) s4
      else ∃m,m < n/\J m s4) (fun _ _=>False) s3) (fun _ _=>False) s2) (fun _ _=>False) s1) (fun _ _=>False) s)
  (n:Nat) (h:J n s):codeAny (model prog w) A (.compLoop (.DictComp kx vx [⟨tg,iter,ifs,0⟩] scope pos) 0 it (.ref D) env) R s:=by
 refine codeAny_loop rfl J (fun k t hJ=>?_) n h
 show wpAny _ A ((compTurn (.DictComp kx vx [⟨tg,iter,ifs,0⟩] scope pos) 0 it (.ref D) env).onRaise (fun x=>do noteFrame x env;theTreesLotGoes x)) _ _ t
 refine wpAny_noted (wpAny_mono (E:=fun _ _=>False) ?_ (fun _ _ q=>q) fun _ _ f=>f.elim)
 rw [compTurn_dict]
 refine wpAny_bind (wpAny_standAt (wpAny_bind (thn (turn k t hJ) fun r s1 h1=>?_)))
 cases r with
 | none=>exact wpAny_pure h1
 | some v =>
  refine wpAny_bind (thn h1 fun _ s2 h2=>wpAny_bind (thn h2 fun _ s3 h3=>wpAny_bind (thn h3 fun ok s4 h4=>?_)))
  cases ok with
  | false=>exact wpAny_pure ⟨rfl,h4⟩
  | true=>exact wpAny_bind (wpAny_bind (thn h4 fun y s5 h5=>wpAny_bind (wpAny_holding (thn h5 fun x s6 h6=>wpAny_bind (wpAny_standAt (wpAny_holding (thn h6 fun _ s7 h7=>wpAny_pure ⟨rfl,h7⟩)))))))
end
noncomputable def jy (H:Hp) (a:Addr) (y v:V) (H':Hp):Prop:=∃kvs k b,H a=some (.dT kvs)/\y=.ref b/\H b=some (.tup (k.map kV))/\kvs.length < sizeLine/\H'=upd H a (.dT (putK kvs k v))
theorem qm {X:Cx}{pins:List (Addr×Obj)}{σ:St}{H H':Hp}{s:Shared}{a:Addr}{y v:V}{u r:Value}{A:Around}{E:Value->Shared->Prop}{Q:Unit->Shared->Prop} (hu:A.units < cLine) (I:Inv X pins σ H s) (g:jy H a y v H') (ry:RelV y u) (rv:RelV v r) (h:∀s',Inv X pins σ H' s'->Q () s') :
  wpAny (model X.prog X.w) A (dictSet a u r) Q E s:=by
 obtain⟨kvs,k,b,e,ey,eb,l,eH⟩:=g
 subst ey eH
 cases (show u=Value.ref b from ry)
 obtain⟨z,hd,xs,rel,dd⟩:=nj I.hok e
 have hz:xs.length<=sizeLine:=by rw [<- Paired.length rel];exact z
 have hl:(putK kvs k v).length<=sizeLine:=by have:=fA kvs k v;omega
 refine wpAny_dictSet_heap (hsz:=hz) (show (tupleKind (b5 X.prog X.w)).room A from hu) (gK I.hok eb) dd (fun h' dd' hs=>h _ ?_)
 obtain⟨q,es,ep,hq,h2,h3,h4,_,h5⟩:=dd'
 refine gA I (by rw [e];exact True.intro) hs ⟨q,hq⟩ ⟨hl,hd,_,(rel.put k eb rv).keeps fun c ys ec=>?_,q,es,ep,hq,h2,h3,h4,h5⟩
 rw [aj (eZ ec e (fun z=>nomatch z))]
 exact ec
noncomputable def DcW (D:Addr) (J:It) (g:TG) (tt:TT) (tk tv:TE) (σ':St) (fin:Hp->Prop) (H1:Hp):Prop :=
 ∃W:Nat->Nat->St->Hp->Prop,(∃m,W 0 m σ' H1)/\∀i m σ H,W i m σ H ->
  (J.stop i H/\fin H)\/(J.go i H/\∃Nx:St->Hp->Prop,(∀σ' H',Nx σ' H'->∃m',m' < m/\W (i + 1) m' σ' H') /\
   ∀x H',J.yld i H x H'->g x σ H' fun σ2 H2=>tt σ2 H2 fun b H3=>if b=true then tk σ2 H3 (fun y H4=>tv σ2 H4 fun v H5=>∃H6,jy H5 D y v H6/\Nx σ2 H6) else Nx σ2 H3)
noncomputable def uz (i:Nat) (wi:TI) (g:TG) (tt:TT) (tk tv:TE) (ix:List (Option Nat)):TS:=fun E σ H=>wi σ H fun J H1=>∀D,H1 D=none->DcW D J g tt tk tv (emb ix σ) (fun H'=>E.nx (σ.set i (some (.ref D))) H') (upd H1 D (.dT []))
theorem mn {b D C:Nat} (h:b < D) (e:C=D + 1) (z:b=C):False:=by omega
section
variable {X:Cx}{scope:Scope}{N:List Str}{ix:List (Option Nat)}
theorem m4 {pins pins':List (Addr×Obj)}{σ σ':St}{H2 H':Hp}{s2 s':Shared}{C:Addr}{fp:List Addr}{h':Heap} (I2:Inv X pins σ H2 s2) (hf:∀b∈fp,aY X pins H2 b)
  (I':Inv (au X scope N C s2 H2 fp) pins' σ' H' s') (hC:s2.heap.objs.size<=C) (hs:∀b o,b≠C->s'.heap.get? b=some o->h'.get? b=some o):Inv X pins σ H' { s' with heap:=h' }:=by
 have B:Un (frs X.stack) fp H2 H' s2.heap s'.heap:=I'.base
 have neC:∀b o,s2.heap.get? b=some o->b≠C:=fun b o e=>Nat.ne_of_lt (Nat.lt_of_lt_of_le (Heap.lt_size e) hC)
 have hCn:H' C=none:=I'.free
 have tC:∀b u,H' b=some u->b≠C:=fun b u e=>aV e hCn
 refine I2.call' (s':={ s' with heap:=h' }) (ch:=fp) I'.os ⟨fun b o e n hb hx=>?_,fun b o e n hb hx=>?_,fun b o e n hx=>?_,fun b o e hx=>?_,fun b xs e=>?_,fun b o u e=>?_,fun b ps e=>?_⟩ (fun b u e=>?_) I'.bare fun b hb=>⟨(hf b hb).2.2.2.1,(hf b hb).2.1,(hf b hb).2.2.2.2.1,(hf b hb).2.2.2.2.2⟩
 ·exact hs b o (neC b o e) (B.keep b o e n hb hx)
 ·obtain⟨sl,q⟩:=B.slot b o e n hb hx
  exact⟨sl,hs b _ (neC b o e) q⟩
 ·exact B.free b o e n hx
 ·obtain⟨o',q⟩:=B.there b o e hx
  exact⟨o',hs b o' (neC b o e) q⟩
 ·exact B.tups b xs e
 ·exact B.frzs b o u e
 ·exact B.tbls b ps e
 ·refine (I'.hok b u e).stay (fun c v hc q=>hs c v ?_ q) (fun c q=>q) fun c xs q=>q
  rcases hc with z | z
  ·rw [z];exact tC b u e
  ·exact tC c _ z
variable {tg iter kx vx:Expr}{ifs:List Expr}{pos:Pos}{g:TG}{tt:TT}{tk tv:TE}
theorem mX (L:bz X scope N ix) (hc:X.calm=true) (hu:X.A.units < cLine) (hg:∀C s0 H0 fp,PG (au X scope N C s0 H0 fp) tg g) (ht:∀C s0 H0 fp,PTs (au X scope N C s0 H0 fp) ifs tt) (hk:∀C s0 H0 fp,PE (au X scope N C s0 H0 fp) kx tk) (hv:∀C s0 H0 fp,PE (au X scope N C s0 H0 fp) vx tv)
  {pins:List (Addr×Obj)}{σ:St}{H1:Hp}{s1:Shared}{it:Addr}{fp:List Addr}{tn:Nat->Heap->Prop}{J:It}{fin:Addr->Hp->Prop}{E:Value->Shared->Prop}{RR:Value->Addr->Result->Shared->Prop}
  (I1:Inv X pins σ H1 s1) (T:Turn X.prog X.w X.K tg J fp it tn) (st:tn 0 s1.heap) (f1:∀b∈fp,aY X pins H1 b) (hW:∀D,H1 D=none->DcW D J g tt tk tv (emb ix σ) (fin D) (upd H1 D (.dT [])))
  (hRR:∀D C s' m H',s'.heap.Ns C m->s'.os=s1.os->aY X pins H' C->(∀h',Heap.SameBut C s'.heap h'->Inv X pins σ H' { s' with heap:=h' })->fin D H'->RR (.ref D) C (.ok .next) s') :
  wpAny (model X.prog X.w) X.A newDict (fun acc s3=>wpAny (model X.prog X.w) X.A (newFunctionEnv scope X.env.globals (bo X.env scope.names []) [] X.env.qual none .none (some X.env)) (fun cenv s4 =>
   codeAny (model X.prog X.w) X.A (.compStart (.DictComp kx vx [⟨tg,iter,ifs,0⟩] scope pos) 0 (.ref it) acc { cenv with scope:=relabel scope X.env }) (RR acc cenv.locals) s4) E s3) E s1:=by
 have hb1:∀b∈fp,b < s1.heap.objs.size:=fun b hb=>by
  obtain⟨o,e,_⟩:=T.obj _ _ st b hb
  exact Heap.lt_size e
 have hDn:H1 s1.heap.objs.size=none:=I1.hok.fresh (Nat.le_refl _)
 obtain⟨W,⟨m0,w0⟩,turn⟩:=hW s1.heap.objs.size hDn
 refine wpAny_newObj_type (wpAny_newFunctionEnv L.nocell (by intro y hy;simp at hy) (fun h1 hns hsb=>?_) L.kind)
 dsimp only at hns hsb ⊢
 have I2:Inv X pins σ (upd H1 s1.heap.objs.size (.dT [])) { s1 with heap:=s1.heap.push { cls:=.type "dict",data:=.dict #[] },toks:=s1.toks } :=
  I1.laid (t':=s1.toks) (a:=s1.heap.objs.size) (o:=.dT []) (fun _ _ q=>Heap.get?_push_of_some _ q) (Nat.le_refl _) (rG s1.heap I1.big)
 have f2:∀b∈fp,aY X pins (upd H1 s1.heap.objs.size (.dT [])) b:=fun b hb=>by
  obtain⟨q0,q1⟩:=f1 b hb
  exact⟨by rw [aj (Nat.ne_of_lt (hb1 b hb))];exact q0,q1⟩
 have st2:tn 0 (s1.heap.push { cls:=.type "dict",data:=.dict #[] }):=T.keep _ _ _ st fun b _ o e=>Heap.get?_push_of_some _ e
 generalize hD:s1.heap.objs.size=D at *
 generalize hH2:upd H1 D (.dT [])=H2 at *
 generalize hG:s1.heap.push { cls:=.type "dict",data:=.dict #[] }=G at *
 have hGs:G.objs.size=D + 1:=by rw [<- hG,Heap.size_push,hD]
 generalize hCe:G.objs.size=C at *
 have kp:∀b o,G.get? b=some o->h1.get? b=some o:=fun b o e=>hsb.extBut b o (fun z=>by have:=Heap.lt_size e;rw [hCe] at this;exact absurd (z ▸ this) (Nat.lt_irrefl _)) (Heap.get?_push_of_some _ e)
 have I4:=gO L (tk:=s1.toks + ([]:List (Str×Value)).length) I2 (C:=C) (by show G.objs.size<=C;rw [hCe];exact Nat.le_refl _) f2 (fun b hb=>by show b < G.objs.size;rw [hCe,hGs];exact Nat.lt_succ_of_lt (hb1 b hb)) kp hns
 have st4:tn 0 h1:=T.keep _ _ _ st2 fun b _ o e=>kp b o e
 generalize hs2:({ s1 with heap:=G,toks:=s1.toks }:Shared)=s2 at I2 I4
 have hs2h:s2.heap=G:=by rw [<- hs2]
 have hs2o:s2.os=s1.os:=by rw [<- hs2]
 have stat:∀{H':Hp},(∀b∈fp,H' b=none)->∀b∈fp,aY (au X scope N C s2 H2 fp) [] H' b:=fun {H'} hn b hb=>by
  have hlt:=hb1 b hb
  refine⟨hn b hb,fun z=>?_,fun z=>?_,.inl hb,fun x c e=>(f2 b hb).2.2.2.2.1 x c (cq e),fun p hq z=>?_⟩
  ·exact mn hlt hGs z
  ·exact (List.mem_cons.mp (I2.stkSub b z)).elim (f2 b hb).2.1 (f2 b hb).2.2.1
  ·have hq':p∈([]:List (Addr×Obj)):=by simpa [au] using hq
   cases hq'
 have loop:∀s4:Shared,Inv (au X scope N C s2 H2 fp) [] (emb ix σ) H2 s4->tn 0 s4.heap->codeAny (model X.prog X.w) X.A (.compLoop (.DictComp kx vx [⟨tg,iter,ifs,0⟩] scope pos) 0 (.ref it) (.ref D) (au X scope N C s2 H2 fp).env) (RR (.ref D) C) s4:=by
  intro s4 I4' st4'
  refine md (fun n s'=>∃i σ' H',Inv (au X scope N C s2 H2 fp) [] σ' H' s'/\tn i s'.heap/\(∀b∈fp,H' b=none)/\W i n σ' H') ?_ m0 ⟨0,emb ix σ,H2,I4',st4',fun b hb=>(f2 b hb).1,w0⟩
  rintro n s' ⟨i,σ',H',I',st',fr',w'⟩
  rcases turn i n σ' H' w' with ⟨stop,qf⟩ | ⟨go,Nx,hN,step⟩
  ·refine thn (T.done (au X scope N C s2 H2 fp) rfl rfl rfl hc i _ s' σ' H' _ I' (stat fr') st' stop) fun r s5 ⟨hr,I5⟩=>?_
   subst hr
   obtain⟨m5,hn5,_⟩:=I5.loc
   refine hRR D C s5 m5 H' hn5 (I5.os.trans hs2o) (I2.fpOk (by rw [hs2h,hCe];exact Nat.le_refl _) I5.free) (fun h' hs'=>?_) qf
   exact m4 I2 f2 I5 (by rw [hs2h,hCe];exact Nat.le_refl _) fun b o hb e=>hs'.extBut b o hb e
  ·refine thn (T.item (au X scope N C s2 H2 fp) rfl rfl rfl hc i _ s' σ' H' _ I' (stat fr') st' go) fun r s5 ⟨u,hr,h5⟩=>?_
   subst hr
   refine thn h5 fun _ s6 ⟨x,H6,I6,r6,y6,st6,fr6⟩=>?_
   have I6':=I6.pinned (stat fr6) (T.obj _ _ st6)
   refine thn (hg C s2 H2 fp _ s6 σ' H6 x u _ I6' r6 (step x H6 y6)) fun _ s7 ⟨σ7,H7,I7,q7⟩=>?_
   refine thn (ht C s2 H2 fp _ s7 σ7 H7 _ I7 q7) fun ok s8 ⟨H8,I8,q8⟩=>?_
   have back:∀{H9:Hp}{s9:Shared},Inv (au X scope N C s2 H2 fp) ([]++cg fp s6.heap) σ7 H9 s9->tn (i + 1) s9.heap/\∀b∈fp,H9 b=none:=fun {H9 s9} I9=>by
    refine⟨T.keep _ _ _ st6 fun b hb o e=>(I9.pin (b,o) (List.mem_append_right _ (List.mem_append_right _ (bS hb e)))).1,fun b hb=>?_⟩
    obtain⟨o,e,d⟩:=T.obj _ _ st6 b hb
    exact (I9.pin (b,o) (List.mem_append_right _ (List.mem_append_right _ (bS hb e)))).2.1
   cases ok with
   | false =>
    rw [if_neg Bool.false_ne_true] at q8 ⊢
    obtain⟨m',hm,w8⟩:=hN _ _ q8
    obtain⟨st8,fr8⟩:=back I8
    exact⟨m',hm,i + 1,σ7,H8,I8.unpinned,st8,fr8,w8⟩
   | true =>
    rw [if_pos rfl] at q8 ⊢
    refine thn (hk C s2 H2 fp _ s8 σ7 H8 _ I8 q8) fun yv s9 ⟨y,H9,I9,r9,q9⟩=>?_
    refine thn (hv C s2 H2 fp _ s9 σ7 H9 _ I9 q9) fun xv s10 ⟨v,H10,I10,r10,H11,g11,q11⟩=>?_
    refine qm (X:=au X scope N C s2 H2 fp) hu I10 g11 r9 r10 fun s11 I11=>?_
    obtain⟨m',hm,w11⟩:=hN _ _ q11
    obtain⟨st11,fr11⟩:=back I11
    exact⟨m',hm,i + 1,σ7,H11,I11.unpinned,st11,fr11,w11⟩
 have q:=loop _ I4 st4
 subst hs2
 exact codeAny_compStart_dict q (T.self _ 0 _ _ _ st4 q)
theorem qE {i:Nat}{y:Str}{py spos:Pos}{wi:TI} (hu:X.A.units < cLine) (hN:X.N.Nodup) (hi':X.N[i]?=some y) (hx:Loc X.env.scope y) (L:bz X scope N ix) (hc:X.calm=true) (hi:PI X tg iter wi) (hg:∀C s0 H0 fp,PG (au X scope N C s0 H0 fp) tg g)
  (ht:∀C s0 H0 fp,PTs (au X scope N C s0 H0 fp) ifs tt) (hk:∀C s0 H0 fp,PE (au X scope N C s0 H0 fp) kx tk) (hv:∀C s0 H0 fp,PE (au X scope N C s0 H0 fp) vx tv)
  (hsw:swapsWith (.DictComp kx vx [⟨tg,iter,ifs,0⟩] scope pos) (some (.Name y py)) spos.line X.env=pure true:=by rfl) (hs:∀x,foldedSetIterable iter X.env x=pure x:=by intro _;rfl)
  (hf:X.fn y=true\/X.env.scope.names.lookup y=some .local:=by first | exact .inl rfl | exact .inr rfl | assumption) :
  PS X (.Assign [.Name y py] (.DictComp kx vx [⟨tg,iter,ifs,0⟩] scope pos) spos) (uz i wi g tt tk tv ix):=by
 intro pins s σ H D I h
 rw [exec_Assign_Name_used _ _ _ _ hsw]
 refine wpAny_bind (wpAny_standAt (wpAny_bind ?_))
 show wpAny _ X.A (do let _ <- comprehension (.DictComp kx vx [⟨tg,iter,ifs,0⟩] scope pos) scope X.env _ newDict false (eval iter X.env) (some (assign (.Name y py) X.env))) _ _ s
 refine wpAny_bind (thn (wpAny_comprehension_free (use:=some (assign (.Name y py) X.env)) (Q:=fun _ s'=>SP X pins D .next s') rfl hs (L.clos I.ok) L.kind L.locals
  (thn (hi pins s σ H _ I h) fun v s1 h1=>thn h1 fun itv s2 h2=>?_)) fun _ s' hq=>wpAny_pure (wpAny_pure hq))
 obtain⟨it,fp,tn,J,H2,rfl,I2,T,st2,f2,hW⟩:=h2
 refine mX (RR:=fun acc C=>compPost (model X.prog X.w) X.A X.xe (some (assign (.Name y py) X.env)) (fun _ s'=>SP X pins D .next s') acc C) L hc hu hg ht hk hv I2 T st2 f2 hW ?_
 intro Da C s' m H' hn ho hC hI fin
 have I':=hI s'.heap (Heap.SameBut.refl _ _)
 show wpAny _ X.A (assign (.Name y py) X.env (.ref Da)) _ _ s'
 refine wpAny_assign_Name (fX (v:=.ref Da) I' hN hi' hx rfl (fun s'' I'' ch=>?_) hf)
 obtain⟨a,hsa,hwa⟩:=ch
 obtain⟨c1,c2,c3,c4,c5,c6⟩:=hC
 have hCa:C≠a:=by
  rcases hwa with z | z
  ·rw [z];exact c2
  ·exact fun w=>c5 y a z w.symm
 refine⟨m,hn.sameBut hsa hCa,fun h' hs'=>⟨_,_,I''.turned (t':=s''.toks) (it:=C) (fun b o hb e=>hs'.extBut b o hb e) c1 c2 c4 c5 c6,fin⟩⟩
end
inductive jd (A:Around) (s:Shared):List (Value×Value)->List (Bool×Bool)->Prop
 | nil:jd A s [] []
 | cons {v u:Value}{e b:Bool}{r:List (Value×Value)}{cs:List (Bool×Bool)}:SeqAt.EqAt A s v u e ->
   (e=false->∀(prog:Program) (w:World) (E:Value->Shared->Prop) (Q:Value->Shared->Prop),Q (.bool b) s->wpAny (model prog w) A (richCompare .Lt v u) Q E s)->jd A s r cs->jd A s ((v,u)::r) ((e,b)::cs)
section
open PySem.SeqAt
open PySem.AutoSeq1 (wpAny_loadPart')
open PySem.MeetsSeq PySem.MeetsSeq2 PySem.MeetsSeq3
end
section
variable {prog:Program}{w:World}{A:Around}{E:Value->Shared->Prop}{s:Shared}
end
section
variable {prog:Program}{w:World}{A:Around}{R:Result->Shared->Prop}{I:Addr}{fp wr:List Addr}{n:Nat}{P:Nat->Value->Prop}{St:Nat->Heap->Prop}
end
section
variable {prog:Program}{w:World}{A:Around}{E:Value->Shared->Prop}{s:Shared}
end
theorem kB {val:Nat->Int}:∀(ns:List Int) (k:Nat),k<=ns.length->(∀i n,ns[i]?=some n->val i=n)->preSum val k=(ns.take k).sum
 | ns,0,_,_=>by simp [preSum]
 | ns,k + 1,h,hv=>by
  have hk:ns[k]?=some ns[k]:=List.getElem?_eq_getElem (by omega)
  rw [preSum,kB ns k (by omega) hv,hv k _ hk,List.take_succ,hk,Option.toList_some,List.sum_append]
  simp
section
variable {X:Cx}
theorem ints_get {ns:List Int}{us:List Value} (r:av (ns.map V.int) us) {i:Nat}{v:Value} (h:us[i]?=some v):∃t,v=.int ((ns[i]?).getD 0) t:=by
 have hl:=r.length
 rw [List.length_map] at hl
 have hi:i < ns.length:=by rw [hl];exact (List.getElem?_eq_some_iff.mp h).1
 obtain⟨u,hu,ru⟩:=r.get (i:=i) (x:=.int ns[i]) (by rw [List.getElem?_map,List.getElem?_eq_getElem hi];rfl)
 rw [h] at hu
 cases hu
 obtain⟨t,rfl⟩:=ru
 exact⟨t,by rw [List.getElem?_eq_getElem hi];rfl⟩
theorem kn (hc:X.calm=true):bC X (.builtin "sum") (fun xs H Q=>∃(p:Addr) (ns:List Int),xs=[.ref p]/\(SqL X.K H p (ns.map V.int)\/SqT X.K H p (ns.map V.int))/\Q (.int ns.sum) H):=by
 intro pins s σ H xs us Q I r h
 obtain⟨p,ns,rfl,hq,q⟩:=h
 obtain⟨u,rfl,ru⟩:=vals1 r
 cases ru
 have fin:∀(its:List Value),av (ns.map V.int) its->preSum (fun i=>(ns[i]?).getD 0) its.toArray.size=ns.sum:=fun its rv=>by
  have hl:=rv.length
  rw [List.length_map] at hl
  rw [List.size_toArray,<- hl,kB ns ns.length (Nat.le_refl _) fun i n e=>by rw [e];rfl,List.take_length]
 rcases hq with hq | hq
 ·obtain⟨its,rv,pl,hz⟩:=I.list hq
  have il:=pl.isList
  have hlt:p < s.heap.objs.size:=by obtain⟨_,e,_⟩:=il;exact Heap.lt_size e
  refine call_sum_walkG (wpAny_pyIter_list il ⟨s.heap.objs.size,[s.heap.objs.size,p],[s.heap.objs.size],its.toArray.size,_,_,fun i=>(ns[i]?).getD 0,rfl,Walks.list (A:=X.A.in1) (I.ok.hd hc) _ p (Nat.ne_of_lt hlt) its.toArray,
   ⟨⟨_,Heap.get?_push_size _ rfl,rfl,rfl⟩,il.push _⟩,fun b hb=>?_,fun i v hv=>ints_get rv (by simpa using hv),fun h' tk t' hk=>?_⟩)
  ·show b < (s.heap.push _).objs.size
   rw [Heap.size_push]
   simp only [List.mem_cons,List.not_mem_nil,or_false] at hb
   rcases hb with rfl | rfl
   ·exact Nat.lt_succ_self _
   ·exact Nat.lt_succ_of_lt hlt
  ·rw [fin its rv]
   exact⟨.int ns.sum,H,I.kept (t':=tk) fun b o e=>hk b o (fun z=>absurd (Heap.lt_size e) (by rw [List.mem_singleton.mp z];exact Nat.lt_irrefl _)) (Heap.get?_push_of_some _ e),⟨_,rfl⟩,q⟩
 ·obtain⟨its,rv,pl,hz⟩:=I.tuple hq
  have il:s.heap.IsTuple p its.toArray:=pl
  have hlt:p < s.heap.objs.size:=by obtain⟨_,e,_⟩:=il;exact Heap.lt_size e
  refine call_sum_walkG (wpAny_pyIter_tuple il ⟨s.heap.objs.size,[s.heap.objs.size,p],[s.heap.objs.size],its.toArray.size,_,_,fun i=>(ns[i]?).getD 0,rfl,Walks.tuple (A:=X.A.in1) (I.ok.hd hc) _ p (Nat.ne_of_lt hlt) its.toArray,
   ⟨⟨_,Heap.get?_push_size _ rfl,rfl,rfl⟩,il.at fun o e=>Heap.get?_push_of_some _ e⟩,fun b hb=>?_,fun i v hv=>ints_get rv (by simpa using hv),fun h' tk t' hk=>?_⟩)
  ·show b < (s.heap.push _).objs.size
   rw [Heap.size_push]
   simp only [List.mem_cons,List.not_mem_nil,or_false] at hb
   rcases hb with rfl | rfl
   ·exact Nat.lt_succ_self _
   ·exact Nat.lt_succ_of_lt hlt
  ·rw [fin its rv]
   exact⟨.int ns.sum,H,I.kept (t':=tk) fun b o e=>hk b o (fun z=>absurd (Heap.lt_size e) (by rw [List.mem_singleton.mp z];exact Nat.lt_irrefl _)) (Heap.get?_push_of_some _ e),⟨_,rfl⟩,q⟩
end
section
variable {prog:Program}{w:World}{A:Around}{E:Value->Shared->Prop}{s:Shared}
theorem lP {c t:Addr}{i:Nat}{its:Array Value}{v:Value}{Q:Value->Shared->Prop} (hi:s.heap.IsTupleIter c t i) (ht:s.heap.IsTuple t its) (hv:its[i]?=some v)
  (k:∀G,G.IsTupleIter c t (i + 1)->Heap.SameBut c s.heap G->Q v { s with heap:=G }):wpAny (model prog w) A (Builtin.SmallTypes.nextOf (.ref c)) Q E s:=by
 obtain⟨o,e,cl,d⟩:=id hi
 obtain⟨o2,e2,_,n2,d2⟩:=ht
 unfold Builtin.SmallTypes.nextOf
 refine wpAny_bind (wpAny_callSpecial?_slot (name:=Str.ofString "__next__") hi.typeIs F.slot_tuple_iterator_next (wpAny_call_entry F.slot_tuple_iterator_next hi.typeIs F.entry_tuple_iterator_next ?_ (F.args_tuple_iterator_next_1 _)))
 refine (show wpAny _ _ (field (.ref c) 0 >>= _) _ _ s from wpAny_bind (wpAny_field e d (x:=.ref t) rfl ?_))
 refine (show wpAny _ _ (if (Value.ref t == Value.none)=true then _ else _) _ _ s from ?_);rw [if_neg (show ¬ ((Value.ref t == Value.none)=true) from Bool.false_ne_true)]
 refine (show wpAny _ _ (field (.ref c) 1 >>= _) _ _ s from wpAny_bind (wpAny_field e d (x:=.int i 0) rfl ?_))
 refine (show wpAny _ _ (seqItems? (.ref t) >>= _) _ _ s from wpAny_bind (wpAny_seqItems e2 d2 ?_));simp only [Int.toNat_natCast,hv]
 refine wpAny_bind (wpAny_setField e d (by simp) (wpAny_pure ⟨v,rfl,wpAny_pure (k _ ⟨_,Heap.get?_update_self _ e (Obj.isFreed_of_fields (Obj.data_mapFields d _)),(Obj.cls_mapFields ..).trans cl,by rw [Obj.data_mapFields d];simp [rawInt]⟩ (Heap.SameBut.update ..))⟩))
theorem mJ {c t:Addr}{i:Nat}{its:Array Value}{Q:Value->Shared->Prop} (hh:A.handled=none) (hi:s.heap.IsTupleIter c t i) (ht:s.heap.IsTuple t its) (hv:its[i]?=none)
  (k:∀G x,Heap.ExtBut c s.heap G->(∃o,G.get? x=some o/\o.cls=.type "StopIteration")->E (.ref x) { s with heap:=G }):wpAny (model prog w) A (Builtin.SmallTypes.nextOf (.ref c)) Q E s:=by
 obtain⟨o,e,cl,d⟩:=id hi
 obtain⟨o2,e2,_,n2,d2⟩:=ht
 unfold Builtin.SmallTypes.nextOf
 refine wpAny_bind (wpAny_callSpecial?_slot (name:=Str.ofString "__next__") hi.typeIs F.slot_tuple_iterator_next (wpAny_call_entry F.slot_tuple_iterator_next hi.typeIs F.entry_tuple_iterator_next ?_ (F.args_tuple_iterator_next_1 _)))
 refine (show wpAny _ _ (field (.ref c) 0 >>= _) _ _ s from wpAny_bind (wpAny_field e d (x:=.ref t) rfl ?_))
 refine (show wpAny _ _ (if (Value.ref t == Value.none)=true then _ else _) _ _ s from ?_);rw [if_neg (show ¬ ((Value.ref t == Value.none)=true) from Bool.false_ne_true)]
 refine (show wpAny _ _ (field (.ref c) 1 >>= _) _ _ s from wpAny_bind (wpAny_field e d (x:=.int i 0) rfl ?_))
 refine (show wpAny _ _ (seqItems? (.ref t) >>= _) _ _ s from wpAny_bind (wpAny_seqItems e2 d2 ?_));simp only [Int.toNat_natCast,hv]
 refine wpAny_bind (wpAny_rule (wpAny_bind (wpAny_setField e d (by simp) (show wpAny _ _ (newExc (.type "StopIteration") [] >>= _) _ _ _ from wpAny_bind ?_))));simp only [newExc,newTuple]
 refine wpAny_bind (wpAny_newObj_type (wpAny_bind (m:=firstArgMember _ _) (wpAny_of_eq (a:=Value.none) (by first | rfl | (simp only [firstArgMember];rfl)) (wpAny_newObj_type ?_ (by size_fits)))) (by size_fits));simp only [raiseNew]
 refine wpAny_bind (wpAny_handled ?_);(first | rw [show A.in1.handled=none from hh] | rw [hh])
 exact wpAny_bind (wpAny_pure (wpAny_throw (k _ _ (((Heap.SameBut.update ..).extBut.push _).push _) ⟨_,Heap.get?_push_size _ rfl,rfl⟩)))
end
section
variable {prog:Program}{w:World}{A:Around}{E:Value->Shared->Prop}{s:Shared}
end
section
variable {X:Cx}
end
section
variable {prog:Program}{w:World}{A:Around}{E:Value->Shared->Prop}{s:Shared}
theorem mq {c d:Addr}{i ep:Nat}{o:Obj}{es:Array DictEntry}{Q:Option Value->Shared->Prop} (hi:s.heap.IsKeyIter c d i es.size ep) (ho:s.heap.get? d=some o) (hd:o.data=.dict es ep) (lt:i < es.size)
  (q:∀G,G.IsKeyIter c d (i + 1) es.size ep->Heap.SameBut c s.heap G->Q (some es[i].key) { s with heap:=G }):wpAny (model prog w) A (pyNext (.ref c)) Q E s:=by
 obtain⟨oc,e,cl,dc⟩:=id hi
 have own:Builtin.Dict_items.ownsTuple "dict_keyiterator"=false:=by decide
 unfold pyNext
 refine wpAny_bind (wpAny_attempt (wpAny_callSpecial?_slot (name:=Str.ofString "__next__") hi.typeIs F.slot_dict_keyiterator_next (wpAny_call_entry F.slot_dict_keyiterator_next hi.typeIs F.entry_dict_keyiterator_next ?_ (F.args_dict_keyiterator_next_1 _))))
 refine wpAny_bind (wpAny_pure (wpAny_bind (wpAny_bind ?_)))
 (first | refine wpAny_bind (wpAny_typeNameOfWhole_keyiter hi.typeIs (wpAny_pure (wpAny_bind (wpAny_fieldsOf e dc ?_)))) | refine wpAny_bind (wpAny_typeNameOf_keyiter hi.typeIs (wpAny_pure (wpAny_bind (wpAny_fieldsOf e dc ?_)))));simp only [own,Bool.false_eq_true,if_false]
 refine (show wpAny _ _ (if (Value.ref d == Value.none)=true then _ else _) _ _ s from ?_);rw [if_neg (show ¬ ((Value.ref d == Value.none)=true) from Bool.false_ne_true)]
 refine wpAny_bind (wpAny_pure (wpAny_bind (wpAny_dictEntries ho hd ?_)));rw [if_neg (by simp)]
 refine wpAny_bind (wpAny_pure (wpAny_bind (wpAny_dictEpoch ho hd ?_)));rw [if_neg (by simp)]
 refine wpAny_pure ?_;simp only [show ¬ ((i:Int) < 0) from by omega,if_false,Int.toNat_natCast,Array.getElem?_eq_getElem lt]
 refine wpAny_bind ?_;(first | refine wpAny_bind (wpAny_typeNameOfWhole_keyiter hi.typeIs (wpAny_pure (wpAny_bind (wpAny_isOneOf_keyiter hi.typeIs ?_)))) | refine wpAny_bind (wpAny_typeNameOf_keyiter hi.typeIs (wpAny_pure (wpAny_bind (wpAny_isOneOf_keyiter hi.typeIs ?_)))))
 refine (show wpAny _ _ (setField (.ref c) 1 (rawInt ((i:Int) + 1)) >>= _) _ _ s from wpAny_bind (wpAny_setField e dc (by simp) ?_))
 have hi2:(s.heap.update c (Obj.mapFields (·.setIfInBounds 1 (rawInt ((i:Int) + 1))))).IsKeyIter c d (i + 1) es.size ep:=⟨_,Heap.get?_update_self _ e (Obj.isFreed_of_fields (Obj.data_mapFields dc _)),(Obj.cls_mapFields ..).trans cl,by rw [Obj.data_mapFields dc];simp [rawInt]⟩
 refine wpAny_bind (wpAny_holding (wpAny_bind (wpAny_isOneOf_keyiter (s:={ s with heap:=s.heap.update c (Obj.mapFields (·.setIfInBounds 1 (rawInt ((i:Int) + 1)))) }) hi2.typeIs ?_)))
 exact (show wpAny _ _ (pure es[i].key) _ _ _ from wpAny_pure (wpAny_pure ⟨_,rfl,wpAny_pure (q _ hi2 (Heap.SameBut.update ..))⟩))
theorem mO {c d:Addr}{i ep:Nat}{o:Obj}{es:Array DictEntry}{Q:Option Value->Shared->Prop} (hh:A.handled=none) (hi:s.heap.IsKeyIter c d i es.size ep) (ho:s.heap.get? d=some o) (hd:o.data=.dict es ep) (ge:es.size<=i)
  (q:∀G,Heap.ExtBut c s.heap G->Q none { s with heap:=G }):wpAny (model prog w) A (pyNext (.ref c)) Q E s:=by
 obtain⟨oc,e,cl,dc⟩:=id hi
 have own:Builtin.Dict_items.ownsTuple "dict_keyiterator"=false:=by decide
 unfold pyNext
 refine wpAny_bind (wpAny_attempt (wpAny_callSpecial?_slot (name:=Str.ofString "__next__") hi.typeIs F.slot_dict_keyiterator_next (wpAny_call_entry F.slot_dict_keyiterator_next hi.typeIs F.entry_dict_keyiterator_next ?_ (F.args_dict_keyiterator_next_1 _))))
 refine wpAny_bind (wpAny_pure (wpAny_bind (wpAny_bind ?_)))
 (first | refine wpAny_bind (wpAny_typeNameOfWhole_keyiter hi.typeIs (wpAny_pure (wpAny_bind (wpAny_fieldsOf e dc ?_)))) | refine wpAny_bind (wpAny_typeNameOf_keyiter hi.typeIs (wpAny_pure (wpAny_bind (wpAny_fieldsOf e dc ?_)))));simp only [own,Bool.false_eq_true,if_false]
 refine (show wpAny _ _ (if (Value.ref d == Value.none)=true then _ else _) _ _ s from ?_);rw [if_neg (show ¬ ((Value.ref d == Value.none)=true) from Bool.false_ne_true)]
 refine wpAny_bind (wpAny_pure (wpAny_bind (wpAny_dictEntries ho hd ?_)));rw [if_neg (by simp)]
 refine wpAny_bind (wpAny_pure (wpAny_bind (wpAny_dictEpoch ho hd ?_)));rw [if_neg (by simp)]
 refine wpAny_pure ?_;simp only [show ¬ ((i:Int) < 0) from by omega,if_false,Int.toNat_natCast,Array.getElem?_eq_none ge]
 refine wpAny_bind ?_;(first | refine wpAny_bind (wpAny_typeNameOfWhole_keyiter hi.typeIs (wpAny_pure ?_)) | refine wpAny_bind (wpAny_typeNameOf_keyiter hi.typeIs (wpAny_pure ?_)))
 refine (show wpAny _ _ (setField (.ref c) 0 .none >>= _) _ _ s from wpAny_bind (wpAny_setField e dc (by simp) (show wpAny _ _ (newExc (.type "StopIteration") [] >>= _) _ _ _ from wpAny_bind ?_)));simp only [newExc,newTuple]
 refine wpAny_bind (wpAny_newObj_type (wpAny_bind (m:=firstArgMember _ _) (wpAny_of_eq (a:=Value.none) (by first | rfl | (simp only [firstArgMember];rfl)) (wpAny_newObj_type ?_ (by size_fits)))) (by size_fits));simp only [raiseNew]
 refine wpAny_bind (wpAny_handled ?_);rw [show A.in1.handled=none from hh]
 refine wpAny_bind (wpAny_pure (wpAny_throw ?_));refine wpAny_bind (wpAny_isInstance (T:="StopIteration") (b:=true) ⟨_,Heap.get?_push_size _ rfl,rfl⟩ isSubtype_stop (wpAny_pure (q _ (((Heap.SameBut.update ..).extBut.push _).push _))))
theorem lR {d:Addr}{ep:Nat}{o:Obj}{es:Array DictEntry}{Q:Value->Shared->Prop} (nd:(d == sysModules)=false) (ho:s.heap.get? d=some o) (ex:o.ExactDict) (hd:o.data=.dict es ep)
  (q:Q (.ref s.heap.objs.size) { s with heap:=s.heap.push { cls:=.type "dict_keyiterator",data:=.fields #[.ref d,.int 0 0,.int es.size 0,.int ep 0] } }):wpAny (model prog w) A (pyIter (.ref d)) Q E s:=by
 have ty:s.TypeIs (.ref d) "dict":=⟨o,ho,ex.1⟩
 refine wpAny_pyIter_slot ty F.slot_dict_iter (wpAny_call_entry F.slot_dict_iter ty F.entry_dict_iter ?_ (F.args_dict_iter_1 _))
 unfold Builtin.«dict.__iter__»;refine wpAny_bind ?_;unfold Builtin.Dict.dictSlotNone
 refine wpAny_bind (wpAny_notOrdered_dict ty (show wpAny _ _ (pure (Value.ref d)) _ _ s from wpAny_pure (show wpAny _ _ (Builtin.Dict.showsAll d >>= _) _ _ s from ?_)));unfold Builtin.Dict.showsAll;rw [if_neg (by rw [nd];exact Bool.false_ne_true)]
 refine wpAny_bind (wpAny_pure (wpAny_bind (wpAny_dictEntries ho hd (wpAny_bind (wpAny_dictEpoch ho hd (wpAny_bind (wpAny_newObj_type (wpAny_pure ⟨_,rfl,"dict_keyiterator",_,⟨_,Heap.get?_push_size _ rfl,rfl⟩,F.slot_dict_keyiterator_next.lookup,?_⟩))))))))
 simpa [rawInt] using q
end
theorem Inv.freeze {X:Cx}{pins:List (Addr×Obj)}{σ:St}{H:Hp}{s:Shared}{a:Addr}{o:Obj}{kvs:List (List Key×V)} (I:Inv X pins σ H s) (e:H a=some (.dT kvs)) (ho:s.heap.get? a=some o):Inv X pins σ (upd H a (.frz o (.dT kvs))) s:=by
 have ne:∀b u,H b=some u->(∀k,u≠.dT k)->b≠a:=fun b u q n z=>by
  rw [z,e] at q
  cases q
  exact n _ rfl
 have st:∀{b:Addr}{u:HO},aM X.prog X.w H s.heap b u->aM X.prog X.w (upd H a (.frz o (.dT kvs))) s.heap b u:=fun x=>x.stay (fun _ _ _ q=>q) (fun b q=>by rw [aj (ne b _ q (by intro k z;cases z))];exact q) fun b xs q=>by rw [aj (ne b _ q (by intro k z;cases z))];exact q
 refine I.step (h':=s.heap) (g':=s.gens) (t':=s.toks) (d':=s.drawn) (ch:=[]) (fun _ z=>nomatch z) (fun b o _ _ _ q _=>q) (fun b o _ _ _ q _=>⟨o.slots,q⟩) (fun b o' _ q n=>?_) (fun b o _ q=>⟨o,q⟩) (fun b xs q=>?_) (fun b o u q=>?_) (fun b ps q=>?_) (fun m h=>h) (fun b u q=>?_) I.bare
 ·rw [aj (fun z=>by rw [z,e] at n;cases n)];exact n
 ·rw [aj (ne b _ q (by intro k z;cases z))];exact q
 ·rw [aj (ne b _ q (by intro k z;cases z))];exact q
 ·exact⟨#[],by rw [aj (ne b _ q (by intro k z;cases z)),q];simp⟩
 ·by_cases hb:b=a
  ·subst hb
   rw [ag] at q
   cases q
   exact⟨ho,st (I.hok b _ e)⟩
  ·rw [aj hb] at q
   exact st (I.hok b u q)
noncomputable def Itd (a:Addr) (o:Obj):It :=
 ⟨fun i H=>∃kvs,H a=some (.frz o (.dT kvs))/\i < kvs.length,
  fun i H v H'=>H'=H/\∀kvs,H a=some (.frz o (.dT kvs))->∃p b,kvs[i]?=some p/\v=.ref b/\H b=some (.tup (p.1.map kV)),
  fun i H=>∃kvs,H a=some (.frz o (.dT kvs))/\kvs.length<=i⟩
theorem Paired.at {α β:Type}{F:α->β->Prop}:∀{l:List α}{m:List β},Paired F l m->∀{i:Nat}{x:α},l[i]?=some x->∃y,m[i]?=some y/\F x y
 | _,_,.cons r t,0,x,h=>by simp at h;subst h;exact⟨_,rfl,r⟩
 | _,_,.cons r t,i + 1,x,h=>by simpa using Paired.at t (by simpa using h)
theorem qt {P:Program}{w:World}{K:PySem.W.Frag}{tg:Expr} (a it:Addr) (o:Obj) (es:Array DictEntry) (ep:Nat) (hd:o.data=.dict es ep):Turn P w K tg (Itd a o) [it] it (fun i h=>h.IsKeyIter it a i es.size ep) where
 mem:=by simp
 obj:=fun i h st b hb=>by
  have e:b=it:=by simpa using hb
  subst e
  obtain⟨o,e,c,d⟩:=st
  exact⟨o,e,fun v z=>by rw [d] at z;cases z⟩
 keep:=fun i h h' st k=>st.at fun o e=>k it (by simp) o e
 item:=by
  intro X hP hw hK hc i pins s σ H E I hf st hg
  subst hP hw hK
  obtain⟨kvs,ha,lt⟩:=hg
  obtain⟨ho,_,_,xs,rel,o2,es2,ep2,h1,_,h2,h3,_⟩:=(show aM X.prog X.w H s.heap a (.frz o (.dT kvs)) from I.hok a _ ha)
  rw [ho] at h1
  cases h1
  rw [hd] at h2
  cases h2
  have hl:=Paired.length rel
  have hes:es.size=xs.length:=size_of_entries h3
  have lt2:i < es.size:=by omega
  obtain⟨p,hp⟩:∃p,kvs[i]?=some p:=⟨_,List.getElem?_eq_getElem lt⟩
  obtain⟨y,hy,r1,r2,r3⟩:=Paired.at rel hp
  have ek:es[i].key=.ref y.2.1:=by
   have q:=entry_at h3 i
   rw [hy,Array.getElem?_eq_getElem lt2] at q
   simp only [Option.map_some,Option.some.injEq] at q
   rw [q];rfl
  obtain⟨f0,f1,f2,f3,f4,f5⟩:=hf it (by simp)
  refine mq st ho hd lt2 fun h' st' sb=>?_
  rw [ek]
  have I1:Inv X pins σ H { s with heap:=h' }:=I.turned (t':=s.toks) (fun b o hb e=>(sb.2 b hb).trans e) f0 f1 f3 f4 f5
  obtain⟨o',e,c,d⟩:=id st'
  exact⟨_,rfl,ff (s:={ s with heap:=h' }) e c d (by decide) ⟨.ref y.2.1,H,I1,rfl,⟨rfl,fun kvs' ha'=>by rw [ha] at ha';cases ha';exact⟨p,_,hp,rfl,r2⟩⟩,st',fun b hb=>(hf b hb).1⟩⟩
 done:=by
  intro X hP hw hK hc i pins s σ H E I hf st hg
  subst hP hw hK
  obtain⟨kvs,ha,ge⟩:=hg
  obtain⟨ho,_,_,xs,rel,o2,es2,ep2,h1,_,h2,h3,_⟩:=(show aM X.prog X.w H s.heap a (.frz o (.dT kvs)) from I.hok a _ ha)
  rw [ho] at h1
  cases h1
  rw [hd] at h2
  cases h2
  have hl:=Paired.length rel
  have hes:es.size=xs.length:=size_of_entries h3
  obtain⟨f0,f1,f2,f3,f4,f5⟩:=hf it (by simp)
  exact mO (I.ok.hd hc) st ho hd (by omega) fun h' eb=>⟨rfl,I.turned (t':=s.toks) (fun b o hb e=>eb b o hb e) f0 f1 f3 f4 f5⟩
 self:=fun _ _ _ _ _ st h=>wpAny_pyIter_keyiter st h
section
variable {X:Cx}{tg:Expr}
noncomputable def vA (tl:TE):TI:=fun σ H R=>tl σ H fun x H1=>∃a kvs,x=.ref a/\H1 a=some (.dT kvs)/\∀o,R (Itd a o) (upd H1 a (.frz o (.dT kvs)))
theorem iV {l:Expr}{tl:TE} (hl:PE X l tl):PI X tg l (vA tl):=by
 intro pins s σ H R I h
 refine thn (hl pins s σ H _ I h) fun v s1 ⟨x,H1,I1,r1,q1⟩=>?_
 obtain⟨a,kvs,rfl,ha,q⟩:=q1
 cases r1
 obtain⟨_,nd,xs,rel,o,es,ep,ho,ex,hd,h3,_⟩:=(show aM X.prog X.w H1 s1.heap a (.dT kvs) from I1.hok a _ ha)
 refine lR nd ho ex hd ?_
 have I2:=I1.freeze ha ho
 refine⟨s1.heap.objs.size,[s1.heap.objs.size],_,_,_,rfl,I2.kept (t':=s1.toks) fun b o e=>Heap.get?_push_of_some _ e,qt a _ o es ep hd,⟨_,Heap.get?_push_size _ rfl,rfl,rfl⟩,fun b hb=>?_,q o⟩
 have e:b=s1.heap.objs.size:=by simpa using hb
 subst e
 exact I2.fpOk (Nat.le_refl _) (I2.hok.fresh (Nat.le_refl _))
end
noncomputable def jx (H:Hp) (a:Addr) (y v:V) (H':Hp):Prop:=∃kvs k,H a=some (.dK kvs)/\y=kV k/\kvs.length < sizeLine/\H'=upd H a (.dK (putK kvs k v))
theorem pj {X:Cx}{pins:List (Addr×Obj)}{σ:St}{H H':Hp}{s:Shared}{a:Addr}{y v:V}{u r:Value}{A:Around}{E:Value->Shared->Prop}{Q:Unit->Shared->Prop} (I:Inv X pins σ H s) (g:jx H a y v H') (ry:RelV y u) (rv:RelV v r) (h:∀s',Inv X pins σ H' s'->Q () s') :
  wpAny (model X.prog X.w) A (dictSet a u r) Q E s:=by
 obtain⟨kvs,k,e,ey,l,eH⟩:=g
 subst ey eH
 obtain⟨z,hd,vs,rel,dd⟩:=nu I.hok e
 have hl:(putK kvs k v).length<=sizeLine:=by have:=fA kvs k v;omega
 refine wpAny_dictSet_pairs (hsz:=by rw [<- rel.length];exact z) (gP ry) dd fun h' dd' hs=>h _ ?_
 have he:∃q,h'.get? a=some q:=let ⟨q,_,_,hq,_⟩:=dd';⟨q,hq⟩
 exact gA I (by rw [e];exact True.intro) hs he (mY hl hd (rel.put k rv) dd')
noncomputable def jB (D:Addr) (J:It) (g:TG) (tt:TT) (tk tv:TE) (σ':St) (fin:Hp->Prop) (H1:Hp):Prop :=
 ∃W:Nat->Nat->St->Hp->Prop,(∃m,W 0 m σ' H1)/\∀i m σ H,W i m σ H ->
  (J.stop i H/\fin H)\/(J.go i H/\∃Nx:St->Hp->Prop,(∀σ' H',Nx σ' H'->∃m',m' < m/\W (i + 1) m' σ' H') /\
   ∀x H',J.yld i H x H'->g x σ H' fun σ2 H2=>tt σ2 H2 fun b H3=>if b=true then tk σ2 H3 (fun y H4=>tv σ2 H4 fun v H5=>∃H6,jx H5 D y v H6/\Nx σ2 H6) else Nx σ2 H3)
section
variable {X:Cx}{scope:Scope}{N:List Str}{ix:List (Option Nat)}
variable {tg iter kx vx:Expr}{ifs:List Expr}{pos:Pos}{g:TG}{tt:TT}{tk tv:TE}
theorem tV (L:bz X scope N ix) (hc:X.calm=true) (hg:∀C s0 H0 fp,PG (au X scope N C s0 H0 fp) tg g) (ht:∀C s0 H0 fp,PTs (au X scope N C s0 H0 fp) ifs tt) (hk:∀C s0 H0 fp,PE (au X scope N C s0 H0 fp) kx tk) (hv:∀C s0 H0 fp,PE (au X scope N C s0 H0 fp) vx tv)
  {pins:List (Addr×Obj)}{σ:St}{H1:Hp}{s1:Shared}{it:Addr}{fp:List Addr}{tn:Nat->Heap->Prop}{J:It}{fin:Addr->Hp->Prop}{E:Value->Shared->Prop}{RR:Value->Addr->Result->Shared->Prop}
  (I1:Inv X pins σ H1 s1) (T:Turn X.prog X.w X.K tg J fp it tn) (st:tn 0 s1.heap) (f1:∀b∈fp,aY X pins H1 b) (hW:∀D,H1 D=none->jB D J g tt tk tv (emb ix σ) (fin D) (upd H1 D (.dK [])))
  (hRR:∀D C s' m H',s'.heap.Ns C m->s'.os=s1.os->aY X pins H' C->(∀h',Heap.SameBut C s'.heap h'->Inv X pins σ H' { s' with heap:=h' })->fin D H'->RR (.ref D) C (.ok .next) s') :
  wpAny (model X.prog X.w) X.A newDict (fun acc s3=>wpAny (model X.prog X.w) X.A (newFunctionEnv scope X.env.globals (bo X.env scope.names []) [] X.env.qual none .none (some X.env)) (fun cenv s4 =>
   codeAny (model X.prog X.w) X.A (.compStart (.DictComp kx vx [⟨tg,iter,ifs,0⟩] scope pos) 0 (.ref it) acc { cenv with scope:=relabel scope X.env }) (RR acc cenv.locals) s4) E s3) E s1:=by
 have hb1:∀b∈fp,b < s1.heap.objs.size:=fun b hb=>by
  obtain⟨o,e,_⟩:=T.obj _ _ st b hb
  exact Heap.lt_size e
 have hDn:H1 s1.heap.objs.size=none:=I1.hok.fresh (Nat.le_refl _)
 obtain⟨W,⟨m0,w0⟩,turn⟩:=hW s1.heap.objs.size hDn
 refine wpAny_newObj_type (wpAny_newFunctionEnv L.nocell (by intro y hy;simp at hy) (fun h1 hns hsb=>?_) L.kind)
 dsimp only at hns hsb ⊢
 have I2:Inv X pins σ (upd H1 s1.heap.objs.size (.dK [])) { s1 with heap:=s1.heap.push { cls:=.type "dict",data:=.dict #[] },toks:=s1.toks } :=
  I1.laid (t':=s1.toks) (a:=s1.heap.objs.size) (o:=.dK []) (fun _ _ q=>Heap.get?_push_of_some _ q) (Nat.le_refl _) (qJ s1.heap I1.big)
 have f2:∀b∈fp,aY X pins (upd H1 s1.heap.objs.size (.dK [])) b:=fun b hb=>by
  obtain⟨q0,q1⟩:=f1 b hb
  exact⟨by rw [aj (Nat.ne_of_lt (hb1 b hb))];exact q0,q1⟩
 have st2:tn 0 (s1.heap.push { cls:=.type "dict",data:=.dict #[] }):=T.keep _ _ _ st fun b _ o e=>Heap.get?_push_of_some _ e
 generalize hD:s1.heap.objs.size=D at *
 generalize hH2:upd H1 D (.dK [])=H2 at *
 generalize hG:s1.heap.push { cls:=.type "dict",data:=.dict #[] }=G at *
 have hGs:G.objs.size=D + 1:=by rw [<- hG,Heap.size_push,hD]
 generalize hCe:G.objs.size=C at *
 have kp:∀b o,G.get? b=some o->h1.get? b=some o:=fun b o e=>hsb.extBut b o (fun z=>by have:=Heap.lt_size e;rw [hCe] at this;exact absurd (z ▸ this) (Nat.lt_irrefl _)) (Heap.get?_push_of_some _ e)
 have I4:=gO L (tk:=s1.toks + ([]:List (Str×Value)).length) I2 (C:=C) (by show G.objs.size<=C;rw [hCe];exact Nat.le_refl _) f2 (fun b hb=>by show b < G.objs.size;rw [hCe,hGs];exact Nat.lt_succ_of_lt (hb1 b hb)) kp hns
 have st4:tn 0 h1:=T.keep _ _ _ st2 fun b _ o e=>kp b o e
 generalize hs2:({ s1 with heap:=G,toks:=s1.toks }:Shared)=s2 at I2 I4
 have hs2h:s2.heap=G:=by rw [<- hs2]
 have hs2o:s2.os=s1.os:=by rw [<- hs2]
 have stat:∀{H':Hp},(∀b∈fp,H' b=none)->∀b∈fp,aY (au X scope N C s2 H2 fp) [] H' b:=fun {H'} hn b hb=>by
  have hlt:=hb1 b hb
  refine⟨hn b hb,fun z=>?_,fun z=>?_,.inl hb,fun x c e=>(f2 b hb).2.2.2.2.1 x c (cq e),fun p hq z=>?_⟩
  ·exact mn hlt hGs z
  ·exact (List.mem_cons.mp (I2.stkSub b z)).elim (f2 b hb).2.1 (f2 b hb).2.2.1
  ·have hq':p∈([]:List (Addr×Obj)):=by simpa [au] using hq
   cases hq'
 have loop:∀s4:Shared,Inv (au X scope N C s2 H2 fp) [] (emb ix σ) H2 s4->tn 0 s4.heap->codeAny (model X.prog X.w) X.A (.compLoop (.DictComp kx vx [⟨tg,iter,ifs,0⟩] scope pos) 0 (.ref it) (.ref D) (au X scope N C s2 H2 fp).env) (RR (.ref D) C) s4:=by
  intro s4 I4' st4'
  refine md (fun n s'=>∃i σ' H',Inv (au X scope N C s2 H2 fp) [] σ' H' s'/\tn i s'.heap/\(∀b∈fp,H' b=none)/\W i n σ' H') ?_ m0 ⟨0,emb ix σ,H2,I4',st4',fun b hb=>(f2 b hb).1,w0⟩
  rintro n s' ⟨i,σ',H',I',st',fr',w'⟩
  rcases turn i n σ' H' w' with ⟨stop,qf⟩ | ⟨go,Nx,hN,step⟩
  ·refine thn (T.done (au X scope N C s2 H2 fp) rfl rfl rfl hc i _ s' σ' H' _ I' (stat fr') st' stop) fun r s5 ⟨hr,I5⟩=>?_
   subst hr
   obtain⟨m5,hn5,_⟩:=I5.loc
   refine hRR D C s5 m5 H' hn5 (I5.os.trans hs2o) (I2.fpOk (by rw [hs2h,hCe];exact Nat.le_refl _) I5.free) (fun h' hs'=>?_) qf
   exact m4 I2 f2 I5 (by rw [hs2h,hCe];exact Nat.le_refl _) fun b o hb e=>hs'.extBut b o hb e
  ·refine thn (T.item (au X scope N C s2 H2 fp) rfl rfl rfl hc i _ s' σ' H' _ I' (stat fr') st' go) fun r s5 ⟨u,hr,h5⟩=>?_
   subst hr
   refine thn h5 fun _ s6 ⟨x,H6,I6,r6,y6,st6,fr6⟩=>?_
   have I6':=I6.pinned (stat fr6) (T.obj _ _ st6)
   refine thn (hg C s2 H2 fp _ s6 σ' H6 x u _ I6' r6 (step x H6 y6)) fun _ s7 ⟨σ7,H7,I7,q7⟩=>?_
   refine thn (ht C s2 H2 fp _ s7 σ7 H7 _ I7 q7) fun ok s8 ⟨H8,I8,q8⟩=>?_
   have back:∀{H9:Hp}{s9:Shared},Inv (au X scope N C s2 H2 fp) ([]++cg fp s6.heap) σ7 H9 s9->tn (i + 1) s9.heap/\∀b∈fp,H9 b=none:=fun {H9 s9} I9=>by
    refine⟨T.keep _ _ _ st6 fun b hb o e=>(I9.pin (b,o) (List.mem_append_right _ (List.mem_append_right _ (bS hb e)))).1,fun b hb=>?_⟩
    obtain⟨o,e,d⟩:=T.obj _ _ st6 b hb
    exact (I9.pin (b,o) (List.mem_append_right _ (List.mem_append_right _ (bS hb e)))).2.1
   cases ok with
   | false =>
    rw [if_neg Bool.false_ne_true] at q8 ⊢
    obtain⟨m',hm,w8⟩:=hN _ _ q8
    obtain⟨st8,fr8⟩:=back I8
    exact⟨m',hm,i + 1,σ7,H8,I8.unpinned,st8,fr8,w8⟩
   | true =>
    rw [if_pos rfl] at q8 ⊢
    refine thn (hk C s2 H2 fp _ s8 σ7 H8 _ I8 q8) fun yv s9 ⟨y,H9,I9,r9,q9⟩=>?_
    refine thn (hv C s2 H2 fp _ s9 σ7 H9 _ I9 q9) fun xv s10 ⟨v,H10,I10,r10,H11,g11,q11⟩=>?_
    refine pj (X:=au X scope N C s2 H2 fp) I10 g11 r9 r10 fun s11 I11=>?_
    obtain⟨m',hm,w11⟩:=hN _ _ q11
    obtain⟨st11,fr11⟩:=back I11
    exact⟨m',hm,i + 1,σ7,H11,I11.unpinned,st11,fr11,w11⟩
 have q:=loop _ I4 st4
 subst hs2
 exact codeAny_compStart_dict q (T.self _ 0 _ _ _ st4 q)
noncomputable def vS (wi:TI) (g:TG) (tt:TT) (tk tv:TE) (ix:List (Option Nat)):TE:=fun σ H Q=>wi σ H fun J H1=>∀D,H1 D=none->jB D J g tt tk tv (emb ix σ) (fun H'=>Q (.ref D) H') (upd H1 D (.dK []))
theorem uQ {wi:TI} (L:bz X scope N ix) (hc:X.calm=true) (hi:PI X tg iter wi) (hg:∀C s0 H0 fp,PG (au X scope N C s0 H0 fp) tg g)
  (ht:∀C s0 H0 fp,PTs (au X scope N C s0 H0 fp) ifs tt) (hk:∀C s0 H0 fp,PE (au X scope N C s0 H0 fp) kx tk) (hv:∀C s0 H0 fp,PE (au X scope N C s0 H0 fp) vx tv) (hs:∀x,foldedSetIterable iter X.env x=pure x:=by intro _;rfl) :
  PE X (.DictComp kx vx [⟨tg,iter,ifs,0⟩] scope pos) (vS wi g tt tk tv ix):=by
 intro pins s σ H Q I h
 show wpAny _ X.A (comprehension (.DictComp kx vx [⟨tg,iter,ifs,0⟩] scope pos) scope X.env _ newDict false (eval iter X.env)) _ _ s
 refine wpAny_comprehension_free (use:=none) rfl hs (L.clos I.ok) L.kind L.locals (thn (hi pins s σ H _ I h) fun v s1 h1=>thn h1 fun itv s2 h2=>?_)
 obtain⟨it,fp,tn,J,H2,rfl,I2,T,st2,f2,hW⟩:=h2
 refine tV (RR:=fun acc C=>compPost (model X.prog X.w) X.A X.xe none (EP X pins σ Q) acc C) L hc hg ht hk hv I2 T st2 f2 hW ?_
 intro D C s' m H' hn ho hC hI fin
 exact⟨m,hn,fun h' hs'=>⟨.ref D,_,hI h' hs',rfl,fin⟩⟩
end
section
variable {prog:Program}{w:World}{A:Around}{E:Value->Shared->Prop}{s:Shared}
theorem kN {c t:Addr}{i:Nat}{its:Array Value}{v:Value}{Q:Value->Shared->Prop} (hi:s.heap.IsListIter c t i) (ht:s.heap.IsList t its) (hv:its[i]?=some v)
  (k:∀G,G.IsListIter c t (i + 1)->Heap.SameBut c s.heap G->Q v { s with heap:=G }):wpAny (model prog w) A (Builtin.SmallTypes.nextOf (.ref c)) Q E s:=wpAny_nextOf_list_item hi ht hv k
theorem sD {z TI TO i1 i2 l1 l2:Addr}{k:Nat}{xs ys:Array Value}{x y a b:Value}{Q:Option Value->Shared->Prop} (D:ZipApart z TI TO i1 i2 l1 l2) (hz:IsZip s.heap z TI TO .none) (hTI:IsPair s.heap TI (.ref i1) (.ref i2)) (hTO:IsPair s.heap TO a b)
  (h1:s.heap.IsListIter i1 l1 k) (h2:s.heap.IsTupleIter i2 l2 k) (t1:s.heap.IsList l1 xs) (t2:s.heap.IsTuple l2 ys) (hx:xs[k]?=some x) (hy:ys[k]?=some y)
  (q:∀G,IsZip G z TI TO (rawInt s.heap.objs.size)->IsPair G TO x y->G.IsListIter i1 l1 (k + 1)->G.IsTupleIter i2 l2 (k + 1)->IsPair G s.heap.objs.size x y->G.objs.size=s.heap.objs.size + 1 ->
   (∀c o,c≠z->c≠TO->c≠i1->c≠i2->s.heap.get? c=some o->G.get? c=some o)->Q (some (.ref s.heap.objs.size)) { s with heap:=G }):wpAny (model prog w) A (pyNext (.ref z)) Q E s:=by
 have ty:s.TypeIs (.ref z) "zip":=⟨_,hz,rfl⟩
 unfold pyNext
 refine wpAny_bind (wpAny_attempt (wpAny_callSpecial?_slot (name:=Str.ofString "__next__") ty F.slot_zip_next (wpAny_call_entry F.slot_zip_next ty F.entry_zip_next ?_ (F.args_zip_next_1 _))))
 refine (show wpAny _ _ (field (.ref z) 2 >>= _) _ _ _ from wpAny_bind (wpAny_field hz rfl (x:=.bool false) rfl ?_))
 refine (show wpAny _ _ (field (.ref z) 3 >>= _) _ _ _ from wpAny_bind (wpAny_field hz rfl (x:=.ref TI) rfl (wpAny_bind (wpAny_seqItems hTI rfl ?_))))
 refine (show wpAny _ _ (Builtin.SmallTypes.ownedTupleIsFree (.ref z) >>= _) _ _ _ from wpAny_bind ?_);unfold Builtin.SmallTypes.ownedTupleIsFree
 refine wpAny_bind (wpAny_field hz rfl (x:=.none) rfl (wpAny_pure ?_));simp only [if_true]
 refine wpAny_bind (wpAny_rule (wpAny_bind (wpAny_field hz rfl (x:=.ref TO) rfl (wpAny_bind (wpAny_setField_rec hz (by simp) fun g1 z1 s1=>?_)))))
 have z1':IsZip g1 z TI TO .ellipsis:=z1
 refine wpAny_bind ?_;simp only [List.zipIdx_cons,List.zipIdx_nil,List.forIn_cons,List.forIn_nil]
 refine wpAny_bind (wpAny_bind (wpAny_onRaise (show wpAny _ _ (Builtin.SmallTypes.nextOf (.ref i1) >>= _) _ _ _ from wpAny_bind (kN (h1.extBut s1.extBut D.i1z) (t1.at fun o e=>s1.extBut _ o D.l1z e) hx fun g2 j2 s2=>wpAny_pure ?_))))
 have o2:IsPair g2 TO a b:=s2.extBut _ _ D.TOi1 (s1.extBut _ _ D.TOz hTO)
 refine wpAny_bind (wpAny_seqItems o2 rfl (wpAny_bind (wpAny_updateSeq_pair o2 fun g3 o3 s3=>?_)))
 have o3':IsPair g3 TO x b:=o3
 refine wpAny_bind (wpAny_letGo (wpAny_pure (wpAny_bind (wpAny_bind (wpAny_onRaise (show wpAny _ _ (Builtin.SmallTypes.nextOf (.ref i2) >>= _) _ _ _ from wpAny_bind (lP (((h2.extBut s1.extBut D.i2z).extBut s2.extBut D.i12.symm).extBut s3.extBut D.TOi2.symm)
  (((t2.at fun o e=>s1.extBut _ o D.l2z e).at fun o e=>s2.extBut _ o D.l2i1 e).at fun o e=>s3.extBut _ o D.l2TO e) hy fun g4 j4 s4=>wpAny_pure ?_)))))))
 have o4:IsPair g4 TO x b:=s4.extBut _ _ D.TOi2 o3'
 refine wpAny_bind (wpAny_seqItems o4 rfl (wpAny_bind (wpAny_updateSeq_pair o4 fun g5 o5 s5=>?_)))
 have o5':IsPair g5 TO x y:=o5
 refine wpAny_bind (wpAny_letGo (wpAny_pure (wpAny_pure (wpAny_bind (wpAny_seqItems o5' rfl (wpAny_bind (wpAny_newTuple ?_)))))))
 have sz:g5.objs.size=s.heap.objs.size:=by rw [s5.1,s4.1,s3.1,s2.1,s1.1]
 have z5:IsZip g5 z TI TO .ellipsis:=s5.extBut _ _ D.TOz.symm (s4.extBut _ _ D.i2z.symm (s3.extBut _ _ D.TOz.symm (s2.extBut _ _ D.i1z.symm z1')))
 have kp:∀c o,c≠z->c≠TO->c≠i1->c≠i2->s.heap.get? c=some o->g5.get? c=some o:=fun c o n1 n2 n3 n4 e=>s5.extBut _ _ n2 (s4.extBut _ _ n4 (s3.extBut _ _ n2 (s2.extBut _ _ n3 (s1.extBut _ _ n1 e))))
 have j1:g5.IsListIter i1 l1 (k + 1):=((j2.extBut s3.extBut D.TOi1.symm).extBut s4.extBut D.i12).extBut s5.extBut D.TOi1.symm
 have j2':g5.IsTupleIter i2 l2 (k + 1):=j4.extBut s5.extBut D.TOi2.symm
 have lz:z < g5.objs.size:=Heap.lt_size z5
 refine (show wpAny _ _ (Builtin.SmallTypes.ownedTupleHandOut (.ref z) (.ref g5.objs.size) >>= _) _ _ _ from wpAny_bind ?_);unfold Builtin.SmallTypes.ownedTupleHandOut
 have z6:IsZip (g5.push { cls:=.type "tuple",data:=.seq #[x,y] }) z TI TO .ellipsis:=Heap.get?_push_of_some _ z5
 refine wpAny_bind (wpAny_setField_rec z6 (by simp) fun g7 z7 s7=>?_)
 have z7':IsZip g7 z TI TO (rawInt g5.objs.size):=z7
 refine wpAny_setField_rec z7' (by simp) fun g8 z8 s8=>?_
 have z8':IsZip g8 z TI TO (rawInt g5.objs.size):=z8
 have up:∀c o,c≠z->g5.get? c=some o->g8.get? c=some o:=fun c o n e=>s8.extBut _ _ n (s7.extBut _ _ n (Heap.get?_push_of_some _ e))
 have pr:IsPair g8 g5.objs.size x y:=s8.extBut _ _ (Nat.ne_of_gt lz) (s7.extBut _ _ (Nat.ne_of_gt lz) (Heap.get?_push_size _ rfl))
 have sz8:g8.objs.size=g5.objs.size + 1:=by rw [s8.1,s7.1,Heap.size_push]
 rw [sz] at z8' pr sz8
 refine wpAny_pure ⟨_,rfl,wpAny_pure (show Q (some (.ref g5.objs.size)) _ from ?_)⟩
 rw [sz]
 exact q g8 z8' (up _ _ D.TOz o5') (j1.at fun o e=>up _ o D.i1z e) (j2'.at fun o e=>up _ o D.i2z e) pr sz8 fun c o n1 n2 n3 n4 e=>up c o n1 (kp c o n1 n2 n3 n4 e)
theorem uN {z TI TO i1 i2 l1 l2:Addr}{k:Nat}{xs ys:Array Value}{x a b:Value}{Q:Option Value->Shared->Prop} (hh:A.handled=none) (D:ZipApart z TI TO i1 i2 l1 l2) (hz:IsZip s.heap z TI TO .none) (hTI:IsPair s.heap TI (.ref i1) (.ref i2)) (hTO:IsPair s.heap TO a b)
  (h1:s.heap.IsListIter i1 l1 k) (h2:s.heap.IsTupleIter i2 l2 k) (t1:s.heap.IsList l1 xs) (t2:s.heap.IsTuple l2 ys) (hx:xs[k]?=some x) (hy:ys[k]?=none)
  (q:∀G,(∀c o,c≠z->c≠TO->c≠i1->c≠i2->s.heap.get? c=some o->G.get? c=some o)->Q none { s with heap:=G }):wpAny (model prog w) A (pyNext (.ref z)) Q E s:=by
 have ty:s.TypeIs (.ref z) "zip":=⟨_,hz,rfl⟩
 unfold pyNext
 refine wpAny_bind (wpAny_attempt (wpAny_callSpecial?_slot (name:=Str.ofString "__next__") ty F.slot_zip_next (wpAny_call_entry F.slot_zip_next ty F.entry_zip_next ?_ (F.args_zip_next_1 _))))
 refine (show wpAny _ _ (field (.ref z) 2 >>= _) _ _ _ from wpAny_bind (wpAny_field hz rfl (x:=.bool false) rfl ?_))
 refine (show wpAny _ _ (field (.ref z) 3 >>= _) _ _ _ from wpAny_bind (wpAny_field hz rfl (x:=.ref TI) rfl (wpAny_bind (wpAny_seqItems hTI rfl ?_))))
 refine (show wpAny _ _ (Builtin.SmallTypes.ownedTupleIsFree (.ref z) >>= _) _ _ _ from wpAny_bind ?_);unfold Builtin.SmallTypes.ownedTupleIsFree
 refine wpAny_bind (wpAny_field hz rfl (x:=.none) rfl (wpAny_pure ?_));simp only [if_true]
 refine wpAny_bind (wpAny_rule (wpAny_bind (wpAny_field hz rfl (x:=.ref TO) rfl (wpAny_bind (wpAny_setField_rec hz (by simp) fun g1 z1 s1=>?_)))))
 have z1':IsZip g1 z TI TO .ellipsis:=z1
 refine wpAny_bind ?_;simp only [List.zipIdx_cons,List.zipIdx_nil,List.forIn_cons,List.forIn_nil]
 refine wpAny_bind (wpAny_bind (wpAny_onRaise (show wpAny _ _ (Builtin.SmallTypes.nextOf (.ref i1) >>= _) _ _ _ from wpAny_bind (kN (h1.extBut s1.extBut D.i1z) (t1.at fun o e=>s1.extBut _ o D.l1z e) hx fun g2 j2 s2=>wpAny_pure ?_))))
 have o2:IsPair g2 TO a b:=s2.extBut _ _ D.TOi1 (s1.extBut _ _ D.TOz hTO)
 refine wpAny_bind (wpAny_seqItems o2 rfl (wpAny_bind (wpAny_updateSeq_pair o2 fun g3 o3 s3=>?_)))
 have o3':IsPair g3 TO x b:=o3
 refine wpAny_bind (wpAny_letGo (wpAny_pure (wpAny_bind (wpAny_bind (wpAny_onRaise (show wpAny _ _ (Builtin.SmallTypes.nextOf (.ref i2) >>= _) _ _ _ from wpAny_bind (mJ hh (((h2.extBut s1.extBut D.i2z).extBut s2.extBut D.i12.symm).extBut s3.extBut D.TOi2.symm)
  (((t2.at fun o e=>s1.extBut _ o D.l2z e).at fun o e=>s2.extBut _ o D.l2i1 e).at fun o e=>s3.extBut _ o D.l2TO e) hy fun g4 y s4 he=>?_)))))))
 obtain⟨oe,e1,e2⟩:=he
 have z4:IsZip g4 z TI TO .ellipsis:=s4 _ _ D.i2z.symm (s3.extBut _ _ D.TOz.symm (s2.extBut _ _ D.i1z.symm z1'))
 have nz:y≠z:=fun w'=>by subst w';rw [z4] at e1;cases e1;simp at e2
 refine wpAny_setField_rec z4 (by simp) fun g5 _ s5=>?_
 refine wpAny_bind (wpAny_isInstance (T:="StopIteration") (b:=true) ⟨oe,s5.extBut _ _ nz e1,e2⟩ isSubtype_stop (wpAny_pure (q _ fun c o n1 n2 n3 n4 e=>s5.extBut _ _ n1 (s4 _ _ n4 (s3.extBut _ _ n2 (s2.extBut _ _ n3 (s1.extBut _ _ n1 e)))))))
theorem rP (l1 l2:Addr) (xs ys:Array Value) :
  Meets (Builtin.«zip.__new__» ⟨[.type "zip",.ref l1,.ref l2],[]⟩) (fun _ R s=>s.heap.IsList l1 xs/\s.heap.IsTuple l2 ys /\
   ∃G:Heap,G=(((((s.heap.push { cls:=.type "list_iterator",data:=.fields #[.ref l1,.int 0 0] }).push { cls:=.type "tuple_iterator",data:=.fields #[.ref l2,.int 0 0] }).push { cls:=.type "tuple",data:=.seq #[.ref s.heap.objs.size,.ref (s.heap.objs.size + 1)] }).push { cls:=.type "tuple",data:=.seq #[.none,.none] }).push
    { cls:=.type "zip",data:=.fields #[.none,.bool false,.bool false,.ref (s.heap.objs.size + 2),.ref (s.heap.objs.size + 3)] })/\R (.ok (.ret (.ref (s.heap.objs.size + 4)))) { s with heap:=G }) :=
 .of_wp fun prog w A R s h=>by
  obtain⟨hp,g,d,tk,os⟩:=s;obtain⟨a1,a2,G,e,h⟩:=h
  have hsub:=sub_zip
  have b1:Heap.IsList (Shared.heap ⟨hp,g,d,tk,os⟩) l1 xs:=a1
  have b2:Heap.IsTuple (Shared.heap ⟨hp.push { cls:=.type "list_iterator",data:=.fields #[.ref l1,.int 0 0] },g,d,tk,os⟩) l2 ys:=a2.at fun o e=>Heap.get?_push_of_some _ e
  wp_walk using wpAny_pyIter_list b1,wpAny_pyIter_tuple b2
  subst e
  refine⟨_,rfl,?_⟩
  simp only [Heap.size_push]
  exact h
theorem sN {l1 l2:Addr}{xs ys:Array Value}{Q:Value->Shared->Prop} (t1:s.heap.IsList l1 xs) (t2:s.heap.IsTuple l2 ys)
  (q:∀G,IsZip G (s.heap.objs.size + 4) (s.heap.objs.size + 2) (s.heap.objs.size + 3) .none->IsPair G (s.heap.objs.size + 2) (.ref s.heap.objs.size) (.ref (s.heap.objs.size + 1))->IsPair G (s.heap.objs.size + 3) .none .none ->
   G.IsListIter s.heap.objs.size l1 0->G.IsTupleIter (s.heap.objs.size + 1) l2 0->G.objs.size=s.heap.objs.size + 5->(∀c o,s.heap.get? c=some o->G.get? c=some o)->Q (.ref (s.heap.objs.size + 4)) { s with heap:=G }) :
  wpAny (model prog w) A (call (.type "zip") [.ref l1,.ref l2]) Q E s:=by
 refine callType_new F.called_zip (by decide) (F.typeCall_zip_2 _ _) (F.newCall_zip_2 _ _) (fun obj=>F.args_object_init_3 obj _ _) F.entry_zip_new (rP l1 l2 xs ys) ⟨t1,t2,_,rfl,?_⟩
 have at':∀(h:Heap) (o:Obj) (n:Nat),h.objs.size=n->o.isFreed=false->(h.push o).get? n=some o:=fun h o n e f=>by rw [<- e];exact Heap.get?_push_size _ f
 have kp:∀{h:Heap}{o:Obj}{c:Addr}{v:Obj},h.get? c=some v->(h.push o).get? c=some v:=fun e=>Heap.get?_push_of_some _ e
 have g5:=at' ((((s.heap.push { cls:=.type "list_iterator",data:=.fields #[.ref l1,.int 0 0] }).push { cls:=.type "tuple_iterator",data:=.fields #[.ref l2,.int 0 0] }).push { cls:=.type "tuple",data:=.seq #[.ref s.heap.objs.size,.ref (s.heap.objs.size + 1)] }).push { cls:=.type "tuple",data:=.seq #[.none,.none] })
  { cls:=.type "zip",data:=.fields #[.none,.bool false,.bool false,.ref (s.heap.objs.size + 2),.ref (s.heap.objs.size + 3)] } (s.heap.objs.size + 4) (by simp only [Heap.size_push]) rfl
 have g4:=at' (((s.heap.push { cls:=.type "list_iterator",data:=.fields #[.ref l1,.int 0 0] }).push { cls:=.type "tuple_iterator",data:=.fields #[.ref l2,.int 0 0] }).push { cls:=.type "tuple",data:=.seq #[.ref s.heap.objs.size,.ref (s.heap.objs.size + 1)] }) { cls:=.type "tuple",data:=.seq #[.none,.none] } (s.heap.objs.size + 3) (by simp only [Heap.size_push]) rfl
 have g3:=at' ((s.heap.push { cls:=.type "list_iterator",data:=.fields #[.ref l1,.int 0 0] }).push { cls:=.type "tuple_iterator",data:=.fields #[.ref l2,.int 0 0] }) { cls:=.type "tuple",data:=.seq #[.ref s.heap.objs.size,.ref (s.heap.objs.size + 1)] } (s.heap.objs.size + 2) (by simp only [Heap.size_push]) rfl
 have g2:=at' (s.heap.push { cls:=.type "list_iterator",data:=.fields #[.ref l1,.int 0 0] }) { cls:=.type "tuple_iterator",data:=.fields #[.ref l2,.int 0 0] } (s.heap.objs.size + 1) (by simp only [Heap.size_push]) rfl
 have g1:=at' s.heap { cls:=.type "list_iterator",data:=.fields #[.ref l1,.int 0 0] } s.heap.objs.size rfl rfl
 exact⟨⟨_,g5,rfl⟩,q _ g5 (kp (kp g3)) (kp g4) ⟨_,kp (kp (kp (kp g1))),rfl,rfl⟩ ⟨_,kp (kp (kp g2)),rfl,rfl⟩ (by simp only [Heap.size_push]) fun c o e=>kp (kp (kp (kp (kp e))))⟩
end
noncomputable def Itn (K:PySem.W.Frag) (a b:Addr):It :=
 ⟨fun i H=>∃xs ys x y,SqL K H a xs/\SqT K H b ys/\xs[i]?=some x/\ys[i]?=some y,
  fun i H v H'=>∃T x y,v=.ref T/\H T=none/\H'=upd H T (.tup [x,y])/\(∀xs,SqL K H a xs->xs[i]?=some x)/\∀ys,SqT K H b ys->ys[i]?=some y,
  fun i H=>∃xs ys x,SqL K H a xs/\SqT K H b ys/\xs[i]?=some x/\ys.length<=i⟩
noncomputable def wj (z TI TO i1 i2 l1 l2:Addr) (i:Nat) (h:Heap):Prop:=IsZip h z TI TO .none/\IsPair h TI (.ref i1) (.ref i2)/\(∃a b,IsPair h TO a b)/\h.IsListIter i1 l1 i/\h.IsTupleIter i2 l2 i
theorem tI {P:Program}{w:World}{K:PySem.W.Frag}{elts:List Expr}{x1}{pos:Pos} (z TI TO i1 i2 l1 l2:Addr) (D:ZipApart z TI TO i1 i2 l1 l2) :
  Turn P w K (.Tuple elts x1 pos) (Itn K l1 l2) [z,TI,TO,i1,i2] z (wj z TI TO i1 i2 l1 l2) where
 mem:=by simp
 obj:=fun i h st b hb=>by
  obtain⟨hz,hTI,⟨a,c,hTO⟩,⟨o1,e1,c1,d1⟩,⟨o2,e2,c2,d2⟩⟩:=st
  simp only [List.mem_cons,List.not_mem_nil,or_false] at hb
  rcases hb with rfl | rfl | rfl | rfl | rfl
  ·exact⟨_,hz,fun v q=>by cases q⟩
  ·exact⟨_,hTI,fun v q=>by cases q⟩
  ·exact⟨_,hTO,fun v q=>by cases q⟩
  ·exact⟨_,e1,fun v q=>by rw [d1] at q;cases q⟩
  ·exact⟨_,e2,fun v q=>by rw [d2] at q;cases q⟩
 keep:=fun i h h' st k=>by
  obtain⟨hz,hTI,⟨a,c,hTO⟩,h1,h2⟩:=st
  exact⟨k z (by simp) _ hz,k TI (by simp) _ hTI,⟨a,c,k TO (by simp) _ hTO⟩,h1.at fun o e=>k i1 (by simp) o e,h2.at fun o e=>k i2 (by simp) o e⟩
 item:=by
  intro X hP hw hK hc i pins s σ H E I hf st hg
  subst hP hw hK
  obtain⟨xs,ys,x,y,hq1,hq2,hx,hy⟩:=hg
  obtain⟨hz,hTI,⟨a,c,hTO⟩,h1,h2⟩:=id st
  obtain⟨its1,rv1,p1,hz1⟩:=I.list hq1
  obtain⟨its2,rv2,p2,hz2⟩:=I.tuple hq2
  obtain⟨u1,hu1,ru1⟩:=rv1.get hx
  obtain⟨u2,hu2,ru2⟩:=rv2.get hy
  refine sD D hz hTI hTO h1 h2 p1.isList (show s.heap.IsTuple l2 its2.toArray from p2) (x:=u1) (y:=u2) (by simpa using hu1) (by simpa using hu2) fun h' a1 a2 a3 a4 a5 a6 a7=>?_
  refine⟨_,rfl,wpAny_letOwnedTupleGo_zip (s:={ s with heap:=h' }) a1 fun h'' z2 sb=>?_⟩
  have sb':=sb.extBut
  generalize hT:s.heap.objs.size=T at *
  have lt:∀{b:Addr}{o:Obj},s.heap.get? b=some o->b≠T:=fun {b o} e=>by rw [<- hT];exact Nat.ne_of_lt (Heap.lt_size e)
  have fresh:H T=none:=by rw [<- hT];exact I.hok.fresh (Nat.le_refl _)
  have hne:∀b∈[z,TI,TO,i1,i2],b≠T:=fun b hb=>by
   obtain⟨o1,e1,_⟩:=h1
   obtain⟨o2,e2,_⟩:=h2
   simp only [List.mem_cons,List.not_mem_nil,or_false] at hb
   rcases hb with rfl | rfl | rfl | rfl | rfl
   ·exact lt hz
   ·exact lt hTI
   ·exact lt hTO
   ·exact lt e1
   ·exact lt e2
  have I0:Inv X pins σ (upd H T (.tup [x,y])) { s with heap:=s.heap.push { cls:=.type "tuple",data:=.seq #[u1,u2] },toks:=s.toks }:=by
   subst hT
   exact I.laid (t':=s.toks) (fun b o q=>Heap.get?_push_of_some _ q) (Nat.le_refl _) ⟨by show 2<=sizeLine;decide,[u1,u2],.cons ru1 (.cons ru2 .nil),_,Heap.get?_push_size _ rfl,rfl,0,rfl⟩
  have up:∀b o,b∉[z,TI,TO,i1,i2]->(s.heap.push { cls:=.type "tuple",data:=.seq #[u1,u2] }).get? b=some o->h''.get? b=some o:=fun b o hb e=>by
   simp only [List.mem_cons,List.not_mem_nil,or_false,not_or] at hb
   rcases Heap.get?_push_cases e with ⟨e1,e2⟩ | e1
   ·subst e2
    rw [e1,hT]
    exact sb' _ _ (hne z (by simp)).symm a5
   ·exact sb' _ _ hb.1 (a7 b o hb.1 hb.2.2.1 hb.2.2.2.1 hb.2.2.2.2 e1)
  have I2:Inv X pins σ (upd H T (.tup [x,y])) { s with heap:=h'',toks:=s.toks }:=Inv.turnedS (s:={ s with heap:=s.heap.push { cls:=.type "tuple",data:=.seq #[u1,u2] },toks:=s.toks }) (t':=s.toks) (ch:=[z,TI,TO,i1,i2]) I0 up fun b hb=>by
   obtain⟨f0,f1⟩:=hf b hb
   exact⟨by rw [aj (hne b hb)];exact f0,f1⟩
  exact⟨.ref T,upd H T (.tup [x,y]),I2,rfl,⟨T,x,y,rfl,fresh,rfl,fun ws hw=>by rw [I.list_inj hw hq1];exact hx,fun ws hw=>by rw [I.tuple_inj hw hq2];exact hy⟩,
   ⟨z2,sb' _ _ D.TIz (a7 _ _ D.TIz D.TITO D.TIi1 D.TIi2 hTI),⟨_,_,sb' _ _ D.TOz a2⟩,a3.at fun o e=>sb' _ _ D.i1z e,a4.at fun o e=>sb' _ _ D.i2z e⟩,fun b hb=>by rw [aj (hne b hb)];exact (hf b hb).1⟩
 done:=by
  intro X hP hw hK hc i pins s σ H E I hf st hg
  subst hP hw hK
  obtain⟨xs,ys,x,hq1,hq2,hx,hy⟩:=hg
  obtain⟨hz,hTI,⟨a,c,hTO⟩,h1,h2⟩:=id st
  obtain⟨its1,rv1,p1,hz1⟩:=I.list hq1
  obtain⟨its2,rv2,p2,hz2⟩:=I.tuple hq2
  obtain⟨u1,hu1,ru1⟩:=rv1.get hx
  have hl2:=rv2.length
  refine uN (I.ok.hd hc) D hz hTI hTO h1 h2 p1.isList (show s.heap.IsTuple l2 its2.toArray from p2) (x:=u1) (by simpa using hu1) (by simp;omega) fun h' hk=>⟨rfl,I.turnedS (t':=s.toks) (ch:=[z,TI,TO,i1,i2]) (fun b o hb e=>?_) hf⟩
  simp only [List.mem_cons,List.not_mem_nil,or_false,not_or] at hb
  exact hk b o hb.1 hb.2.2.1 hb.2.2.2.1 hb.2.2.2.2 e
 self:=fun _ _ _ _ _ st h=>wpAny_pyIter_zip st.1 h
section
variable {X:Cx}
noncomputable def iZn (K:PySem.W.Frag) (ta:TA):TI:=fun σ H R=>ta σ H fun vs H1=>∃a b xs ys,vs=[.ref a,.ref b]/\SqL K H1 a xs/\SqT K H1 b ys/\R (Itn K a b) H1
theorem vH {a b:Expr}{elts:List Expr}{x1}{tpos:Pos}{ta:TA}{p pos:Pos} (hg:Gl X "zip") (hm:X.mg "zip"=none) (ha:PA X [a,b] ta) (hs:starEach [a,b] X.env=[(false,eval a X.env),(false,eval b X.env)]:=by rfl) (hs2:starEach [b] X.env=[(false,eval b X.env)]:=by rfl) :
  PI X (.Tuple elts x1 tpos) (.Call (.Name "zip" p) [a,b] [] pos) (iZn X.K ta):=by
 intro pins s σ H R I h
 refine Call_ (dB I hg hm boot_zip (PyProof.Rows.callWith_type1 (thn (ha pos pins s σ H _ I h) fun us s1 ⟨vs,H1,I1,r1,q1⟩=>?_) (by rw [hs,hs2]) (by rw [hs2];rfl)))
 obtain⟨a',b',xs,ys,rfl,hq1,hq2,q⟩:=q1
 obtain⟨u1,u2,rfl,ra,rb⟩:=vals2 r1
 cases ra
 cases rb
 obtain⟨its1,rv1,p1,hz1⟩:=I1.list hq1
 obtain⟨its2,rv2,p2,hz2⟩:=I1.tuple hq2
 have l1:a' < s1.heap.objs.size:=by obtain⟨o,n,e,_⟩:=p1;exact Heap.lt_size e
 have l2:b' < s1.heap.objs.size:=by obtain⟨o,e,_⟩:=p2;exact Heap.lt_size e
 refine sN p1.isList (show s1.heap.IsTuple b' its2.toArray from p2) fun h' hz hTI hTO hi1 hi2 hsz hk=>?_
 refine wpAny_pyIter_zip hz ?_
 refine⟨_,[s1.heap.objs.size + 4,s1.heap.objs.size + 2,s1.heap.objs.size + 3,s1.heap.objs.size,s1.heap.objs.size + 1],_,_,H1,rfl,I1.kept (t':=s1.toks) hk,tI _ _ _ _ _ _ _ (zipApart_new l1 l2),⟨hz,hTI,⟨_,_,hTO⟩,hi1,hi2⟩,fun b hb=>?_,q⟩
 have hle:s1.heap.objs.size<=b:=by
  simp only [List.mem_cons,List.not_mem_nil,or_false] at hb
  rcases hb with rfl | rfl | rfl | rfl | rfl
  ·exact Nat.le_add_right _ _
  ·exact Nat.le_add_right _ _
  ·exact Nat.le_add_right _ _
  ·exact Nat.le_refl _
  ·exact Nat.le_add_right _ _
 exact I1.fpOk hle (I1.hok.fresh hle)
end
section
theorem uU {K:PySem.W.Frag}{g:TG}{tt:TT}{te:TE}{σ':St}{fin:List V->Hp->Prop}{H1:Hp}{a b:Addr}{xs ys:List V} (hxy:ys.length < xs.length) (hn:min xs.length ys.length < sizeLine) (Pv:Nat->List V->St->Hp->Prop) (h0:Pv 0 [] σ' H1)
  (hl:∀i zs σ H,i<=min xs.length ys.length->Pv i zs σ H->zs.length<=i/\SqL K H a xs/\SqT K H b ys)
  (hs:∀i x y zs σ H T,xs[i]?=some x->ys[i]?=some y->Pv i zs σ H->H T=none->g (.ref T) σ (upd H T (.tup [x,y])) fun σ2 H2=>tt σ2 H2 fun b H3=>if b=true then te σ2 H3 (fun v H4=>Pv (i + 1) (zs++[v]) σ2 H4) else Pv (i + 1) zs σ2 H3)
  (hd:∀zs σ H,Pv (min xs.length ys.length) zs σ H->fin zs H):LcW (Itn K a b) g tt te σ' fin H1:=by
 refine⟨fun i m zs σ H=>m=min xs.length ys.length - i/\i<=min xs.length ys.length/\Pv i zs σ H,⟨min xs.length ys.length,by simp,Nat.zero_le _,h0⟩,?_⟩
 rintro i m zs σ H ⟨rfl,hi,p⟩
 obtain⟨q0,q1,q2⟩:=hl i zs σ H hi p
 by_cases hlt:i < min xs.length ys.length
 ·have h1:i < xs.length:=by omega
  have h2:i < ys.length:=by omega
  refine .inr ⟨⟨xs,ys,xs[i],ys[i],q1,q2,by simp [h1],by simp [h2]⟩,by omega,fun zs' σ2 H2=>Pv (i + 1) zs' σ2 H2,fun zs' σ2 H2 q=>⟨min xs.length ys.length - (i + 1),by omega,rfl,hlt,q⟩,fun v H' y=>?_⟩
  obtain⟨T,x,y,rfl,hT,rfl,e1,e2⟩:=y
  exact hs i x y zs σ H T (e1 xs q1) (e2 ys q2) p hT
 ·have e:i=min xs.length ys.length:=by omega
  subst e
  have h1:min xs.length ys.length < xs.length:=by omega
  exact .inl ⟨⟨xs,ys,xs[min xs.length ys.length],q1,q2,by simp [h1],by omega⟩,by omega,hd zs σ H p⟩
end
structure M1 (X:Cx) (o:Expr) (m:Str) (apos:Pos) (e:Expr) (cpos:Pos):Prop where
 base:attributeBase o m X.env (eval o X.env)=eval o X.env
 few:((backTo cpos (starEach [e] X.env)).all (fun x=>!x.1) && (backToKw cpos (keywordEach [] X.env)).all (fun x=>x.1.isSome)
  && decide (([e]:List Expr).length + ([]:List Keyword).length + (if ([]:List Keyword).isEmpty then 0 else 1) < 30))=true
 line:(apos.endLine == cpos.line)=true
 trees:backTo cpos (starEach [e] X.env)=[(false,eval e X.env)]
structure M2 (X:Cx) (o:Expr) (m:Str) (apos:Pos) (e f:Expr) (cpos:Pos):Prop where
 base:attributeBase o m X.env (eval o X.env)=eval o X.env
 few:((backTo cpos (starEach [e,f] X.env)).all (fun x=>!x.1) && (backToKw cpos (keywordEach [] X.env)).all (fun x=>x.1.isSome)
  && decide (([e,f]:List Expr).length + ([]:List Keyword).length + (if ([]:List Keyword).isEmpty then 0 else 1) < 30))=true
 line:(apos.endLine == cpos.line)=true
 trees:backTo cpos (starEach [e,f] X.env)=[(false,eval e X.env),(false,eval f X.env)]
section
variable {X:Cx}{pins:List (Addr×Obj)}{σ:St}{H:Hp}{s:Shared}{a:Addr}{y d:V}{u r:Value}{o:Option V}{A:Around}{E:Value->Shared->Prop}
end
section
variable {X:Cx}{o e f:Expr}{apos cpos:Pos}{td ty tx:TE}
end
section
variable {X:Cx}{pins:List (Addr×Obj)}{σ:St}{H:Hp}{s:Shared}{a:Addr}{kvs:List (Key×V)}{A:Around}{E:Value->Shared->Prop}
end
section
variable {X:Cx}{pins:List (Addr×Obj)}{σ:St}{H:Hp}{s:Shared}{a:Addr}{y:V}{u:Value}{A:Around}{E:Value->Shared->Prop}
end
section
variable {X:Cx}
end
section
variable {κ:Type} [DecidableEq κ]
end
end L2
namespace L2
open PySem PySem.Spec PyProof.Rows PySem.W PySem.Calls
section
variable {X:Cx}
end
section
variable {prog:Program}{w:World}{A:Around}{E:Value->Shared->Prop}{s:Shared}
end
section
variable {prog:Program}{w:World}{A:Around}{R:Result->Shared->Prop}{K:Type} [DecidableEq K] {knd:PySem.KeyKind prog w K}
end
section
variable {X:Cx}
end
end L2
namespace L2
open PySem PySem.Spec PyProof.Rows
theorem pU:bootBuiltins "enumerate"=some (.type "enumerate"):=by decide +kernel
section
variable {X:Cx}
end
end L2
namespace L2
open PySem PySem.Spec PyProof.Rows PySem.W PySem.Calls
section
variable {X:Cx}
theorem oC:bC X (.builtin "sorted") (fun xs H Q=>∃(p:Addr) (ss:List Str),xs=[.ref p]/\SqT X.K H p (ss.map V.str)/\ss.length < 64/\∀(ss':List Str) (q:Addr),ss'.Perm ss->sortedS ss'=true->H q=none->Q (.ref q) (upd H q (.lst (ss'.map V.str)))):=by
 intro pins s σ H xs us Q I r h
 obtain⟨p,ss,rfl,hq,h64,q⟩:=h
 obtain⟨u,rfl,rx⟩:=vals1 r
 cases rx
 obtain⟨its,r',⟨o,ho,hc,n,hd⟩,hz⟩:=I.tuple hq
 have hlen:=r'.length
 rw [List.length_map] at hlen
 have hS:=iu r'
 refine Calls.call_function_entry kind_sorted plain_sorted entry_sorted (args_sorted1 _) ?_
 unfold Builtin.«sorted»
 refine wpAny_bind (m:=checkCount "sorted" 1 1 _) (wpAny_pure ?_)
 refine wpAny_bind (jU (.inr rfl) ho hc hd ?_ (by rw [sizeLine_eq];omega))
 refine wpAny_bind (wpAny_newList ?_ (by rw [sizeLine_eq];omega))
 have hsz:((s.heap.push (seqObj "list" #[] 0)).update s.heap.objs.size (Obj.mapSeq (·++its.toArray))).objs.size=s.heap.objs.size + 1:=by
  rw [Heap.size_update,size_push']
 have hoL:(((s.heap.push (seqObj "list" #[] 0)).update s.heap.objs.size (Obj.mapSeq (·++its.toArray))).push (seqObj "list" its.toArray 0)).get? (s.heap.objs.size + 1)=some (seqObj "list" its.toArray 0):=by
  rw [<- hsz];exact Heap.get?_push_size _ rfl
 show wpAny _ _ _ _ _ { s with heap:=((s.heap.push (seqObj "list" #[] 0)).update s.heap.objs.size (Obj.mapSeq (·++its.toArray))).push (seqObj "list" its.toArray 0) }
 rw [hsz]
 refine wpAny_bind (wpAny_holding (wpAny_call_entry slot_list_sort ⟨_,hoL,rfl⟩ entry_list_sort (list_sort_treeK strKind_oneLt hoL hS.keysOf (fun v₁ v₂ rest e=>keyKind_strs (by rw [<- e];exact hS)) (by omega) fun st' a1 a2=>⟨_,rfl,?_⟩) (args_list_sort _)))
 obtain⟨ss',h1,h2,h3⟩:=sorted_out_str hS a1 a2
 refine wpAny_pure ⟨_,rfl,?_⟩
 obtain⟨e,he⟩:=sortedAll_at s.heap its ((arrOf st').map (·.2))
 have hv:av (ss'.map V.str) ((arrOf st').map (·.2)).toList:=iC h1
 have hfr:H (s.heap.objs.size + 1)=none:=I.hok.fresh (Nat.le_succ _)
 refine⟨.ref (s.heap.objs.size + 1),_,I.laid (h':=sortedAll s.heap its ((arrOf st').map (·.2))) (t':=s.toks) (o:=.lst (ss'.map V.str)) (fun b o z=>sortedAll_old z) (Nat.le_succ _) ⟨?_,((arrOf st').map (·.2)).toList,e,hv,?_⟩,rfl,q ss' _ h2 h3 hfr⟩
 ·rw [List.length_map,h2.length_eq,sizeLine_eq];omega
 ·rw [Array.toArray_toList];exact he
end
noncomputable def cS:Value->Str
 | .str x _=>x
 | _=>default
structure bN (w:World) (o:Obj) (ss:List Str) (es:Array (Int×Value)) (ep:Nat) (t:SetTable):Prop where
 cls:o.cls=.type "set"
 dic:o.dict=none
 slo:o.slots=#[]
 dat:o.data=.set es ep t
 els:∀e∈es.toList,∃tk,e.2=.str (cS e.2) tk/\e.1=hashStr w (cS e.2)
 all:(es.toList.map fun e=>cS e.2).Perm ss
 one:ss.Nodup
 few:ss.length < 4000
 fit:t.fits es.size=true
 led:t.led=!w.params.followText "set-order"
 pla:es.size=0\/t.plain=false
theorem bN.size {w:World}{o:Obj}{ss:List Str}{es:Array (Int×Value)}{ep:Nat}{t:SetTable} (x:bN w o ss es ep t):es.size=ss.length:=by
 have:=x.all.length_eq
 rw [List.length_map,Array.length_toList] at this;exact this
theorem bN.elems {P:Program}{w:World}{o:Obj}{ss:List Str}{es:Array (Int×Value)}{ep:Nat}{t:SetTable} (x:bN w o ss es ep t):ElemsOf (PySem.strKind P w) es.toList:=by
 intro e he
 obtain⟨tk,h1,h2⟩:=x.els e he
 refine⟨⟨cS e.2,?_,h2⟩,?_⟩
 ·have z:=PySem.strKind_is P w (cS e.2) tk
  rw [<- h1] at z;exact z
 ·rw [h1];rfl
theorem oq (t:SetTable) (n:Nat):(t.orStandIn n).led=t.led:=by
 unfold SetTable.orStandIn;split <;> rfl
theorem ph (t:SetTable) (es:Array (Int×Value)) (h:Int) (x:Value):(layNew t es h x).2.1.led=t.led:=by
 unfold layNew
 split
 ·exact oq _ _
 ·rfl
theorem oE (t:SetTable) (es:Array (Int×Value)) (n:Nat):(relayAll t es n).2.1.led=t.led/\(t.plain=false->(relayAll t es n).2.1.plain=false):=by
 unfold relayAll
 split
 ·rename_i t' order he
  have hz:t'.led=t.led/\t'.plain=t.plain:=by
   unfold SetTable.relaid SetTable.laid at he
   revert he
   cases SetTable.layClean (SetTable.sizeAbove n - 1) (es.map (·.1)) with
   | none=>intro he;cases he
   | some ow=>intro he;cases he;exact⟨rfl,rfl⟩
  dsimp only
  split
  ·exact⟨hz.1,fun e=>hz.2.trans e⟩
  ·exact⟨rfl,fun _=>rfl⟩
 ·exact⟨rfl,fun _=>rfl⟩
theorem j5 {h:Heap}{a:Addr}{o:Obj}{es es':Array (Int×Value)}{ep:Nat}{t t':SetTable} (ho:h.get? a=some o) (hd:o.data=.set es ep t) :
  (h.update a (Obj.putSet es' t')).get? a=some { o with data:=.set es' (ep + 1) t' }:=by
 have q:=Heap.get?_update_self (Obj.putSet es' t') ho (by rw [putSet_of es' t' hd];rfl)
 rw [putSet_of es' t' hd] at q
 exact q
section
variable {prog:Program}{w:World}{A:Around}{E:Value->Shared->Prop}{s:Shared}
theorem rN {a:Addr}{o:Obj}{ss:List Str}{k:Str}{tk:Tok}{es:Array (Int×Value)}{ep:Nat}{t:SetTable}{R:Option Bool->Shared->Prop}
  (ho:s.heap.get? a=some o) (x:bN w o ss es ep t) (hk:k∉ss) (few:ss.length + 1 < 4000)
  {L:Array (Int×Value)×SetTable×Bool×Bool} (hL:layNew t es (hashStr w k) (.str k tk)=L)
  (h:∀(h':Heap) (o':Obj) es' ep' t',Heap.SameBut a s.heap h'->h'.get? a=some o'->bN w o' (k::ss) es' ep' t'->R (some true) { s with heap:=h' }) (g:Bool->Sem Unit) (hg:∀(b:Bool) (s₁:Shared) (Q':Unit->Shared->Prop),Q' () s₁->wpAny (model prog w) A (g b) Q' E s₁) :
  wpAny (model prog w) A (do
   storeSet a L.1 { L.2.1 with plain:=false }
   if (!L.2.2.1 && ({ L.2.1 with plain:=false }:SetTable).tooFull)=true then do
    g (relayAll { L.2.1 with plain:=false } L.1 (SetTable.grown L.1.size)).2.2
    storeSet a (relayAll { L.2.1 with plain:=false } L.1 (SetTable.grown L.1.size)).1 (relayAll { L.2.1 with plain:=false } L.1 (SetTable.grown L.1.size)).2.1
    pure (some true)
   else pure (some true)) R E s:=by
 have pm:=layNew_perm t es (hashStr w k) (.str k tk)
 have pf:=layNew_fits t es (hashStr w k) (.str k tk)
 have pl:=ph t es (hashStr w k) (.str k tk)
 rw [hL] at pm pf pl
 obtain⟨e1,t1,b1,b2⟩:=L
 dsimp only at pm pf pl ⊢
 rw [Array.toList_push] at pm
 have hsz:=x.size
 have z1:e1.size=ss.length + 1:=by
  have:=pm.length_eq
  rw [List.length_append,Array.length_toList,Array.length_toList] at this
  rw [this,hsz];rfl
 have mk:∀{e2:Array (Int×Value)}{t2:SetTable}{o2:Obj}{ep2:Nat},e2.toList.Perm e1.toList->o2.cls=.type "set"->o2.dict=none->o2.slots=#[]->o2.data=.set e2 ep2 t2->t2.fits e2.size=true->t2.led=t.led->t2.plain=false->bN w o2 (k::ss) e2 ep2 t2:=by
  intro e2 t2 o2 ep2 p1 c1 c2 c3 c4 c5 c6 c7
  have p2:=p1.trans pm
  refine⟨c1,c2,c3,c4,fun e he=>?_,?_,?_,?_,c5,c6.trans x.led,.inr c7⟩
  ·rcases List.mem_append.mp (p2.mem_iff.mp he) with q | q
   ·exact x.els e q
   ·rw [List.mem_singleton.mp q];exact⟨tk,rfl,rfl⟩
  ·refine (p2.map _).trans ?_
   rw [List.map_append]
   exact (List.perm_append_comm).trans (List.Perm.cons k x.all)
  ·exact List.nodup_cons.mpr ⟨hk,x.one⟩
  ·rw [List.length_cons];exact few
 have fz:({ t1 with plain:=false }:SetTable).fits e1.size=true:=SetTable.fits_plain_off pf
 refine wpAny_bind (wpAny_storeSet_of ho x.dat ?_ (by rw [z1,sizeLine_eq];omega))
 have g1:=j5 (es':=e1) (t':={ t1 with plain:=false }) ho x.dat
 have sb:=Heap.SameBut.update s.heap a (Obj.putSet e1 { t1 with plain:=false })
 split
 ·have rp:=relayAll_perm { t1 with plain:=false } e1 (SetTable.grown e1.size)
  have rf:=relayAll_fits { t1 with plain:=false } e1 (SetTable.grown e1.size)
  have rl:=oE { t1 with plain:=false } e1 (SetTable.grown e1.size)
  generalize relayAll { t1 with plain:=false } e1 (SetTable.grown e1.size)=R2 at rp rf rl ⊢
  have z2:R2.1.size=ss.length + 1:=by
   have:=rp.length_eq
   rw [Array.length_toList,Array.length_toList] at this
   rw [this,z1]
  refine wpAny_bind (hg _ _ _ ?_)
  refine wpAny_bind (wpAny_storeSet_of g1 rfl ?_ (by rw [z2,sizeLine_eq];omega))
  have g2:=j5 (es':=R2.1) (t':=R2.2.1) g1 rfl
  exact wpAny_pure (h _ _ R2.1 _ R2.2.1 (sb.trans (Heap.SameBut.update _ a _)) g2 (mk rp x.cls x.dic x.slo rfl rf (rl.1.trans pl) (rl.2 rfl)))
 ·exact wpAny_pure (h _ _ e1 _ _ sb g1 (mk (List.Perm.refl _) x.cls x.dic x.slo rfl fz pl rfl))
end
noncomputable def br:List Str->List Str
 | []=>[]
 | k::r=>if k∈br r then br r else k::br r
theorem rq (l:List Str):(br l).length<=l.length:=by
 induction l with
 | nil=>exact Nat.le_refl _
 | cons a r ih =>
  unfold br
  split
  ·rw [List.length_cons];omega
  ·rw [List.length_cons,List.length_cons];omega
theorem pW {l:List Str} (h:l.Nodup):br l=l:=by
 induction l with
 | nil=>rfl
 | cons a r ih =>
  obtain⟨h1,h2⟩:=List.nodup_cons.mp h
  unfold br
  rw [ih h2,if_neg h1]
section
variable {prog:Program}{w:World}{A:Around}{E:Value->Shared->Prop}{s:Shared}
theorem qF {a:Addr}{o:Obj}{l:List Str}{k:Str}{tk:Tok}{es:Array (Int×Value)}{ep:Nat}{t:SetTable}{Q:Bool->Shared->Prop}
  (ho:s.heap.get? a=some o) (x:bN w o (br l) es ep t) (few:l.length + 1 < 4000)
  (h:∀(b:Bool) (h':Heap) (o':Obj) es' ep' t',Heap.SameBut a s.heap h'->h'.get? a=some o'->bN w o' (br (k::l)) es' ep' t'->Q b { s with heap:=h' }) :
  wpAny (model prog w) A (setAddHashed a (.str k tk) (hashStr w k)) Q E s:=by
 have hl:=rq l
 have hsz:=x.size
 have hel:=x.elems (P:=prog)
 have hkey:=PySem.strKind_is prog w k tk
 unfold setAddHashed setAddHashedIn
 refine wpAny_holding (wpAny_bind (wpAny_setState_of ho x.dat x.fit ?_))
 dsimp only
 rw [byScan_of (knd:=PySem.strKind prog w) rfl (by rw [hsz];have:scanBound=4096:=rfl;omega) hel]
 rw [if_pos rfl]
 unfold setAddByScan
 refine wpAny_bind (wpAny_bind (wpAny_rule ?_))
 refine wpAny_bind (wpAny_setScan_of (knd:=PySem.strKind prog w) (k:=k) hkey ho x.dat x.fit hel ?_)
 have mem:∀e∈es.toList,(PySem.strKind prog w).is k e.2=true ↔ cS e.2=k:=by
  intro e he
  obtain⟨t',h1,_⟩:=x.els e he
  rw [h1]
  show Value.isStrOf k (.str (cS e.2) t')=true ↔ cS (.str (cS e.2) t')=k
  simp [Value.isStrOf,cS]
 cases hf:List.findIdx? (fun e=>(PySem.strKind prog w).is k e.2) es.toList with
 | some j =>
  dsimp only
  obtain⟨hj,hp,_⟩:=List.findIdx?_eq_some_iff_getElem.mp hf
  have hin:k∈br l:=x.all.mem_iff.mp (List.mem_map.mpr ⟨_,List.getElem_mem hj,(mem _ (List.getElem_mem hj)).mp hp⟩)
  refine wpAny_pure (wpAny_pure ?_)
  have e2:br (k::l)=br l:=by show (if k∈br l then _ else _)=_;rw [if_pos hin]
  exact h false s.heap o es ep t (Heap.SameBut.refl a s.heap) ho (by rw [e2];exact x)
 | none =>
  dsimp only
  have hin:k∉br l:=by
   intro hk
   obtain⟨e,he,ee⟩:=List.mem_map.mp (x.all.mem_iff.mpr hk)
   have:=List.findIdx?_eq_none_iff.mp hf e he
   rw [(mem e he).mpr ee] at this;cases this
  have e2:br (k::l)=k::br l:=by show (if k∈br l then _ else _)=_;rw [if_neg hin]
  have fin:∀(h':Heap) (o':Obj) es' ep' t',Heap.SameBut a s.heap h'->h'.get? a=some o'->bN w o' (k::br l) es' ep' t'->Q true { s with heap:=h' }:=fun h' o' es' ep' t' c1 c2 c3=>h true h' o' es' ep' t' c1 c2 (by rw [e2];exact c3)
  have hgw:∀(b:Bool) (s₁:Shared) (Q':Unit->Shared->Prop),Q' () s₁->wpAny (model prog w) A (match b with | true=>rule "set.scan.the-table-gave-way" | false=>pure ()) Q' E s₁:=fun b s₁ Q' q=>by
   cases b
   ·exact wpAny_pure q
   ·exact wpAny_rule q
  generalize hL:layNew t es (hashStr w k) (.str k tk)=L
  obtain⟨e1,t1,b1,b2⟩:=L
  dsimp only
  refine wpAny_bind (hgw _ _ _ ?_)
  have tail:=fun (g:Bool->Sem Unit) hg=>rN (A:=A) (E:=E) (prog:=prog) (R:=fun r s'=>wpAny (model prog w) A (match r with | some added=>pure added | none=>setAddHashedIn a (.str k tk) (hashStr w k) 99999) Q E s') ho x hin (by omega) hL (fun h' o' es' ep' t' c1 c2 c3=>wpAny_pure (fin h' o' es' ep' t' c1 c2 c3)) g hg
  dsimp only at tail
  split
  ·refine wpAny_bind ?_
   rw [hashByValue_scannable 8 rfl]
   refine wpAny_pure ?_
   exact tail _ hgw
  ·rename_i hpl
   refine wpAny_bind (wpAny_pure ?_)
   have hp:t1.plain=false:=by cases q:t1.plain with | false=>rfl | true=>exact absurd q hpl
   have et:t1={ t1 with plain:=false }:=by cases t1;cases hp;rfl
   rw [if_pos rfl]
   rw [et]
   exact tail _ hgw
end
section
variable {prog:Program}{w:World}{A:Around}{E:Value->Shared->Prop}{s:Shared}
theorem pN {I S:Addr}{fp:List Addr}{its:List Value}{ss:List Str}{St:Nat->Heap->Prop}{R:Result->Shared->Prop}{m:Nat} (hm:m=its.length)
  (W:Walks prog w A.in1 I fp [I] m (fun i v=>its[i]?=some v) St) (hS:S∉fp) (hv:av (ss.map V.str) its) (few:ss.length + 1 < 4000) :
  ∀(k i:Nat) (s:Shared) (o:Obj) (es:Array (Int×Value)) (ep:Nat) (t:SetTable),its.length - i=k->i<=its.length->St i s.heap->s.heap.get? S=some o->bN w o (br (ss.take i).reverse) es ep t ->
   (∀(h':Heap) (tk:Nat) (o':Obj) es' ep' t',(∀b ob,b≠S->b≠I->s.heap.get? b=some ob->h'.get? b=some ob)->h'.get? S=some o'->bN w o' (br ss.reverse) es' ep' t'->R (.ok (.ret .none)) { s with heap:=h',toks:=tk }) ->
   codeAny (model prog w) A (.builtin "set.update.loop" ⟨[.ref S,.ref I],[]⟩) R s:=by
 have hlen:ss.length=its.length:=by have:=hv.length;rwa [List.length_map] at this
 subst hm
 have hIS:S≠I:=fun e=>hS (by rw [e];exact W.sub I (List.mem_singleton.mpr rfl))
 intro k
 induction k with
 | zero =>
  intro i s o es ep t hk hi st ho x q
  have e:i=its.length:=by omega
  subst e
  refine codeAny_builtin F.entry_set_update_loop ?_
  rw [Around.under_plainId F.plain_set_update_loop _]
  show wpAny _ A.in1 (pyNext (.ref I) >>= _) _ _ s
  refine wpAny_bind (W.done s _ _ st fun h' tk kp=>?_)
  show wpAny _ A.in1 (ret Value.none) _ _ _
  rw [<- hlen,List.take_length] at x
  exact wpAny_pure (q h' tk o es ep t (fun b ob _ hb e=>kp b ob (by simpa using hb) e) (kp S o (by simpa using hIS) ho) x)
 | succ k ih =>
  intro i s o es ep t hk hi st ho x q
  have hlt:i < its.length:=by omega
  have hls:i < ss.length:=by omega
  refine codeAny_builtin F.entry_set_update_loop ?_
  rw [Around.under_plainId F.plain_set_update_loop _]
  show wpAny _ A.in1 (pyNext (.ref I) >>= _) _ _ s
  refine wpAny_bind (W.item i s _ _ hlt st fun v h1 tk1 hP st1 kp=>?_)
  obtain⟨u,hu,ru⟩:=hv.get (i:=i) (x:=.str ss[i]) (by rw [List.getElem?_map,List.getElem?_eq_getElem hls];rfl)
  have ev:v=u:=by rw [hP] at hu;cases hu;rfl
  subst ev
  obtain⟨tv,rfl⟩:=ru
  have ho1:h1.get? S=some o:=kp S o (by simpa using hIS) ho
  show wpAny _ A.in1 (holding [Value.str ss[i] tv] (setAdd S (.str ss[i] tv)) >>= _) _ _ _
  refine wpAny_bind (wpAny_holding ?_)
  unfold setAdd
  refine wpAny_holding ?_
  refine wpAny_bind ((PySem.strKind prog w).pyHash (k:=ss[i]) (PySem.strKind_is prog w _ _) ?_)
  have htl:(ss.take i).reverse.length + 1 < 4000:=by rw [List.length_reverse,List.length_take];omega
  refine qF (s:={ s with heap:=h1,toks:=tk1 + 1 }) ho1 x htl fun b h2 o2 es2 ep2 t2 sb ho2 x2=>?_
  have e3:ss[i]::(ss.take i).reverse=(ss.take (i + 1)).reverse:=by
   rw [List.take_add_one,List.getElem?_eq_getElem hls,List.reverse_append];rfl
  rw [e3] at x2
  refine wpAny_pure ⟨plainId_quiet F.plain_set_update_loop _,ih (i + 1) _ o2 es2 ep2 t2 (by omega) hlt (W.frame _ h1 _ st1 fun b hb ob e=>?_) ho2 x2 fun h' tk o' es' ep' t' kp' c1 c2=>?_⟩
  ·rw [sb.2 b (fun z=>hS (by rw [<- z];exact hb))];exact e
  ·refine q h' tk o' es' ep' t' (fun b ob b1 b2 e=>kp' b ob b1 b2 ?_) c1 c2
   show h2.get? b=some ob
   rw [sb.2 b b1]
   exact kp b ob (by simpa using b2) e
theorem rD (a:Value) {Q₁:Value->Shared->Prop}
  (h:Q₁ (.ref s.heap.objs.size) { s with heap:=s.heap.push { cls:=.type "set",dict:=none,data:=.set #[] 0 (.fresh 0 0 (!w.params.followText "set-order")) } }) :
  codeAny (model prog w) A (.call (.builtin "set.__new__") ⟨[.type "set",a],[]⟩) (wants Q₁ E) s:=by
 refine codeAny_of_tree ?_
 show wpAny _ A.in1 (checkBuiltinCall "set.__new__" ⟨[.type "set",a],[]⟩ >>= fun _=>again (.builtin "set.__new__" ⟨[.type "set",a],[]⟩)) _ _ s
 refine wpAny_bind (wpAny_of_eq (PySem.F.newCall_set_1 a) (wpAny_pure ⟨plainId_quiet PySem.F.plain_set_new _,codeAny_builtin PySem.F.entry_set_new ?_⟩))
 rw [Around.under_plainId PySem.F.plain_set_new _]
 unfold Builtin.«set.__new__» Builtin.Frozenset.newClass
 have known:=sub_set_self
 obtain⟨h0,g0,d0,tk0,os0⟩:=s
 dsimp only
 wp_walk
 refine wpAny_askSetting (wpAny_pure ?_)
 dsimp only
 simp only [newObj]
 exact wpAny_bind (wpAny_alloc (wpAny_pure (wpAny_pure h)))
theorem oP (w:World):bN w { cls:=.type "set",dict:=none,data:=.set #[] 0 (.fresh 0 0 (!w.params.followText "set-order")) } [] #[] 0 (.fresh 0 0 (!w.params.followText "set-order")) :=
 ⟨rfl,rfl,rfl,rfl,fun e he=>(by cases he),List.Perm.nil,List.nodup_nil,(by decide),rfl,rfl,.inl rfl⟩
end
end L2
set_option maxHeartbeats 8000000
namespace L2
open PySem PySem.Spec PyProof.Rows PySem.W PySem.Calls
section
variable {prog:Program}{w:World}{A:Around}{E:Value->Shared->Prop}{s:Shared}
theorem sub_list_set:isSubtype (.type "list") (.type "set")=pure false:=by rw [isSubtype_type];kernel_rfl
theorem oA:isSubtype (.type "list") (.type "frozenset")=pure false:=by rw [isSubtype_type];kernel_rfl
theorem ox {l:Addr}{its:List Value}{ss:List Str}{Q:Value->Shared->Prop}
  (hh:A.handled=none) (hl:s.heap.IsList l its.toArray) (hv:av (ss.map V.str) its) (few:ss.length + 1 < 4000)
  (h:∀(h':Heap) (tk:Nat) (o':Obj) es' ep' t',(∀b ob,s.heap.get? b=some ob->h'.get? b=some ob)->h'.get? s.heap.objs.size=some o'->bN w o' (br ss.reverse) es' ep' t'->Q (.ref s.heap.objs.size) { s with heap:=h',toks:=tk }) :
  wpAny (model prog w) A (call (.type "set") [.ref l]) Q E s:=by
 obtain⟨mro0,mrot,hmro⟩:=PySem.F.called_set.mro
 have made:=PySem.F.called_set.made
 have subs:=PySem.F.called_set.sub
 have nt:=PySem.F.called_set.notType
 have cc:=PySem.F.called_set.canCreate
 have ct:=PySem.F.typeCall_set_1 (.ref l)
 refine wpAny_call (codeAny_of_tree ?_)
 show wpAny _ _ (callAny (.type "set") _) _ _ _
 refine wpAny_pure ⟨Code.quiet_builtin _ (by decide +kernel),codeAny_builtin PySem.F.entry_type_call ?_⟩
 rw [Around.under_plain (weight_type_call_type "set" [.ref l] []) rfl]
 repeat (any_goals (first | assumption | wp_step))
 refine codeAny_mono (rD (.ref l) (E:=E) (Q₁:=fun obj s₁=>obj=.ref s.heap.objs.size/\s₁={ s with heap:=s.heap.push { cls:=.type "set",dict:=none,data:=.set #[] 0 (.fresh 0 0 (!w.params.followText "set-order")) } }) ⟨rfl,rfl⟩) fun r s₁ hr=>?_
 generalize hbt:(!w.params.followText "set-order")=bt at hr
 cases r with
 | error e=>exact hr
 | ok fl =>
  cases fl with
  | ret obj =>
   obtain⟨rfl,rfl⟩:=hr
   have g0:(s.heap.push { cls:=.type "set",dict:=none,data:=.set #[] 0 (.fresh 0 0 bt) }).get? s.heap.objs.size=some { cls:=.type "set",dict:=none,data:=.set #[] 0 (.fresh 0 0 bt) }:=Heap.get?_push_size _ rfl
   have ty:Shared.TypeIs { s with heap:=s.heap.push { cls:=.type "set",dict:=none,data:=.set #[] 0 (.fresh 0 0 bt) } } (.ref s.heap.objs.size) "set":=⟨_,g0,rfl⟩
   have ini:=PySem.F.called_set.init.lookup
   have inb:=PySem.F.called_set.init.bind (.ref s.heap.objs.size)
   repeat (any_goals (first | assumption | wp_step))
   refine codeAny_mono (codeAny_call_builtin (R:=wants (fun r s₂=>r=.none/\∃h' tk o' es' ep' t',s₂={ s with heap:=h',toks:=tk }/\(∀b ob,s.heap.get? b=some ob->h'.get? b=some ob)/\h'.get? s.heap.objs.size=some o'/\bN w o' (br ss.reverse) es' ep' t') E)
    PySem.F.called_set.init.plain PySem.F.entry_set_init (check_set_init_1 ty ?_)) fun r₂ s₂ hr₂=>?_
   ·obtain⟨ol,hol,cl,nl,dl⟩:=hl
    obtain⟨c1,c2,c3,c4⟩:=ol
    simp only at cl dl
    subst cl;subst dl
    have hol1:(s.heap.push { cls:=.type "set",dict:=none,data:=.set #[] 0 (.fresh 0 0 bt) }).get? l=some { cls:=.type "list",dict:=c2,data:=.seq its.toArray nl,slots:=c4 }:=Heap.get?_push_of_some _ hol
    have n1:=sub_list_set
    have n2:=oA
    have n3:(Value.type "list" == Value.type "dict")=false:=by decide
    have hl1:(s.heap.push { cls:=.type "set",dict:=none,data:=.set #[] 0 (.fresh 0 0 bt) }).IsList l its.toArray:=⟨_,hol1,rfl,nl,rfl⟩
    unfold Builtin.«set.__init__» noKeywords Builtin.Frozenset.updateFrom
    generalize hpi:pyIter=pit
    wp_walk
    subst hpi
    refine wpAny_pyIter_list hl1 ?_
    refine wpAny_bind (wpAny_runValue ?_)
    have lt0:l < s.heap.objs.size:=Heap.lt_size hol
    have h3:A.in1.in1.in1.handled=none:=by simp [hh]
    have ne1:l≠(s.heap.push { cls:=.type "set",dict:=none,data:=.set #[] 0 (.fresh 0 0 bt) }).objs.size:=by
     rw [Heap.size_push];exact Nat.ne_of_lt (Nat.lt_succ_of_lt lt0)
    have out:s.heap.objs.size∉[(s.heap.push { cls:=.type "set",dict:=none,data:=.set #[] 0 (.fresh 0 0 bt) }).objs.size,l]:=by
     rw [Heap.size_push]
     intro z
     rcases List.mem_cons.mp z with z | z
     ·exact absurd z (Nat.ne_of_lt (Nat.lt_succ_self _))
     ·exact absurd (List.mem_singleton.mp z) (Nat.ne_of_gt lt0)
    have W:=Walks.list (prog:=prog) (w:=w) h3 (s.heap.push { cls:=.type "set",dict:=none,data:=.set #[] 0 (.fresh 0 0 bt) }).objs.size l ne1 its.toArray
    have hW:(fun (i:Nat) (v:Value)=>its.toArray[i]?=some v)=fun i v=>its[i]?=some v:=by funext i v;rw [List.getElem?_toArray]
    rw [hW] at W
    have g1:((s.heap.push { cls:=.type "set",dict:=none,data:=.set #[] 0 (.fresh 0 0 bt) }).push { cls:=.type "list_iterator",data:=.fields #[.ref l,.int 0 0] }).get? s.heap.objs.size=some { cls:=.type "set",dict:=none,data:=.set #[] 0 (.fresh 0 0 bt) }:=Heap.get?_push_of_some _ g0
    refine pN (List.size_toArray) W out hv few (its.length - 0) 0 _ _ #[] 0 (.fresh 0 0 bt) rfl (Nat.zero_le _)
     ⟨⟨_,Heap.get?_push_size _ rfl,rfl,rfl⟩,hl1.push _⟩ g1 (by subst hbt;exact oP w) fun h' tk o' es' ep' t' kp c1 c2=>?_
    show wpAny _ _ _ _ _ _
    refine wpAny_pure ?_
    show wpAny _ _ (ret Value.none) _ _ _
    refine wpAny_pure ⟨rfl,h',tk,o',es',ep',t',rfl,fun b ob e=>kp b ob (Nat.ne_of_lt (Heap.lt_size e)) ?_ (Heap.get?_push_of_some _ (Heap.get?_push_of_some _ e)),c1,c2⟩
    rw [Heap.size_push];exact Nat.ne_of_lt (Nat.lt_succ_of_lt (Heap.lt_size e))
   ·cases r₂ with
    | error e=>exact hr₂
    | ok fl₂ =>
     cases fl₂ with
     | ret r =>
      obtain⟨rfl,h',tk,o',es',ep',t',rfl,kp,c1,c2⟩:=hr₂
      repeat (any_goals (first | assumption | wp_step))
      exact h h' tk o' es' ep' t' kp c1 c2
     | _=>exact hr₂.elim
  | _=>exact hr.elim
end
noncomputable def vV (first:Value) (i:Nat) (a:Addr) (n ep:Nat):Array Value:=#[first,rawInt (i:Int),.ref a,rawInt (n:Int),rawInt (ep:Int)]
noncomputable def xa (h:Heap) (I:Addr) (first:Value) (i:Nat) (a:Addr) (n ep:Nat):Prop:=∃o,h.get? I=some o/\o.cls=.type "set_iterator"/\o.data=.fields (vV first i a n ep)
section
variable {prog:Program}{w:World}{A:Around}{E:Value->Shared->Prop}{s:Shared}
end
section
variable {prog:Program}{w:World}{A:Around}{E:Value->Shared->Prop}{s:Shared}
end
section
variable {prog:Program}{w:World}{A:Around}{E:Value->Shared->Prop}{s:Shared}
structure wR (prog:Program) (w:World) (A:Around) (s s₁:Shared) (a I:Addr) (ss:List Str) (fp:List Addr) (ws:List Value) (St:Nat->Heap->Prop):Prop where
 os:s₁.os=s.os
 gens:s₁.gens=s.gens
 toks:s₁.toks=s.toks
 keep:∀b o,s.heap.get? b=some o->s₁.heap.get? b=some o
 new:∀b∈fp,b=a\/s.heap.objs.size<=b
 newI:s.heap.objs.size<=I
 wk:Walks prog w A I fp [I] ss.length (fun i v=>ws[i]?=some v) St
 st:St 0 s₁.heap
 txt:∃ss',StrsAre ws ss'/\ss'.Perm ss
end
section
variable {prog:Program}{w:World}{A:Around}{E:Value->Shared->Prop}{s:Shared}
end
section
variable {prog:Program}{w:World}{A:Around}{E:Value->Shared->Prop}{s:Shared}
end
section
variable {prog:Program}{w:World}{A:Around}{E:Value->Shared->Prop}{s:Shared}
end
noncomputable def eF (w:World) (a:Addr) (ss:List Str):HO:=.ext fun h=>∃o es ep t,h.get? a=some o/\bN w o ss es ep t
section
variable {X:Cx}
theorem sj {P:Program}{w:World}{H:Hp}{h:Heap}{a:Addr}{ss:List Str}{o:Obj}{es:Array (Int×Value)}{ep:Nat}{t:SetTable} (ho:h.get? a=some o) (x:bN w o ss es ep t):aM P w H h a (eF w a ss) :=
 ⟨⟨o,es,ep,t,ho,x⟩,⟨o,ho⟩,fun h1 h2 ⟨o,es,ep,t,q,y⟩ k=>⟨o,es,ep,t,k o q,y⟩⟩
theorem pD (hc:X.calm=true):bC X (.type "set") (fun xs H Q=>∃(p:Addr) (ss:List Str),xs=[.ref p]/\SqL X.K H p (ss.map V.str)/\ss.length < 3000 /\
  ∀(a:Addr),H a=none->Q (.ref a) (upd H a (eF X.w a (br ss.reverse)))):=by
 intro pins s σ H xs us Q I r h
 obtain⟨p,ss,rfl,hq,h3,q⟩:=h
 obtain⟨u,rfl,rx⟩:=vals1 r
 cases rx
 obtain⟨its,r',hp,hz⟩:=I.list hq
 refine ox (I.ok.hd hc) hp.isList r' (by omega) fun h' tk o' es' ep' t' kp ho x=>?_
 exact⟨.ref s.heap.objs.size,_,I.laid (h':=h') (t':=tk) (o:=eF X.w s.heap.objs.size (br ss.reverse)) kp (Nat.le_refl _) (sj ho x),rfl,q _ (I.hok.fresh (Nat.le_refl _))⟩
theorem qa:bC X (.builtin "len") (fun xs H Q=>∃(a:Addr) (ss:List Str),xs=[.ref a]/\H a=some (eF X.w a ss)/\Q (.int ss.length) H):=by
 intro pins s σ H xs us Q I r h
 obtain⟨a,ss,rfl,ha,q⟩:=h
 obtain⟨u,rfl,rx⟩:=vals1 r
 cases rx
 obtain⟨⟨o,es,ep,t,ho,x⟩,_,_⟩:=I.hok a _ ha
 have hf:=x.few
 have hz:=x.size
 refine call_len_set ho ⟨x.cls,x.dic,x.slo⟩ x.dat x.fit (by omega) ?_
 rw [hz]
 exact⟨.int ss.length,H,I.tok _,⟨_,rfl⟩,q⟩
end
theorem pairs_at {P:Program}{w:World}:∀{es:List DictEntry}{kvs:List (Key×Value)},Pairs (b5 P w) es kvs->∀{i:Nat}{p:Key×Value},kvs[i]?=some p->∃e,es[i]?=some e/\dF p.1 e.key=true
 | _,_,.cons h1 h2 t,0,p,h=>by
  simp at h
  subst h
  exact⟨_,rfl,h1⟩
 | _,_,.cons h1 h2 t,i + 1,p,h=>by simpa using pairs_at t (by simpa using h)
theorem vf {k:Key}{v:Value} (h:dF k v=true):RelV (kV k) v:=by
 rcases cO h with ⟨i,t,rfl,rfl⟩ | ⟨x,t,rfl,rfl⟩
 ·exact⟨t,rfl⟩
 ·exact⟨t,rfl⟩
theorem Inv.freezeK {X:Cx}{pins:List (Addr×Obj)}{σ:St}{H:Hp}{s:Shared}{a:Addr}{o:Obj}{kvs:List (Key×V)} (I:Inv X pins σ H s) (e:H a=some (.dK kvs)) (ho:s.heap.get? a=some o):Inv X pins σ (upd H a (.frz o (.dK kvs))) s:=by
 have ne:∀b u,H b=some u->(∀k,u≠.dK k)->b≠a:=fun b u q n z=>by
  rw [z,e] at q
  cases q
  exact n _ rfl
 have st:∀{b:Addr}{u:HO},aM X.prog X.w H s.heap b u->aM X.prog X.w (upd H a (.frz o (.dK kvs))) s.heap b u:=fun x=>x.stay (fun _ _ _ q=>q) (fun b q=>by rw [aj (ne b _ q (by intro k z;cases z))];exact q) fun b xs q=>by rw [aj (ne b _ q (by intro k z;cases z))];exact q
 refine I.step (h':=s.heap) (g':=s.gens) (t':=s.toks) (d':=s.drawn) (ch:=[]) (fun _ z=>nomatch z) (fun b o _ _ _ q _=>q) (fun b o _ _ _ q _=>⟨o.slots,q⟩) (fun b o' _ q n=>?_) (fun b o _ q=>⟨o,q⟩) (fun b xs q=>?_) (fun b o u q=>?_) (fun b ps q=>?_) (fun m h=>h) (fun b u q=>?_) I.bare
 ·rw [aj (fun z=>by rw [z,e] at n;cases n)];exact n
 ·rw [aj (ne b _ q (by intro k z;cases z))];exact q
 ·rw [aj (ne b _ q (by intro k z;cases z))];exact q
 ·exact⟨#[],by rw [aj (ne b _ q (by intro k z;cases z)),q];simp⟩
 ·by_cases hb:b=a
  ·subst hb
   rw [ag] at q
   cases q
   exact⟨ho,st (I.hok b _ e)⟩
  ·rw [aj hb] at q
   exact st (I.hok b u q)
noncomputable def Itk (a:Addr) (o:Obj):It :=
 ⟨fun i H=>∃kvs,H a=some (.frz o (.dK kvs))/\i < kvs.length,
  fun i H v H'=>H'=H/\∀kvs,H a=some (.frz o (.dK kvs))->∃p,kvs[i]?=some p/\v=kV p.1,
  fun i H=>∃kvs,H a=some (.frz o (.dK kvs))/\kvs.length<=i⟩
theorem pH {P:Program}{w:World}{K:PySem.W.Frag}{tg:Expr} (a it:Addr) (o:Obj) (es:Array DictEntry) (ep:Nat) (hd:o.data=.dict es ep):Turn P w K tg (Itk a o) [it] it (fun i h=>h.IsKeyIter it a i es.size ep) where
 mem:=by simp
 obj:=fun i h st b hb=>by
  have e:b=it:=by simpa using hb
  subst e
  obtain⟨o,e,c,d⟩:=st
  exact⟨o,e,fun v z=>by rw [d] at z;cases z⟩
 keep:=fun i h h' st k=>st.at fun o e=>k it (by simp) o e
 item:=by
  intro X hP hw hK hc i pins s σ H E I hf st hg
  subst hP hw hK
  obtain⟨kvs,ha,lt⟩:=hg
  obtain⟨ho,_,_,vs,rel,o2,es2,ep2,h1,_,h2,_,h3,_⟩:=(show aM X.prog X.w H s.heap a (.frz o (.dK kvs)) from I.hok a _ ha)
  rw [ho] at h1
  cases h1
  rw [hd] at h2
  cases h2
  have hl:=Paired.length rel
  have hes:es.size=vs.length:=by rw [<- Array.length_toList];exact h3.length
  have lt2:i < es.size:=by omega
  obtain⟨p,hp⟩:∃p,kvs[i]?=some p:=⟨_,List.getElem?_eq_getElem lt⟩
  obtain⟨y,hy,r1,r2⟩:=Paired.at rel hp
  obtain⟨en,he,hk⟩:=pairs_at h3 hy
  have ek:es[i]=en:=by
   rw [Array.getElem?_toList,Array.getElem?_eq_getElem lt2] at he
   exact Option.some.inj he
  obtain⟨f0,f1,f2,f3,f4,f5⟩:=hf it (by simp)
  refine mq st ho hd lt2 fun h' st' sb=>?_
  rw [ek]
  have I1:Inv X pins σ H { s with heap:=h' }:=I.turned (t':=s.toks) (fun b o hb e=>(sb.2 b hb).trans e) f0 f1 f3 f4 f5
  obtain⟨o',e,c,d⟩:=id st'
  rw [<- r1] at hk
  exact⟨_,rfl,ff (s:={ s with heap:=h' }) e c d (by decide) ⟨kV p.1,H,I1,vf hk,⟨rfl,fun kvs' ha'=>by rw [ha] at ha';cases ha';exact⟨p,hp,rfl⟩⟩,st',fun b hb=>(hf b hb).1⟩⟩
 done:=by
  intro X hP hw hK hc i pins s σ H E I hf st hg
  subst hP hw hK
  obtain⟨kvs,ha,ge⟩:=hg
  obtain⟨ho,_,_,vs,rel,o2,es2,ep2,h1,_,h2,_,h3,_⟩:=(show aM X.prog X.w H s.heap a (.frz o (.dK kvs)) from I.hok a _ ha)
  rw [ho] at h1
  cases h1
  rw [hd] at h2
  cases h2
  have hl:=Paired.length rel
  have hes:es.size=vs.length:=by rw [<- Array.length_toList];exact h3.length
  obtain⟨f0,f1,f2,f3,f4,f5⟩:=hf it (by simp)
  exact mO (I.ok.hd hc) st ho hd (by omega) fun h' eb=>⟨rfl,I.turned (t':=s.toks) (fun b o hb e=>eb b o hb e) f0 f1 f3 f4 f5⟩
 self:=fun _ _ _ _ _ st h=>wpAny_pyIter_keyiter st h
section
variable {X:Cx}{tg:Expr}
noncomputable def uF (tl:TE):TI:=fun σ H R=>tl σ H fun x H1=>∃a kvs,x=.ref a/\H1 a=some (.dK kvs)/\∀o,R (Itk a o) (upd H1 a (.frz o (.dK kvs)))
theorem qV {l:Expr}{tl:TE} (hl:PE X l tl):PI X tg l (uF tl):=by
 intro pins s σ H R I h
 refine thn (hl pins s σ H _ I h) fun v s1 ⟨x,H1,I1,r1,q1⟩=>?_
 obtain⟨a,kvs,rfl,ha,q⟩:=q1
 cases r1
 obtain⟨_,nd,vs,rel,o,es,ep,ho,ex,hd,_,h3,_⟩:=(show aM X.prog X.w H1 s1.heap a (.dK kvs) from I1.hok a _ ha)
 refine lR nd ho ex hd ?_
 have I2:=I1.freezeK ha ho
 refine⟨s1.heap.objs.size,[s1.heap.objs.size],_,_,_,rfl,I2.kept (t':=s1.toks) fun b o e=>Heap.get?_push_of_some _ e,pH a _ o es ep hd,⟨_,Heap.get?_push_size _ rfl,rfl,rfl⟩,fun b hb=>?_,q o⟩
 have e:b=s1.heap.objs.size:=by simpa using hb
 subst e
 exact I2.fpOk (Nat.le_refl _) (I2.hok.fresh (Nat.le_refl _))
end
end L2
namespace L2
open PySem
section
variable {X:Cx}{scope:Scope}{N:List Str}{ix:List (Option Nat)}
variable {tg iter kx vx:Expr}{ifs:List Expr}{pos:Pos}{g:TG}{tt:TT}{tk tv:TE}
noncomputable def tDc (wi:TI) (g:TG) (tt:TT) (tk tv:TE) (ix:List (Option Nat)):TE:=fun σ H Q=>wi σ H fun J H1=>∀D,H1 D=none->DcW D J g tt tk tv (emb ix σ) (fun H'=>Q (.ref D) H') (upd H1 D (.dT []))
theorem nk {wi:TI} (hu:X.A.units < cLine) (L:bz X scope N ix) (hc:X.calm=true) (hi:PI X tg iter wi) (hg:∀C s0 H0 fp,PG (au X scope N C s0 H0 fp) tg g)
  (ht:∀C s0 H0 fp,PTs (au X scope N C s0 H0 fp) ifs tt) (hk:∀C s0 H0 fp,PE (au X scope N C s0 H0 fp) kx tk) (hv:∀C s0 H0 fp,PE (au X scope N C s0 H0 fp) vx tv) (hs:∀x,foldedSetIterable iter X.env x=pure x:=by intro _;rfl) :
  PE X (.DictComp kx vx [⟨tg,iter,ifs,0⟩] scope pos) (tDc wi g tt tk tv ix):=by
 intro pins s σ H Q I h
 show wpAny _ X.A (comprehension (.DictComp kx vx [⟨tg,iter,ifs,0⟩] scope pos) scope X.env _ newDict false (eval iter X.env)) _ _ s
 refine wpAny_comprehension_free (use:=none) rfl hs (L.clos I.ok) L.kind L.locals (thn (hi pins s σ H _ I h) fun v s1 h1=>thn h1 fun itv s2 h2=>?_)
 obtain⟨it,fp,tn,J,H2,rfl,I2,T,st2,f2,hW⟩:=h2
 refine mX (RR:=fun acc C=>compPost (model X.prog X.w) X.A X.xe none (EP X pins σ Q) acc C) L hc hu hg ht hk hv I2 T st2 f2 hW ?_
 intro D C s' m H' hn ho hC hI fin
 exact⟨m,hn,fun h' hs'=>⟨.ref D,_,hI h' hs',rfl,fin⟩⟩
theorem Inv.thaw {pins:List (Addr×Obj)}{σ:St}{H:Hp}{s:Shared}{a:Addr}{o:Obj}{u:HO} (I:Inv X pins σ H s) (e:H a=some (.frz o u)) (h0:∀o u,X.H₀ a≠some (.frz o u)) (hx:∀xs,u≠.tup xs) (hy:∀y,u≠.own y):Inv X pins σ (upd H a u) s:=by
 have ne:∀b v,H b=some v->(∀o u,v≠.frz o u)->b≠a:=fun b v q n z=>by
  rw [z,e] at q
  cases q
  exact n _ _ rfl
 have st:∀{b:Addr}{v:HO},aM X.prog X.w H s.heap b v->aM X.prog X.w (upd H a u) s.heap b v:=fun x=>x.stay (fun _ _ _ q=>q) (fun b q=>by rw [aj (ne b _ q (by intro k l z;cases z))];exact q) fun b xs q=>by rw [aj (ne b _ q (by intro k l z;cases z))];exact q
 have hok:HOk X.prog X.w (upd H a u) s.heap:=fun b v q=>by
  by_cases hb:b=a
  ·subst hb
   rw [ag] at q
   cases q
   exact st (I.hok b _ e).2
  ·rw [aj hb] at q
   exact st (I.hok b v q)
 have fr:∀b,H b=none->upd H a u b=none:=fun b n=>by rw [aj (fun z=>by rw [z,e] at n;cases n)];exact n
 exact⟨I.ok,I.os,I.bare,⟨I.base.keep,I.base.slot,fun b o q n hx=>fr b (I.base.free b o q n hx),I.base.there,
  fun b xs q=>by rw [aj (ne b _ (I.base.tups b xs q) (by intro k l z;cases z))];exact I.base.tups b xs q,
  fun b o' v q=>by rw [aj (fun z=>h0 o' v (by rw [<- z];exact q))];exact I.base.frzs b o' v q,
  fun b ps q=>by
   obtain⟨m,e'⟩:=I.base.tbls b ps q
   exact⟨m,by rw [aj (ne b _ e' (by intro k l z;cases z))];exact e'⟩⟩,I.loc,I.cell,fr _ I.free,fun x c q=>fr c (I.freeC x c q),fun p hp=>by
  obtain⟨a1,a2,a3⟩:=I.pin p hp
  exact⟨a1,fr _ a2,a3⟩,hok,I.len⟩
end
noncomputable def iOr (t u:TI):TI:=fun σ H R=>t σ H R\/u σ H R
theorem gM {X:Cx}{tg l:Expr}{t u:TI} (h1:PI X tg l t) (h2:PI X tg l u):PI X tg l (iOr t u):=fun pins s σ H R I h =>
 h.elim (h1 pins s σ H R I) (h2 pins s σ H R I)
theorem iO {K:PySem.W.Frag}{tl:TE}{g:TG}{tb:TS}{D:Ends}{σ:St}{H Hb:Hp}{a:Addr}{xs:List V} (htl:∀Q:VK,Q (.ref a) H->tl σ H Q) (hb:Hb a=some (.lst xs)\/Hb a=some (.tup xs)) (s0:af Hb H) (Pv:Nat->St->Hp->Prop) (h0:Pv 0 σ H) (hl:∀i σ' H',i<=xs.length->Pv i σ' H'->af Hb H')
  (hs:∀i x σ H,xs[i]?=some x->Pv i σ H->g x σ H fun σ2 H2=>tb { D with nx:=Pv (i + 1),ct:=Pv (i + 1),bk:=D.nx } σ2 H2) (hd:∀σ H,Pv xs.length σ H->D.nx σ H):nH (iOr (jw K tl) (gR K tl)) g tb D σ H:=by
 rcases hb with hb | hb
 ·exact .inl (htl _ ⟨a,rfl,⟨xs,SqL.of (s0 _ _ hb)⟩,dr Pv h0 (fun i σ H' hi p=>SqL.of (hl i σ H' hi p _ _ hb)) hs hd⟩)
 ·exact .inr (htl _ ⟨a,rfl,⟨xs,SqT.of (s0 _ _ hb)⟩,sS Pv h0 (fun i σ H' hi p=>SqT.of (hl i σ H' hi p _ _ hb)) hs hd⟩)
theorem k4 {g:TG}{tt:TT}{te:TE}{σ':St}{fin:List V->Hp->Prop}{H1:Hp}{a:Addr}{o:Obj}{kvs:List (List Key×V)} (hn:kvs.length < sizeLine) (Pv:Nat->List V->St->Hp->Prop) (h0:Pv 0 [] σ' H1) (hl:∀i ys σ H,i<=kvs.length->Pv i ys σ H->ys.length<=i/\H a=some (.frz o (.dT kvs)))
  (hs:∀i p b ys σ H,kvs[i]?=some p->H b=some (.tup (p.1.map kV))->Pv i ys σ H->g (.ref b) σ H fun σ2 H2=>tt σ2 H2 fun b H3=>if b=true then te σ2 H3 (fun v H4=>Pv (i + 1) (ys++[v]) σ2 H4) else Pv (i + 1) ys σ2 H3) (hd:∀ys σ H,Pv kvs.length ys σ H->fin ys H) :
  LcW (Itd a o) g tt te σ' fin H1:=by
 refine⟨fun i m ys σ H=>m=kvs.length - i/\i<=kvs.length/\Pv i ys σ H,⟨kvs.length,by simp,Nat.zero_le _,h0⟩,?_⟩
 rintro i m ys σ H ⟨rfl,hi,p⟩
 obtain⟨q0,q1⟩:=hl i ys σ H hi p
 by_cases h:i < kvs.length
 ·refine .inr ⟨⟨kvs,q1,h⟩,by omega,fun ys' σ2 H2=>Pv (i + 1) ys' σ2 H2,fun ys' σ2 H2 q=>⟨kvs.length - (i + 1),by omega,rfl,h,q⟩,fun v H' y=>?_⟩
  obtain⟨rfl,y⟩:=y
  obtain⟨p',b,e1,rfl,e2⟩:=y kvs q1
  exact hs i p' b ys σ H' e1 e2 p
 ·have e:i=kvs.length:=by omega
  subst e
  exact .inl ⟨⟨kvs,q1,Nat.le_refl _⟩,by omega,hd ys σ H p⟩
theorem rL {a:Addr}{o:Obj}{kvs:List (List Key×V)}{g:TG}{tb:TS}{D:Ends}{σ:St}{H:Hp} (Pv:Nat->St->Hp->Prop) (h0:Pv 0 σ H) (hl:∀i σ H,i<=kvs.length->Pv i σ H->H a=some (.frz o (.dT kvs)))
  (hs:∀i p b σ H,kvs[i]?=some p->H b=some (.tup (p.1.map kV))->Pv i σ H->g (.ref b) σ H fun σ2 H2=>tb { D with nx:=Pv (i + 1),ct:=Pv (i + 1),bk:=D.nx } σ2 H2) (hd:∀σ H,Pv kvs.length σ H->D.nx σ H) :
  ∃W:Nat->Nat->St->Hp->Prop,(∃m,W 0 m σ H)/\∀i m σ H,W i m σ H ->
   ((Itd a o).stop i H/\D.nx σ H)\/((Itd a o).go i H/\∃N:St->Hp->Prop,(∀σ' H',N σ' H'->∃m',m' < m/\W (i + 1) m' σ' H')/\∀x H',(Itd a o).yld i H x H'->g x σ H' fun σ2 H2=>tb { D with nx:=N,ct:=N,bk:=D.nx } σ2 H2):=by
 refine⟨fun i m σ H=>m=kvs.length - i/\i<=kvs.length/\Pv i σ H,⟨kvs.length,by simp,Nat.zero_le _,h0⟩,?_⟩
 rintro i m σ H ⟨rfl,hi,p⟩
 have q:=hl i σ H hi p
 by_cases hlt:i < kvs.length
 ·refine .inr ⟨⟨kvs,q,hlt⟩,Pv (i + 1),fun σ' H' p'=>⟨kvs.length - (i + 1),by omega,rfl,hlt,p'⟩,fun x H' y=>?_⟩
  obtain⟨e,y⟩:=y
  subst e
  obtain⟨p',b,e1,rfl,e2⟩:=y kvs q
  exact hs i p' b σ _ e1 e2 p
 ·have e:i=kvs.length:=by omega
  subst e
  exact .inl ⟨⟨kvs,q,Nat.le_refl _⟩,hd σ H p⟩
end L2
namespace L2
open PySem PySem.Spec PyProof.Rows PySem.W PySem.Calls
open Builtin
theorem tJ (l:Addr) (items:Array Value) (n:Nat) (o:Obj) (x:Int) (u:Tok) (hc:o.cls=.type "tuple") (hd:o.data=.seq items n) (h1:0<=x) (h2:x<=1000) (h0:items.isEmpty=false) (hz:items.size<=1000) :
  Meets (Builtin.«tuple.__mul__» ⟨[.ref l,.int x u],[]⟩) (fun _ R s=>s.heap.get? l=some o/\(x=1->R (.ok (.ret (Value.ref l))) s)/\(x≠1->R (.ok (.ret (Value.ref s.heap.objs.size))) { s with heap:=s.heap.push { cls:=Value.type "tuple",data:=Data.seq (List.foldl (fun x1 x2=>x1++x2) #[] (List.replicate x.toNat items)) },toks:=s.toks })) :=
 .of_wp fun prog w A R s h=>by
  obtain⟨hp,g,d,tk,os⟩:=s
  obtain⟨hl,k1,k2⟩:=h
  have c1:(decide (x < -(2 ^ 63)) || decide (x ≥ 2 ^ 63))=false:=by simp;omega
  have hT:(⟨hp,g,d,tk,os⟩:Shared).TypeIs (.ref l) "tuple":=⟨o,hl,hc⟩
  unfold Builtin.«tuple.__mul__»
  wp_walk
  rw [if_neg (by rw [c1];exact Bool.false_ne_true)]
  have itm:∀{Q:Array Value->Shared->Prop}{E:Value->Shared->Prop},Q items ⟨hp,g,d,tk,os⟩->wpAny (model prog w) A.in1 (Tuple.tupleItemsOf (.ref l)) Q E ⟨hp,g,d,tk,os⟩:=fun q=>by
   unfold Tuple.tupleItemsOf
   refine wpAny_bind ?_
   unfold seqItems?
   refine wpAny_bind (wpAny_load hl ?_)
   rw [hd]
   exact wpAny_pure (wpAny_pure q)
  refine wpAny_bind (itm ?_)
  rw [h0]
  by_cases c:x=1
  ·subst c
   rw [if_pos (by rfl)]
   wp_walk
   exact⟨_,rfl,k1 rfl⟩
  ·rw [if_neg (by simpa using c)]
   by_cases c0:x=0
   ·subst c0
    rw [if_pos (by rfl)]
    wp_walk
    refine⟨_,rfl,?_⟩
    exact k2 c
   ·have hp1:¬ ((decide (x<=0) || false)=true):=by simp;omega
    have hb:(items.size:Int) * x<=1000 * 1000:=Int.mul_le_mul (by omega) h2 h1 (by decide)
    rw [if_neg hp1,if_neg (by omega),if_neg (by unfold Tuple.tupleTooMany;simp;rw [sizeLine_eq];omega)]
    unfold Tuple.tupleExact
    refine wpAny_bind (wpAny_newObj_type ?_ ?_)
    ·exact wpAny_pure ⟨_,rfl,k2 c⟩
    ·have e:=foldl_rep items.toList x.toNat []
     rw [List.nil_append] at e
     have e':List.foldl (fun x1 x2:Array Value=>x1++x2) #[] (List.replicate x.toNat items)=(List.replicate x.toNat items.toList).flatten.toArray:=by
      rw [<- e]
     rw [e']
     show (List.replicate x.toNat items.toList).flatten.toArray.size<=sizeLine
     have hx:x.toNat<=1000:=by omega
     rw [List.size_toArray,len_rep,sizeLine_eq]
     have:=Nat.mul_le_mul hx (show items.toList.length<=1000 by simpa using hz)
     omega
theorem oh:fillsNumberSlot (.type "tuple") "mul"=pure false :=
 PySem.fillsNumberSlot_seq (id:="tuple.__mul__") (r:=some (.builtin "tuple.__rmul__")) F.slot_tuple_mul.lookup (by decide +kernel) F.slot_tuple_rmul.lookup (by decide +kernel)
theorem oF:seqRepeat? (.type "tuple")=pure (some (.builtin "tuple.__mul__")):=by
 unfold seqRepeat?
 have e1:=PySem.seqSlot_of (T:="tuple") (name:="__mul__") (id:="tuple.__mul__") F.slot_tuple_mul.lookup (by decide +kernel)
 have e2:=PySem.seqSlot_of (T:="tuple") (name:="__rmul__") (id:="tuple.__rmul__") F.slot_tuple_rmul.lookup (by decide +kernel)
 rw [e1,e2];rfl
theorem pB (a:Int) (t:Tok) (l:Addr) (o:Obj) (its:Array Value) (n:Nat) (hc:o.cls=.type "tuple") (hd:o.data=.seq its n) :
  Meets (Builtin.«int.__rmul__» ⟨[.int a t,.ref l],[]⟩) (fun _ R s=>s.heap.get? l=some o/\R (.ok (.ret Value.notImplemented)) s) :=
 .of_wp fun prog w A R s h=>by
  obtain⟨hp,g,d,tk,os⟩:=s
  obtain⟨hl,h⟩:=h
  have hT:(⟨hp,g,d,tk,os⟩:Shared).TypeIs (.ref l) "tuple":=⟨o,hl,hc⟩
  wp_walk
  rw [hd]
  wp_walk
  exact⟨_,rfl,h⟩
noncomputable def vE:R2:=fun x y H Q=>∃l k xs,x=.ref l/\y=.int k/\H l=some (.tup xs)/\xs≠[]/\xs.length<=1000/\0<=k/\k<=1000/\(k=1->Q (.ref l) H)/\(k≠1->∀p,H p=none->Q (.ref p) (upd H p (.tup (List.replicate k.toNat xs).flatten)))
theorem ub {X:Cx}:OpR X (binaryOp .Mult) vE:=by
 intro pins s σ H x y v u Q I rx ry h
 obtain⟨l,k,xs,rfl,rfl,hH,hne,hz,h1,h2,q1,q2⟩:=h
 cases rx
 obtain⟨t,rfl⟩:=ry
 obtain⟨_,its,r,o,e,hc,n,hd⟩:=(show aM X.prog X.w H s.heap l (.tup xs) from I.hok l _ hH)
 have hl:=r.length
 have h0:its.toArray.isEmpty=false:=by
  cases its with
  | nil=>cases xs with
   | nil=>exact absurd rfl hne
   | cons _ _=>cases hl
  | cons _ _=>rfl
 have hnew:List.foldl (fun x1 x2:Array Value=>x1++x2) #[] (List.replicate k.toNat its.toArray)=(List.replicate k.toNat its).flatten.toArray:=by
  have:=foldl_rep its k.toNat []
  rw [List.nil_append] at this
  exact this
 refine wpAny_binaryOp_repeat_ref (T:="tuple") (U:="int") (by decide) ⟨_,e,hc⟩ (fun s'=>typeIs_int s' k t) oh F.fills_int_mul F.slot_int_rmul oF F.slot_int_index.lookup
  (call_meets F.slot_int_rmul (typeIs_int s k t) F.entry_int_rmul (F.args_int_rmul_2 _ _) (pB k t l o _ n hc hd)
   ⟨e,rfl,⟨_,e,hc⟩,call_meets F.slot_tuple_mul ⟨_,e,hc⟩ F.entry_tuple_mul (F.args_tuple_mul_2 _ _) (tJ l its.toArray n o k t hc hd h1 h2 h0 (by rw [List.size_toArray];omega)) ⟨e,fun c=>?_,fun c=>?_⟩⟩)
 ·exact⟨.ref l,H,I,rfl,q1 c⟩
 ·rw [hnew]
  have hb:(List.replicate k.toNat xs).flatten.length<=sizeLine:=by
   have hx:k.toNat<=1000:=by omega
   rw [len_rep,sizeLine_eq]
   have:=Nat.mul_le_mul hx hz
   omega
  refine⟨.ref s.heap.objs.size,_,I.laid (a:=s.heap.objs.size) (o:=.tup (List.replicate k.toNat xs).flatten) (t':=s.toks) (fun b u q=>Heap.get?_push_of_some _ q) (Nat.le_refl _) ⟨hb,_,r.rep k.toNat,?_⟩,rfl,q2 c _ (I.hok.fresh (Nat.le_refl _))⟩
  exact⟨_,Heap.get?_push_size _ rfl,rfl,0,rfl⟩
noncomputable def vw:R2:=fun x y H Q=>∃l k xs,x=.ref l/\y=.int k/\H l=some (.tup xs)/\xs≠[]/\xs.length<=1000/\0<=k/\k<=1000/\∀p H',af H H'->H' p=some (.tup (List.replicate k.toNat xs).flatten)->Q (.ref p) H'
theorem ud {X:Cx}:OpR X (binaryOp .Mult) vw:=by
 intro pins s σ H x y v u Q I rx ry h
 obtain⟨l,k,xs,h1,h2,hH,hne,hz,h3,h4,q⟩:=h
 refine ub pins s σ H x y v u Q I rx ry ⟨l,k,xs,h1,h2,hH,hne,hz,h3,h4,fun c=>q l H (af.refl H) ?_,fun c p hp=>q p _ (fun b o e=>by rw [aj (aV e hp)];exact e) ag⟩
 subst c
 rw [hH]
 simp
end L2
namespace L2
open PySem PySem.Spec PyProof.Rows
open AutoSeq1 (wpAny_loadPart')
section
variable {prog:Program}{w:World}{A:Around}{E:Value->Shared->Prop}{s:Shared}
theorem mH (hh:A.handled=none) (it t:Addr) (ne:t≠it) (its:Array Value):Draws prog w A it [it,t] its.size (fun i v=>its[i]?=some v) (fun i h=>h.IsTupleIter it t i/\h.IsTuple t its) where
 live:=fun _ _ st=>let ⟨o,ho,_⟩:=st.1;⟨o,ho⟩
 frame:=fun _ _ _ st k=>⟨st.1.at fun o e=>k it (by simp) o e,st.2.at fun o e=>k t (by simp) o e⟩
 item:=fun i s Q E hi st q=>lP st.1 st.2 (v:=its[i]) (by simp [hi]) fun G j b=>q _ G s.toks (by simp [hi]) ⟨j,st.2.extBut b.extBut ne⟩ b
 done:=fun s Q E st k=>mJ hh st.1 st.2 (by simp) k
theorem qM (t:Addr) (its:Array Value):Meets (Builtin.«enumerate.__new__» ⟨[.type "enumerate",.ref t],[]⟩) (fun _ R s=>s.heap.IsTuple t its /\
   R (.ok (.ret (.ref (s.heap.push { cls:=.type "tuple_iterator",data:=.fields #[.ref t,.int 0 0] }).objs.size)))
    { s with heap:=(s.heap.push { cls:=.type "tuple_iterator",data:=.fields #[.ref t,.int 0 0] }).push { cls:=.type "enumerate",data:=.fields #[.none,.bool false,.ref s.heap.objs.size,rawInt 0,.none,.none] } }) :=
 .of_wp fun prog w A R s h=>by
  obtain⟨hp,g,d,tk,os⟩:=s;obtain⟨hT,h⟩:=h
  have sb:=sub_enumerate;obtain⟨o,ho,_⟩:=id hT
  wp_walk using wpAny_loadPart' ho
  refine wpAny_stack_any fun st=>wpAny_pure ?_
  split
  ·rename_i c _ _ _ _ _
   cases (c == Value.type "enumerate") <;> (wp_walk using wpAny_loadPart' ho,wpAny_pyIter_tuple hT;exact⟨_,rfl,h⟩)
  ·wp_walk using wpAny_loadPart' ho,wpAny_pyIter_tuple hT;exact⟨_,rfl,h⟩
theorem sT {t:Addr}{its:Array Value}{Q:Value->Shared->Prop} (hT:s.heap.IsTuple t its)
  (q:∀G,IsEnum G (s.heap.objs.size + 1) s.heap.objs.size 0 .none->G.IsTupleIter s.heap.objs.size t 0->(∀c o,s.heap.get? c=some o->G.get? c=some o)->Q (.ref (s.heap.objs.size + 1)) { s with heap:=G }) :
  wpAny (model prog w) A (call (.type "enumerate") [.ref t]) Q E s:=by
 refine callType_new F.called_enumerate (by decide) (F.typeCall_enumerate_1 _) (F.newCall_enumerate_1 _) (fun obj=>F.args_object_init_2 obj _) F.entry_enumerate_new (qM t its) ⟨hT,?_⟩
 have z:(s.heap.push { cls:=.type "tuple_iterator",data:=.fields #[.ref t,.int 0 0] }).objs.size=s.heap.objs.size + 1:=Heap.size_push ..
 have g2:=Heap.get?_push_size (s.heap.push { cls:=.type "tuple_iterator",data:=.fields #[.ref t,.int 0 0] }) (o:={ cls:=.type "enumerate",data:=.fields #[.none,.bool false,.ref s.heap.objs.size,rawInt 0,.none,.none] }) rfl
 show _/\_
 rw [z] at g2 ⊢
 exact⟨⟨_,g2,rfl⟩,q _ g2 ⟨_,Heap.get?_push_of_some _ (Heap.get?_push_size _ rfl),rfl,rfl⟩ fun c o e=>Heap.get?_push_of_some _ (Heap.get?_push_of_some _ e)⟩
end
noncomputable def ItT (K:PySem.W.Frag) (a:Addr):It :=
 ⟨fun i H=>∃xs x,SqT K H a xs/\xs[i]?=some x,
  fun i H v H'=>∃T x,v=.ref T/\H T=none/\H'=upd H T (.tup [.int i,x])/\∀xs,SqT K H a xs->xs[i]?=some x,
  fun i H=>∃xs,SqT K H a xs/\xs.length=i⟩
noncomputable def wD (e it l:Addr) (i:Nat) (h:Heap):Prop:=(∃old,IsEnum h e it i old)/\h.IsTupleIter it l i
theorem sV {P:Program}{w:World}{K:PySem.W.Frag}{elts:List Expr}{x1}{pos:Pos} (e it l:Addr) (hei:e≠it) (hle:l≠e) (hli:l≠it) :
  Turn P w K (.Tuple elts x1 pos) (ItT K l) [e,it] e (wD e it l) where
 mem:=by simp
 obj:=fun i h st b hb=>by
  obtain⟨⟨old,he⟩,⟨o1,e1,c1,d1⟩⟩:=st
  simp only [List.mem_cons,List.not_mem_nil,or_false] at hb
  rcases hb with rfl | rfl
  ·exact⟨_,he,fun v q=>by cases q⟩
  ·exact⟨_,e1,fun v q=>by rw [d1] at q;cases q⟩
 keep:=fun i h h' st k=>by
  obtain⟨⟨old,he⟩,h1⟩:=st
  exact⟨⟨old,k e (by simp) _ he⟩,h1.at fun o q=>k it (by simp) o q⟩
 item:=by
  intro X hP hw hK hc i pins s σ H E I hf st hg
  subst hP hw hK
  obtain⟨xs,x,hq1,hx⟩:=hg
  obtain⟨⟨old,he⟩,h1⟩:=id st
  obtain⟨its1,rv1,p1,hz1⟩:=I.tuple hq1
  obtain⟨u1,hu1,ru1⟩:=rv1.get hx
  have hlt:i < its1.toArray.size:=by
   have:=(List.getElem?_eq_some_iff.mp hu1).1
   simpa using this
  refine wpAny_pyNext_enum_itemD (mH (A:=X.A.in1) (I.ok.hd hc) it l hli its1.toArray) he ⟨h1,p1⟩ hlt hei (by simp [hei,hle.symm]) fun x' h' tk hx' a1 a2 a3 a4 a5=>?_
  have ex:x'=u1:=by
   have:its1.toArray[i]?=some u1:=by simpa using hu1
   exact Option.some.inj (hx'.symm.trans this)
  subst ex
  refine⟨_,rfl,wpAny_letOwnedTupleGo_enum (s:={ s with heap:=h',toks:=tk + 1 }) a1 fun h'' z2 sb=>?_⟩
  have sb':=sb.extBut
  generalize hT:s.heap.objs.size=T at *
  have lt:∀{b:Addr}{o:Obj},s.heap.get? b=some o->b≠T:=fun {b o} e=>by rw [<- hT];exact Nat.ne_of_lt (Heap.lt_size e)
  have fresh:H T=none:=by rw [<- hT];exact I.hok.fresh (Nat.le_refl _)
  have hne:∀b∈[e,it],b≠T:=fun b hb=>by
   obtain⟨o1,e1,_⟩:=h1
   simp only [List.mem_cons,List.not_mem_nil,or_false] at hb
   rcases hb with rfl | rfl
   ·exact lt he
   ·exact lt e1
  have I0:Inv X pins σ (upd H T (.tup [.int i,x])) { s with heap:=s.heap.push { cls:=.type "tuple",data:=.seq #[.int i tk,x'] },toks:=s.toks }:=by
   subst hT
   exact I.laid (t':=s.toks) (fun b o q=>Heap.get?_push_of_some _ q) (Nat.le_refl _) ⟨by show 2<=sizeLine;decide,[.int i tk,x'],.cons ⟨_,rfl⟩ (.cons ru1 .nil),_,Heap.get?_push_size _ rfl,rfl,0,rfl⟩
  have up:∀b o,b∉[e,it]->(s.heap.push { cls:=.type "tuple",data:=.seq #[.int i tk,x'] }).get? b=some o->h''.get? b=some o:=fun b o hb q=>by
   simp only [List.mem_cons,List.not_mem_nil,or_false,not_or] at hb
   rcases Heap.get?_push_cases q with ⟨e1,e2⟩ | e1
   ·subst e2
    rw [e1,hT]
    exact sb' _ _ (hne e (by simp)).symm a3
   ·exact sb' _ _ hb.1 (a5 b o hb.1 hb.2 e1)
  have I2:Inv X pins σ (upd H T (.tup [.int i,x])) { s with heap:=h'',toks:=tk + 1 }:=Inv.turnedS (s:={ s with heap:=s.heap.push { cls:=.type "tuple",data:=.seq #[.int i tk,x'] },toks:=s.toks }) (t':=tk + 1) (ch:=[e,it]) I0 up fun b hb=>by
   obtain⟨f0,f1⟩:=hf b hb
   exact⟨by rw [aj (hne b hb)];exact f0,f1⟩
  exact⟨.ref T,upd H T (.tup [.int i,x]),I2,rfl,⟨T,x,rfl,fresh,rfl,fun ws hw=>by rw [I.tuple_inj hw hq1];exact hx⟩,
   ⟨⟨_,by simpa using z2⟩,a2.1.at fun o q=>sb' _ _ hei.symm q⟩,fun b hb=>by rw [aj (hne b hb)];exact (hf b hb).1⟩
 done:=by
  intro X hP hw hK hc i pins s σ H E I hf st hg
  subst hP hw hK
  obtain⟨xs,hq1,hx⟩:=hg
  obtain⟨⟨old,he⟩,h1⟩:=id st
  obtain⟨its1,rv1,p1,hz1⟩:=I.tuple hq1
  have hl1:=rv1.length
  have en:i=its1.toArray.size:=by simp;omega
  subst en
  refine wpAny_pyNext_enum_endD (mH (A:=X.A.in1) (I.ok.hd hc) it l hli its1.toArray) he ⟨h1,p1⟩ fun h' hk=>⟨rfl,I.turnedS (t':=s.toks) (ch:=[e,it]) (fun b o hb q=>?_) hf⟩
  simp only [List.mem_cons,List.not_mem_nil,or_false,not_or] at hb
  exact hk b o hb.2 q
 self:=fun _ _ _ _ _ st h=>by obtain⟨⟨old,he⟩,_⟩:=st;exact wpAny_pyIter_enum he h
section
variable {X:Cx}
noncomputable def vZ (K:PySem.W.Frag) (ta:TA):TI:=fun σ H R=>ta σ H fun vs H1=>∃a xs,vs=[.ref a]/\SqT K H1 a xs/\R (ItT K a) H1
theorem uH {a:Expr}{elts:List Expr}{x1}{tpos:Pos}{ta:TA}{p pos:Pos} (hg:Gl X "enumerate") (hm:X.mg "enumerate"=none) (ha:PA X [a] ta) (hs:starEach [a] X.env=[(false,eval a X.env)]:=by rfl) :
  PI X (.Tuple elts x1 tpos) (.Call (.Name "enumerate" p) [a] [] pos) (vZ X.K ta):=by
 intro pins s σ H R I h
 refine Call_ (dB I hg hm pU (PyProof.Rows.callWith_type1 (thn (ha pos pins s σ H _ I h) fun us s1 ⟨vs,H1,I1,r1,q1⟩=>?_) (by rw [hs];rfl) rfl))
 obtain⟨a',xs,rfl,hq1,q⟩:=q1
 obtain⟨u1,rfl,ra⟩:=vals1 r1
 cases ra
 obtain⟨its1,rv1,p1,hz1⟩:=I1.tuple hq1
 have hlt:a' < s1.heap.objs.size:=by obtain⟨o,ho,_⟩:=id p1;exact Heap.lt_size ho
 refine sT p1 fun G he hit hk=>wpAny_pyIter_enum he ?_
 refine⟨s1.heap.objs.size + 1,[s1.heap.objs.size + 1,s1.heap.objs.size],_,_,H1,rfl,I1.kept (t':=s1.toks) hk,sV _ _ _ (Nat.succ_ne_self _) (Nat.ne_of_lt (Nat.lt_succ_of_lt hlt)) (Nat.ne_of_lt hlt),⟨⟨_,he⟩,hit⟩,fun b hb=>?_,q⟩
 have hle:s1.heap.objs.size<=b:=by
  simp only [List.mem_cons,List.not_mem_nil,or_false] at hb
  rcases hb with rfl | rfl
  ·exact Nat.le_add_right _ _
  ·exact Nat.le_refl _
 exact I1.fpOk hle (I1.hok.fresh hle)
end
end L2
namespace L2
open PySem
noncomputable def vC (H0:Hp) (t:TS):TS:=fun D σ H=>t { D with nx:=fun σ' H'=>∃a o kvs,H' a=some (.frz o (.dT kvs))/\(∀o u,H0 a≠some (.frz o u))/\D.nx σ' (upd H' a (.dT kvs)) } σ H
theorem mi {X:Cx}{st:Stmt}{t:TS} (h:PS X st t):PS X st (vC X.H₀ t):=fun pins s σ H D I q=>thn (h pins s σ H _ I q) fun f s1 p=>by
 cases f with
 | next =>
  obtain⟨σ',H',I',a,o,kvs,e,h0,d⟩:=p
  exact⟨σ',_,I'.thaw e h0 (fun _ z=>by cases z) (fun _ z=>by cases z),d⟩
 | _=>exact p
theorem sM {K:PySem.W.Frag}{a:Addr}{xs:List V}{g:TG}{tb:TS}{D:Ends}{σ:St}{H:Hp} (Pv:Nat->St->Hp->Prop) (h0:Pv 0 σ H) (hl:∀i σ H,i<=xs.length->Pv i σ H->SqT K H a xs)
  (hs:∀i x σ H T,xs[i]?=some x->Pv i σ H->H T=none->g (.ref T) σ (upd H T (.tup [.int i,x])) fun σ2 H2=>tb { D with nx:=Pv (i + 1),ct:=Pv (i + 1),bk:=D.nx } σ2 H2) (hd:∀σ H,Pv xs.length σ H->D.nx σ H) :
  ∃W:Nat->Nat->St->Hp->Prop,(∃m,W 0 m σ H)/\∀i m σ H,W i m σ H ->
   ((ItT K a).stop i H/\D.nx σ H)\/((ItT K a).go i H/\∃N:St->Hp->Prop,(∀σ' H',N σ' H'->∃m',m' < m/\W (i + 1) m' σ' H')/\∀x H',(ItT K a).yld i H x H'->g x σ H' fun σ2 H2=>tb { D with nx:=N,ct:=N,bk:=D.nx } σ2 H2):=by
 refine⟨fun i m σ H=>m=xs.length - i/\i<=xs.length/\Pv i σ H,⟨xs.length,by simp,Nat.zero_le _,h0⟩,?_⟩
 rintro i m σ H ⟨rfl,hi,p⟩
 have q:=hl i σ H hi p
 by_cases hlt:i < xs.length
 ·refine .inr ⟨⟨xs,xs[i],q,by simp [hlt]⟩,Pv (i + 1),fun σ' H' p'=>⟨xs.length - (i + 1),by omega,rfl,hlt,p'⟩,fun x H' y=>?_⟩
  obtain⟨T,x',rfl,hT,rfl,e1⟩:=y
  exact hs i x' σ H T (e1 xs q) p hT
 ·have e:i=xs.length:=by omega
  subst e
  exact .inl ⟨⟨xs,q,rfl⟩,hd σ H p⟩
end L2
namespace L2
open PySem PySem.Spec PyProof.Rows PySem.W PySem.Calls
noncomputable def Hd0 (vs:Array Value) (a0:Value):Prop:=vs[0]?=some a0/\vs[2]?=some Value.none
noncomputable def wM (fl:Value) (h:Heap) (e T:Addr) (cls a0:Value) (dx:Option Addr):Prop:=∃oe vs oT ts,h.get? e=some oe/\oe.cls=cls/\Hd0 vs a0/\oe.data=Data.fields vs/\vs[1]?=some (Value.ref T)/\T≠e/\h.get? T=some oT/\oT.data=Data.fields ts/\ts[3]?=some fl/\oe.dict=dx
noncomputable abbrev Trc:Heap->Addr->Addr->Value->Value->Option Addr->Prop:=wM .none
noncomputable def CXE (P:Program) (w:World):CXT:=fun outer H s E e s'=>∃(ea T:Addr) (cls a0:Value) (dx:Option Addr) (H':Hp),e=.ref ea/\s'.os=s.os/\AllBare s'.gens/\Un (frs outer) [] H H' s.heap s'.heap/\HOk P w H' s'.heap/\s.heap.get? ea=none/\s.heap.get? T=none/\H' ea=none/\H' T=none/\Trc s'.heap ea T cls a0 dx/\E cls dx H'
structure Moved (fr:List Addr) (g:List Addr) (h h':Heap):Prop where
 keep:∀b o,h.get? b=some o->b∉fr->b∉g->h'.get? b=some o
 slot:∀b o,h.get? b=some o->b∈fr->∃sl,h'.get? b=some { o with slots:=sl }
section
variable {M:Model}{A:Around}{E:Value->Shared->Prop}{s:Shared}{env:Env}{outer:List Env}{L e T:Addr}{base:Heap}{cls a0:Value}{dx:Option Addr}{Q:Unit->Shared->Prop}
end
noncomputable def xb (h:Heap) (C:Addr):Prop:=∃(nm q:Str) (N:Addr) (bs bm bmB:List Value) (hdct:Bool) (sn:List Str) (sub:List Value) (ab:Bool) (col:Option Bool) (dd:Option Addr) (k0 k1 k2 k3 k5:Option Value) (mN:Str->Option Value) (B Bn newId nid initId inN:String) (bmN:List Value),
 h.get? C=some (excClassObj nm q C N bs bm hdct sn sub ab col dd k0 k1 k2 k3 k5 newId)/\h.Ns N mN/\mN (Str.ofString "__init__")=none/\OwnTail h bmB bm/\bm.contains (Value.type "BaseException")=true/\ExcBaseFacts Bn newId inN bmN/\bmB.contains (Value.type Bn)=true/\ExcBaseFacts B nid initId bmB
section
variable {X:Cx}{x:Str}{C:Addr}{e:Expr}{es:List Expr}{t:TA}{np cpos pos:Pos}{W:Hp->Prop}
end
section
variable {P:Program}{w:World}{K:PySem.W.Frag}{mg:Str->Option Value}{base:Heap}
end
noncomputable def XP (X:Cx) (pins:List (Addr×Obj)) (Ex:St->Value->Option Addr->Hp->Prop) (e:Value) (s1:Shared):Prop :=
 ∃(σ:St) (H:Hp) (s:Shared),Inv X pins σ H s/\CXE X.prog X.w X.stack H s (fun cls dx H'=>Ex σ cls dx H') e s1
noncomputable abbrev TSX:=(St->Value->Option Addr->Hp->Prop)->Ends->St->Hp->Prop
section
variable {X:Cx}{k:Nat}{x:Str}{ps:List Str}{sp:Sp}{e:Expr}{es:List Expr}{t:TA}{p pos:Pos}
end
section
variable {X:Cx}{pins:List (Addr×Obj)}{σ:List (Option V)}{H H':Hp}{s:Shared}{h':Heap}
end
section
variable {X:Cx}{pins:List (Addr×Obj)}{σ:List (Option V)}{H:Hp}{s:Shared}
end
section
variable {X:Cx}{pins:List (Addr×Obj)}{σ:St}{H:Hp}{s:Shared}{ea C:Addr}{o:HO}
end
section
variable {X:Cx}{pins:List (Addr×Obj)}{σ:St}{H:Hp}{s:Shared}{ea:Addr}
end
section
variable {X:Cx}{st b0:Stmt}{suite:List Stmt}{tx:TSX}{th:TS}{x n:Str}{R:Addr}{j:Nat}{np hpos pos:Pos}
end
section
variable {X:Cx}{pins:List (Addr×Obj)}{σ:St}{H:Hp}{s:Shared}
end
section
variable {X:Cx}{st:Stmt}{rest:List Stmt}{t u:TSX}{pos:Pos}
end
end L2
namespace Mend
open PySem
noncomputable abbrev Rw:=Str×Str×Str
noncomputable abbrev Lt:=Str->Bool
theorem sum_add {α:Type} (f g:α->Int):∀l:List α,(l.map fun r=>f r + g r).sum=(l.map f).sum + (l.map g).sum
 | []=>rfl
 | x::t=>by rw [List.map_cons,List.sum_cons,sum_add f g t,List.map_cons,List.sum_cons,List.map_cons,List.sum_cons];omega
theorem gJ {α:Type}{f g:α->Int}:∀{l:List α},(∀x∈l,f x<=g x)->(l.map f).sum<=(l.map g).sum
 | [],_=>Int.le_refl _
 | x::t,h=>by
  rw [List.map_cons,List.sum_cons,List.map_cons,List.sum_cons]
  have:=gJ fun y hy=>h y (List.mem_cons_of_mem _ hy)
  have:=h x List.mem_cons_self
  omega
theorem eA {α:Type}{f g:α->Int}:∀{l:List α},(∀x∈l,f x=g x)->(l.map f).sum=(l.map g).sum
 | [],_=>rfl
 | x::t,h=>by rw [List.map_cons,List.sum_cons,eA fun y hy=>h y (List.mem_cons_of_mem _ hy),h x List.mem_cons_self,List.map_cons,List.sum_cons]
noncomputable def dS (R:List Rw) (S:Lt):Int:=(R.map fun r=>if (S r.2.2 && !S r.2.1)=true then (1:Int) else 0).sum
noncomputable def pS (vs:List Str) (p:Str->Int) (S:Lt):Int:=(vs.map fun v=>if S v=true then p v else 0).sum
noncomputable abbrev un (S T:Lt):Lt:=fun x=>S x || T x
noncomputable abbrev cut (S T:Lt):Lt:=fun x=>S x && T x
theorem ur (R:List Rw) (S T:Lt):dS R (un S T) + dS R (cut S T)<=dS R S + dS R T:=by
 unfold dS
 rw [<- sum_add,<- sum_add]
 refine gJ fun r _=>?_
 show (if ((S r.2.2 || T r.2.2) && !(S r.2.1 || T r.2.1))=true then (1:Int) else 0) + (if ((S r.2.2 && T r.2.2) && !(S r.2.1 && T r.2.1))=true then (1:Int) else 0)<=_
 cases S r.2.2 <;> cases T r.2.2 <;> cases S r.2.1 <;> cases T r.2.1 <;> decide
theorem vd (vs:List Str) (p:Str->Int) (S T:Lt):pS vs p (un S T) + pS vs p (cut S T)=pS vs p S + pS vs p T:=by
 unfold pS
 rw [<- sum_add,<- sum_add]
 refine eA fun v _=>?_
 show (if (S v || T v)=true then p v else 0) + (if (S v && T v)=true then p v else 0)=_
 cases S v <;> cases T v <;> simp
theorem vG {vs:List Str}{p:Str->Int} (h:∀v∈vs,0<=p v) (S:Lt):0<=pS vs p S:=by
 have:=gJ (f:=fun _:Str=>(0:Int)) (g:=fun v=>if S v=true then p v else 0) (l:=vs) fun v hv=>by
  have:=h v hv
  show (0:Int)<=if S v=true then p v else 0
  split <;> omega
 have e:(vs.map fun _:Str=>(0:Int)).sum=0:=by
  clear this h
  induction vs with
  | nil=>rfl
  | cons x t ih=>rw [List.map_cons,List.sum_cons,ih];rfl
 unfold pS
 omega
theorem gH (p:Str->Int) (v:Str) (m:Int) (S:Lt):∀{vs:List Str},vs.Nodup->v∈vs->pS vs (fun x=>if x=v then m else p x) S=pS vs p S + if S v=true then m - p v else 0
 | x::t,hn,h=>by
  obtain⟨h1,h2⟩:=List.nodup_cons.mp hn
  unfold pS
  rw [List.map_cons,List.sum_cons,List.map_cons,List.sum_cons]
  by_cases c:x=v
  ·subst c
   have e:(t.map fun y=>if S y=true then (fun y=>if y=x then m else p y) y else 0).sum=(t.map fun y=>if S y=true then p y else 0).sum:=eA fun y hy=>by
    have:y≠x:=fun z=>h1 (z ▸ hy)
    simp [this]
   rw [e]
   by_cases c2:S x=true
   ·simp [c2];omega
   ·simp [c2]
  ·have ih:=gH p v m S h2 ((List.mem_cons.mp h).resolve_left fun z=>c z.symm)
   unfold pS at ih
   rw [ih]
   simp only [if_neg c]
   omega
noncomputable def Lot (vs:List Str) (root:Str) (S:Lt):Prop:=S root=false/\∃v∈vs,S v=true
structure dj (vs:List Str) (root:Str) (R:List Rw) (many:Int) (p:Str->Int):Prop where
 nn:∀v∈vs,0<=p v
 ok:∀S,Lot vs root S->many - dS R S<=pS vs p S
noncomputable def Tight (vs:List Str) (R:List Rw) (many:Int) (p:Str->Int) (S:Lt):Prop:=pS vs p S=many - dS R S
section
variable {vs:List Str}{root:Str}{R:List Rw}{many:Int}{p:Str->Int}
theorem dj.step (F:dj vs root R many p) (hn:vs.Nodup) {v:Str} (hv:v∈vs) {m:Int} (h0:0<=m) (h1:∀S,Lot vs root S->S v=true->many - dS R S - pS vs p S + p v<=m) (h2:m=0\/∃S,Lot vs root S/\S v=true/\m=many - dS R S - pS vs p S + p v) :
  dj vs root R many (fun x=>if x=v then m else p x)/\m<=p v/\(∀S,Lot vs root S->Tight vs R many p S->Tight vs R many (fun x=>if x=v then m else p x) S)/\(0 < m->∃S,Lot vs root S/\S v=true/\Tight vs R many (fun x=>if x=v then m else p x) S):=by
 have le:m<=p v:=by
  rcases h2 with rfl | ⟨S,hS,hSv,rfl⟩
  ·exact F.nn v hv
  ·have:=F.ok S hS;omega
 refine⟨⟨fun x hx=>?_,fun S hS=>?_⟩,le,fun S hS t=>?_,fun hm=>?_⟩
 ·show 0<=if x=v then m else p x
  split
  ·exact h0
  ·exact F.nn x hx
 ·rw [gH p v m S hn hv]
  by_cases c:S v=true
  ·have:=h1 S hS c
   rw [if_pos c];omega
  ·have:=F.ok S hS
   rw [if_neg c];omega
 ·unfold Tight at t ⊢
  rw [gH p v m S hn hv]
  by_cases c:S v=true
  ·have:=h1 S hS c
   rw [if_pos c];omega
  ·rw [if_neg c];omega
 ·rcases h2 with rfl | ⟨S,hS,hSv,e⟩
  ·omega
  ·refine⟨S,hS,hSv,?_⟩
   unfold Tight
   rw [gH p v m S hn hv,if_pos hSv]
   omega
theorem dj.union (F:dj vs root R many p) {S T:Lt} (hS:Lot vs root S) (hT:Lot vs root T) (tS:Tight vs R many p S) (tT:Tight vs R many p T) (h:∃v∈vs,S v=true/\T v=true):Lot vs root (un S T)/\Tight vs R many p (un S T):=by
 obtain⟨v,hv,h1,h2⟩:=h
 have lu:Lot vs root (un S T):=⟨by show (S root || T root)=false;rw [hS.1,hT.1];rfl,v,hv,by show (S v || T v)=true;rw [h1];rfl⟩
 have lc:Lot vs root (cut S T):=⟨by show (S root && T root)=false;rw [hS.1];rfl,v,hv,by show (S v && T v)=true;rw [h1,h2];rfl⟩
 have a:=F.ok _ lu
 have b:=F.ok _ lc
 have c:=ur R S T
 have d:=vd vs p S T
 unfold Tight at tS tT ⊢
 exact⟨lu,by omega⟩
end
noncomputable abbrev inL (l:List Str):Lt:=fun x=>decide (x∈l)
structure Fam (vs:List Str) (js:List (List Str)) (J:Lt->Prop):Prop where
 sub:∀l∈js,∀x∈l,x∈vs
 nd:∀l∈js,l.Nodup
 ext:∀l∈js,∀o∈js,(∀x,x∈l ↔ x∈o)->l=o
 mem:∀l∈js,J (inL l)
 all:∀S,J S->∃l∈js,∀x∈vs,(x∈l ↔ S x=true)
noncomputable def Gr (js:List (List Str)) (l:List Str):Prop:=l∈js/\∀o∈js,(∀x∈l,x∈o)->o=l
theorem fL {α:Type} [DecidableEq α]:∀{l m:List α},l.Nodup->(∀x∈l,x∈m)->l.length<=m.length
 | [],_,_,_=>Nat.zero_le _
 | x::t,m,h,k=>by
  obtain⟨h1,h2⟩:=List.nodup_cons.mp h
  have hx:=k x List.mem_cons_self
  have:=fL (m:=m.erase x) h2 fun y hy=>(List.mem_erase_of_ne (show y≠x from fun z=>h1 (z ▸ hy))).mpr (k y (List.mem_cons_of_mem _ hy))
  rw [List.length_erase_of_mem hx] at this
  have:=List.length_pos_of_mem hx
  simp only [List.length_cons]
  omega
theorem Gr.above {vs:List Str}{js:List (List Str)}{J:Lt->Prop} (F:Fam vs js J):∀(n:Nat) (l:List Str),l∈js->vs.length - l.length<=n->∃g,Gr js g/\∀x∈l,x∈g:=by
 intro n
 induction n with
 | zero =>
  intro l hl hz
  refine⟨l,⟨hl,fun o ho h=>?_⟩,fun x h=>h⟩
  have h1:=fL (F.nd o ho) (F.sub o ho)
  have h2:=fL (F.nd l hl) (F.sub l hl)
  refine (F.ext l hl o ho fun x=>⟨h x,fun hx=>?_⟩).symm
  apply Classical.byContradiction
  intro c
  have h3:=fL (l:=x::l) (m:=o) (List.nodup_cons.mpr ⟨c,F.nd l hl⟩) fun y hy=>(List.mem_cons.mp hy).elim (fun z=>z ▸ hx) (h y)
  simp only [List.length_cons] at h3
  omega
 | succ n ih =>
  intro l hl hz
  by_cases c:∃o∈js,(∀x∈l,x∈o)/\o≠l
  ·obtain⟨o,ho,h,hne⟩:=c
   obtain⟨y,hy,hyl⟩:∃y,y∈o/\y∉l:=by
    apply Classical.byContradiction
    intro z
    refine hne (F.ext l hl o ho fun x=>⟨h x,fun hx=>?_⟩).symm
    apply Classical.byContradiction
    intro hxl
    exact z ⟨x,hx,hxl⟩
   have h3:=fL (l:=y::l) (m:=o) (List.nodup_cons.mpr ⟨hyl,F.nd l hl⟩) fun w hw=>(List.mem_cons.mp hw).elim (fun z=>z ▸ hy) (h w)
   simp only [List.length_cons] at h3
   obtain⟨g,hg,hgo⟩:=ih o ho (by omega)
   exact⟨g,hg,fun x hx=>hgo x (h x hx)⟩
  ·refine⟨l,⟨hl,fun o ho h=>?_⟩,fun x h=>h⟩
   apply Classical.byContradiction
   intro hne
   exact c ⟨o,ho,h,hne⟩
theorem Gr.apart {vs:List Str}{js:List (List Str)}{J:Lt->Prop} (F:Fam vs js J) (hu:∀S T,J S->J T->(∃v∈vs,S v=true/\T v=true)->J (un S T)) {g g':List Str} (h:Gr js g) (h':Gr js g') {x:Str} (hx:x∈g) (hx':x∈g'):g=g':=by
 obtain⟨u,hu1,hu2⟩:=F.all _ (hu _ _ (F.mem g h.1) (F.mem g' h'.1) ⟨x,F.sub g h.1 x hx,decide_eq_true hx,decide_eq_true hx'⟩)
 have e1:=h.2 u hu1 fun y hy=>(hu2 y (F.sub g h.1 y hy)).mpr (by show (decide (y∈g) || decide (y∈g'))=true;rw [decide_eq_true hy];rfl)
 have e2:=h'.2 u hu1 fun y hy=>(hu2 y (F.sub g' h'.1 y hy)).mpr (by show (decide (y∈g) || decide (y∈g'))=true;rw [decide_eq_true hy,Bool.or_true])
 rw [<- e1,<- e2]
theorem kY {α β:Type} (f:α->β->Int):∀(gs:List α) (vs:List β),(gs.map fun g=>(vs.map fun v=>f g v).sum).sum=(vs.map fun v=>(gs.map fun g=>f g v).sum).sum
 | [],vs=>by
  induction vs with
  | nil=>rfl
  | cons x t ih=>rw [List.map_cons,List.sum_cons,<- ih];rfl
 | g::t,vs=>by
  rw [List.map_cons,List.sum_cons,kY f t vs,<- sum_add]
  rfl
theorem gn {α:Type}{f:α->Int}{l:List α} (h:∀x∈l,f x=0):(l.map f).sum=0:=by
 induction l with
 | nil=>rfl
 | cons x t ih=>rw [List.map_cons,List.sum_cons,h x List.mem_cons_self,ih fun y hy=>h y (List.mem_cons_of_mem _ hy)];rfl
theorem wO {vs:List Str}{p:Str->Int}{gs:List (List Str)} (hn:gs.Nodup) (ap:∀g∈gs,∀g'∈gs,∀x,x∈g->x∈g'->g=g') (nn:∀v∈vs,0<=p v) (cov:∀v∈vs,0 < p v->∃g∈gs,v∈g):(gs.map fun g=>pS vs p (inL g)).sum=(vs.map p).sum:=by
 unfold pS
 rw [kY (fun g v=>if inL g v=true then p v else 0)]
 refine eA fun v hv=>?_
 have key:∀l:List (List Str),l.Nodup->(∀g∈l,g∈gs)->(l.map fun g=>if inL g v=true then p v else 0).sum=if ∃g∈l,v∈g then p v else 0:=fun l=>by
  induction l with
  | nil=>intro _ _;simp
  | cons g t ih =>
   intro h k
   obtain⟨h1,h2⟩:=List.nodup_cons.mp h
   rw [List.map_cons,List.sum_cons]
   by_cases c:v∈g
   ·have z:(t.map fun g=>if inL g v=true then p v else 0).sum=0:=gn fun g' hg'=>by
     have:v∉g':=fun q=>h1 (by rw [ap g (k g List.mem_cons_self) g' (k g' (List.mem_cons_of_mem _ hg')) v c q];exact hg')
     show (if decide (v∈g')=true then p v else 0)=0
     simp [this]
    have e:(if ∃g'∈g::t,v∈g' then p v else 0)=p v:=if_pos ⟨g,List.mem_cons_self,c⟩
    rw [z,e]
    show (if decide (v∈g)=true then p v else 0) + 0=p v
    simp [c]
   ·rw [ih h2 fun g hg=>k g (List.mem_cons_of_mem _ hg)]
    have e:(∃g'∈g::t,v∈g') ↔ ∃g'∈t,v∈g':=⟨fun ⟨g',a,b⟩=>(List.mem_cons.mp a).elim (fun z=>absurd (z ▸ b) c) fun z=>⟨g',z,b⟩,fun ⟨g',a,b⟩=>⟨g',List.mem_cons_of_mem _ a,b⟩⟩
    show (if decide (v∈g)=true then p v else 0) + _=_
    simp only [c,decide_false,e]
    simp
 rw [key gs hn fun g h=>h]
 by_cases c:∃g∈gs,v∈g
 ·rw [if_pos c]
 ·rw [if_neg c]
  have:=nn v hv
  rcases Int.lt_or_le 0 (p v) with z | z
  ·exact absurd (cov v hv z) c
  ·omega
theorem mI (p:Str->Int) (x:Str):∀{vs:List Str},vs.Nodup->x∈vs->(vs.map fun v=>if v=x then p v else 0).sum=p x
 | y::t,hn,h=>by
  obtain⟨h1,h2⟩:=List.nodup_cons.mp hn
  rw [List.map_cons,List.sum_cons]
  by_cases c:y=x
  ·subst c
   rw [if_pos rfl,gn (f:=fun v=>if v=y then p v else 0) (fun v hv=>if_neg (show ¬ v=y from fun z=>h1 (z ▸ hv)))];omega
  ·rw [if_neg c,mI p x h2 ((List.mem_cons.mp h).resolve_left fun z=>c z.symm)];omega
theorem jk (p:Str->Int) {vs:List Str} (hn:vs.Nodup):∀{l:List Str},l.Nodup->(∀x∈l,x∈vs)->(l.map p).sum=pS vs p (inL l)
 | [],_,_=>(gn fun v _=>by simp).symm
 | x::t,h,k=>by
  obtain⟨h1,h2⟩:=List.nodup_cons.mp h
  rw [List.map_cons,List.sum_cons,jk p hn h2 fun y hy=>k y (List.mem_cons_of_mem _ hy),<- mI p x hn (k x List.mem_cons_self)]
  unfold pS
  rw [<- sum_add]
  refine eA fun v _=>?_
  by_cases c:v=x
  ·subst c
   simp [h1]
  ·simp [c]
theorem rY {vs:List Str}{p:Str->Int}{S T:Lt} (h:∀x∈vs,S x=T x):pS vs p S=pS vs p T:=eA fun v hv=>by rw [h v hv]
theorem qH {vs:List Str}{root:Str}{R:List Rw}{S T:Lt} (hR:∀r∈R,r.2.1∈root::vs/\r.2.2∈root::vs) (h0:S root=T root) (h:∀x∈vs,S x=T x):dS R S=dS R T:=eA fun r hr=>by
 have q:∀x∈root::vs,S x=T x:=fun x hx=>(List.mem_cons.mp hx).elim (fun z=>z ▸ h0) (h x)
 rw [q _ (hR r hr).1,q _ (hR r hr).2]
theorem vy (R:List Rw) (S:Lt):0<=dS R S:=by
 have:=gJ (f:=fun _:Rw=>(0:Int)) (g:=fun r=>if (S r.2.2 && !S r.2.1)=true then (1:Int) else 0) (l:=R) fun r _=>by
  show (0:Int)<=if (S r.2.2 && !S r.2.1)=true then (1:Int) else 0
  split <;> omega
 rw [gn (f:=fun _:Rw=>(0:Int)) (fun _ _=>rfl)] at this
 exact this
theorem vF {vs:List Str}{p:Str->Int} (nn:∀v∈vs,0<=p v) {S:Lt}:∀{v:Str},v∈vs->S v=true->p v<=pS vs p S:=by
 intro v hv hS
 unfold pS
 induction vs with
 | nil=>cases hv
 | cons x t ih =>
  rw [List.map_cons,List.sum_cons]
  have n0:=vG (vs:=t) (p:=p) (fun y hy=>nn y (List.mem_cons_of_mem _ hy)) S
  unfold pS at n0
  rcases List.mem_cons.mp hv with rfl | h
  ·rw [if_pos hS];omega
  ·have:=ih (fun y hy=>nn y (List.mem_cons_of_mem _ hy)) h
   have:=nn x List.mem_cons_self
   split <;> omega
structure jJ (vs:List Str) (root:Str) (ls:List (List Str)):Prop where
 sub:∀l∈ls,∀x∈l,x∈vs
 nd:∀l∈ls,l.Nodup
 ne:∀l∈ls,l≠[]
 all:∀S,Lot vs root S->∃l∈ls,∀x∈vs,(x∈l ↔ S x=true)
theorem jJ.lot {vs:List Str}{root:Str}{ls:List (List Str)} (L:jJ vs root ls) (hr:root∉vs) {l:List Str} (h:l∈ls):Lot vs root (inL l):=by
 refine⟨decide_eq_false fun z=>hr (L.sub l h root z),?_⟩
 cases l with
 | nil=>exact absurd rfl (L.ne _ h)
 | cons x t=>exact⟨x,L.sub _ h x List.mem_cons_self,decide_eq_true List.mem_cons_self⟩
section
variable (mx:List Int->Int) (sh:List Str->Int) (ls:List (List Str))
noncomputable def e8 (p:Str->Int) (v:Str):Int:=mx (0::(ls.filter fun l=>decide (v∈l)).map fun l=>sh l - (l.map p).sum + p v)
noncomputable def eE:List Str->(Str->Int)->Str->Int
 | [],p=>p
 | v::t,p=>eE t fun x=>if x=v then e8 mx sh ls p v else p x
theorem pO (v:Str):∀(t:List Str) (p:Str->Int),eE mx sh ls (t++[v]) p=fun x=>if x=v then e8 mx sh ls (eE mx sh ls t p) v else eE mx sh ls t p x
 | [],p=>rfl
 | y::t,p=>pO v t _
variable {mx ls}{R:List Rw}{many:Int}
theorem pC (hm:∀l:List Int,l≠[]->mx l∈l) (hle:∀(l:List Int) (x:Int),x∈l->x<=mx l) {vs:List Str}{root:Str} (hn:vs.Nodup) (hr:root∉vs) (hR:∀r∈R,r.2.1∈root::vs/\r.2.2∈root::vs) (L:jJ vs root ls) :
  ∀(todo:List Str) (done:List Str) (p:Str->Int),(∀v∈todo,v∈vs)->(∀v∈done,v∉todo)->todo.Nodup->dj vs root R many p->(∀v∈done,v∈vs/\(0 < p v->∃S,Lot vs root S/\S v=true/\Tight vs R many p S)) ->
   dj vs root R many (eE mx (fun l=>many - dS R (inL l)) ls todo p)/\∀v∈done++todo,0 < eE mx (fun l=>many - dS R (inL l)) ls todo p v->∃S,Lot vs root S/\S v=true/\Tight vs R many (eE mx (fun l=>many - dS R (inL l)) ls todo p) S
 | [],done,p,_,_,_,F,D=>⟨F,fun v hv=>by rw [List.append_nil] at hv;exact (D v hv).2⟩
 | v::t,done,p,hs,hd,hnt,F,D=>by
  obtain⟨n1,n2⟩:=List.nodup_cons.mp hnt
  have hv:=hs v List.mem_cons_self
  have mem:=hm (0::(ls.filter fun l=>decide (v∈l)).map fun l=>many - dS R (inL l) - (l.map p).sum + p v) (by simp)
  have same:∀S,Lot vs root S->∃l∈ls,(∀x∈vs,(x∈l ↔ S x=true))/\dS R S=dS R (inL l)/\pS vs p S=(l.map p).sum:=fun S hS=>by
   obtain⟨l,hl,h⟩:=L.all S hS
   have e:∀x∈vs,S x=inL l x:=fun x hx=>by
    show S x=decide (x∈l)
    cases c:S x with
    | true=>exact (decide_eq_true ((h x hx).mpr c)).symm
    | false=>exact (decide_eq_false fun z=>by rw [(h x hx).mp z] at c;cases c).symm
   refine⟨l,hl,h,qH hR ?_ e,?_⟩
   ·rw [hS.1];exact (decide_eq_false fun z=>hr (L.sub l hl root z)).symm
   ·rw [jk p hn (L.nd l hl) (L.sub l hl)];exact rY e
  obtain⟨F',le,keep,tight⟩:=F.step hn hv (m:=e8 mx (fun l=>many - dS R (inL l)) ls p v) (hle _ _ List.mem_cons_self) (fun S hS hSv=>by
   obtain⟨l,hl,h,e1,e2⟩:=same S hS
   rw [e1,e2]
   exact hle _ _ (List.mem_cons_of_mem _ (List.mem_map_of_mem (f:=fun l=>many - dS R (inL l) - (l.map p).sum + p v) (List.mem_filter.mpr ⟨hl,decide_eq_true ((h v hv).mpr hSv)⟩)))) (by
   rcases List.mem_cons.mp mem with z | z
   ·exact .inl z
   ·obtain⟨l,hl,e⟩:=List.mem_map.mp z
    obtain⟨hl1,hl2⟩:=List.mem_filter.mp hl
    refine .inr ⟨inL l,L.lot hr hl1,hl2,?_⟩
    rw [<- jk p hn (L.nd l hl1) (L.sub l hl1)]
    exact e.symm)
  have:=pC hm hle hn hr hR L t (done++[v]) (fun x=>if x=v then e8 mx (fun l=>many - dS R (inL l)) ls p v else p x) (fun x hx=>hs x (List.mem_cons_of_mem _ hx)) (fun x hx=>by
   rcases List.mem_append.mp hx with z | z
   ·exact fun q=>hd x z (List.mem_cons_of_mem _ q)
   ·rw [List.mem_singleton.mp z];exact n1) n2 F' (fun x hx=>by
   rcases List.mem_append.mp hx with z | z
   ·refine⟨(D x z).1,fun q=>?_⟩
    have ne:x≠v:=fun e=>hd x z (e ▸ List.mem_cons_self)
    have q':0 < p x:=by
     have q2:0 < (if x=v then e8 mx (fun l=>many - dS R (inL l)) ls p v else p x):=q
     rwa [if_neg ne] at q2
    obtain⟨S,a,b,c⟩:=(D x z).2 q'
    exact⟨S,a,b,keep S a c⟩
   ·have ex:=List.mem_singleton.mp z
    subst ex
    refine⟨hv,fun q=>tight ?_⟩
    have q2:0 < (if x=x then e8 mx (fun l=>many - dS R (inL l)) ls p x else p x):=q
    rwa [if_pos rfl] at q2)
  refine⟨this.1,fun x hx=>this.2 x ?_⟩
  rw [List.append_assoc]
  exact hx
theorem dj.start {vs:List Str}{root:Str} (h0:0<=many):dj vs root R many fun _=>many:=⟨fun _ _=>h0,fun S hS=>by
 obtain⟨_,v,hv,hSv⟩:=hS
 have:=vF (vs:=vs) (p:=fun _=>many) (fun _ _=>h0) hv hSv
 have:=vy R S
 omega⟩
end
end Mend
namespace K44
open PySem L2
noncomputable def top (i:Nat):Stmt:=PySem.Challenge.pw_rootshares_k44_whole_mended.main.body.getD i (.Pass ⟨0,0,0,0⟩)
theorem cF:bootBuiltins "isinstance"=some (.builtin "isinstance"):=by decide +kernel
theorem dG:bootBuiltins "all"=some (.builtin "all"):=by decide +kernel
theorem fK:bootBuiltins "sorted"=some (.builtin "sorted"):=by decide +kernel
theorem jq:bootBuiltins "max"=some (.builtin "max"):=by decide +kernel
theorem jm:bootBuiltins "min"=some (.builtin "min"):=by decide +kernel
theorem nv:bootBuiltins "str"=some (.type "str"):=by decide +kernel
theorem cz:bootBuiltins "tuple"=some (.type "tuple"):=by decide +kernel
theorem eS:bootBuiltins "list"=some (.type "list"):=by decide +kernel
theorem jn:bootBuiltins "int"=some (.type "int"):=by decide +kernel
theorem uO:bootBuiltins "bool"=some (.type "bool"):=by decide +kernel
theorem rg:bootBuiltins "divmod"=some (.builtin "divmod"):=by decide +kernel
theorem vM:bootBuiltins "set"=some (.type "set"):=by decide +kernel
structure Bl (mg:Str->Option Value):Prop where
 len:mg "len"=none
 isinstance:mg "isinstance"=none
 all:mg "all"=none
 range:mg "range"=none
 sorted:mg "sorted"=none
 repr:mg "repr"=none
 max:mg "max"=none
 min:mg "min"=none
 str:mg "str"=none
 tuple:mg "tuple"=none
 list:mg "list"=none
 int:mg "int"=none
 bool:mg "bool"=none
 zip:mg "zip"=none
 divmod:mg "divmod"=none
 abs:mg "abs"=none
 set:mg "set"=none
 enumerate:mg "enumerate"=none
 sum:mg "sum"=none
 most:∃t,mg "MOST_TREES"=some (.int 6 t)
 lng:∃t,mg "LONGEST_NAME"=some (.int 8 t)
noncomputable def Fn (P:Program) (w:World) (K:PySem.W.Frag) (mg:Str->Option Value) (base:Heap) (k:Nat) (x:Str) (ps:List Str) (sp:Sp):Prop :=
 ∃f fd,mg x=some (.ref f)/\PySem.W.keepIn K (.ref f)=true/\Binds K fd ps []/\aG P w K mg base CX0 k f fd ps sp
theorem aw {X:Cx}{k:Nat}{x:Str}{ps:List Str}{sp:Sp}{e:Expr}{es:List Expr}{t:TA}{p pos:Pos} (F:Fn X.prog X.w X.K X.mg X.base k x ps sp) (hr:aN k X.A) (ha:PA X (e::es) t) (hg:Gl X x:=by rfl)
  (hdb:(x == ("__debug__":Str))=false:=by decide) (he:starEach (e::es) X.env=(false,eval e X.env)::starEach es X.env:=by rfl) (hpl:(backTo pos (starEach es X.env)).any (·.1)=false:=by rfl) :
  PE X (.Call (.Name x p) (e::es) [] pos) (nA sp [] E0 t):=by
 obtain⟨f,fd,h1,h2,h3,h4⟩:=F
 exact tL h4 hr hg h1 h2 h3 .nil vi ha hdb he hpl
theorem aQ {X:Cx}{scope:Scope}{N:List Str}{C:Addr}{s0:Shared}{H0:Hp}{fp:List Addr}{x:Str}{pos:Pos} (i:Nat) (hN:N.Nodup) (hi:N[i]?=some x) (hx:scope.names.lookup x=some .local) :
  PG (au X scope N C s0 H0 fp) (.Name x pos) (bH i) :=
 aX (X:=au X scope N C s0 H0 fp) hN hi (.inl (lookup_relabel_local hx)) (.inr (lookup_relabel_local hx))
theorem gT {c A B:Prop} [Decidable c] (hc:c) (h:A):if decide c=true then A else B:=by
 rw [decide_eq_true hc];exact bJ h
theorem nB {c A B:Prop} [Decidable c] (hc:¬ c) (h:B):if decide c=true then A else B:=by
 rw [decide_eq_false hc];exact bb h
theorem vo {c A B:Prop} [Decidable c] (hc:¬ c) (h:A):if (!decide c)=true then A else B:=by
 rw [decide_eq_false hc];exact bJ h
theorem lt1 (a b:Nat):([a] < [b]) ↔ a < b:=by rw [List.cons_lt_cons_iff];simp
structure aE (x:Str):Prop where
 lo:1<=x.length
 hi:x.length<=8
 az:∀c∈x.cps.toList,97<=c/\c<=122
theorem aE.fits {x:Str} (h:aE x):x.length < sizeLine:=by have:=h.hi;rw [sizeLine_eq];omega
theorem aE.ascii {x:Str} (h:aE x):x.cps.all (· < 128)=true:=by
 rw [Array.all_eq_true']
 intro c hc
 have:=h.az c (by simpa using hc)
 simp;omega
section
variable {P:Program}{w:World}{K:PySem.W.Frag}{mg:Str->Option Value}{base:Heap}
noncomputable def ji:Sp:=fun vs H Q _=>∃x,vs=[.str x]/\aE x/\∀H',af H H'->Q (.bl true) H'
theorem sc8:aP ["thing"] ["thing"] (aC (top 8)):=⟨rfl,rfl,rfl,by decide +kernel,rfl,by decide +kernel,by decide +kernel⟩
theorem am {H H':Hp}{p:Addr}{o:HO} (h:af H H') (hp:H' p=none):af H (upd H' p o):=fun b ob e=>by
 rw [aj (aV (h b ob e) hp)];exact h b ob e
theorem o8 {f:Addr}{fd:FuncData} (F:Fun K "is_name" "is_name" (top 8) f fd) (B:Bl mg):aG P w K mg base CX0 1 f fd ["thing"] ji:=by
 refine F.ok sc8 (fun vs H Q E h=>?_) (fun cdv A outer s H vs Q E hr h=>?_)
 ·obtain⟨x,rfl,_⟩:=h
  rfl
 ·obtain⟨x,rfl,hx,k⟩:=h
  obtain⟨tl,hl⟩:=B.lng
  refine⟨_,ao (bh (PW.pt (dg (bL (bE (aA (cG (T:="str")) rfl B.isinstance cF (aa (pv 0) (aa (cH (v:=.ty "str") rfl B.str nv rfl) ae)))))
    (dY (bL (iH gL gL ai (aA jQ rfl B.len PySem.boot_len (aa (pv 0) ae)) (iX (v:=.int 8) rfl hl ⟨_,rfl⟩)))))) (ax (aI fb)) bf)
   (ax (aI (aA (dn rfl) rfl B.all dG (aa (bp (N:=["letter"]) (ix:=[none]) ⟨rfl,rfl,rfl,by decide⟩ rfl (ut (pv 0)) (fun _ _ _ _=>aQ 0 (by decide) rfl rfl) (fun _ _ _ _=>bc)
    (fun _ _ _ _=>qS kH kH ef (pv 0) ef)) ae)))),?_⟩
  refine⟨_,rfl,_,_,true,rfl,.str x,?kit,true,rfl,bb ?_⟩
  case kit=>rfl
  refine⟨_,rfl,x,rfl,Nat.le_of_lt hx.fits,_,_,rfl,rfl,_,rfl,gT (by have:=hx.lo;omega) ⟨_,_,rfl,rfl,_,rfl,?_⟩⟩
  refine fR (by have:=hx.hi;omega) ?_
  refine⟨_,rfl,x,rfl,hx.ascii,rO hx.fits (fun i ys σ H1=>ys=List.replicate i (.bl true)/\af H H1/\∃v,σ=[v]) ⟨rfl,af.refl _,_,rfl⟩ (fun i ys σ H1 _ q=>by rw [q.1];simp) ?_ ?_⟩
  ·rintro i c ys σ H1 hc ⟨rfl,hs,v,rfl⟩
   have hcm:=hx.az c (Array.mem_toList_iff.mpr (Array.mem_of_getElem? hc))
   refine⟨_,rfl,_,_,rfl,rfl,_,rfl,vo ?_ ⟨_,_,rfl,rfl,?_,hs,_,rfl⟩⟩
   ·show ¬ ([c] < [97])
    rw [lt1];omega
   ·have e:(!decide ([122] < [c]))=true:=by rw [decide_eq_false (by rw [lt1];omega)];rfl
    show _++[V.bl (!decide ([122] < [c]))]=_
    rw [e,List.replicate_succ']
  ·rintro ys σ H1 ⟨rfl,hs,v,rfl⟩ p hp
   refine⟨p,List.replicate x.length true,rfl,SqL.of (by rw [ag,List.map_replicate]),?_⟩
   have e:(List.replicate x.length true).all id=true:=by simp
   rw [e]
   exact k _ (am hs hp)
end
theorem b7 (K:PySem.W.Frag) {X:Cx} (h:X.K=K:=by rfl):IxR X (rIx K):=by subst h;exact aW
theorem gE (K:PySem.W.Frag) {X:Cx} (h:X.K=K:=by rfl):OpR X (compareOp .In) (rIn K false):=by subst h;exact fY
theorem fC (K:PySem.W.Frag) {X:Cx} (h:X.K=K:=by rfl):OpR X (compareOp .NotIn) (rIn K true):=by subst h;exact ij
theorem dZ {α:Type}{xs:List α}{z:Int}{j:Nat}{v:α} (hz:z=(j:Int)) (h:xs[j]?=some v):atI xs z=some v:=by subst hz;exact tN h
noncomputable def Sq (K:PySem.W.Frag) (H:Hp) (p:Addr) (xs:List V):Prop:=SqL K H p xs\/SqT K H p xs
theorem fI {K:PySem.W.Frag}{H H':Hp}{a:Addr}{xs:List V} (e:af H H') (h:SqT K H a xs):SqT K H' a xs:=by
 rcases h with (h | ⟨o,h⟩) | h
 ·exact .inl (.inl (e _ _ h))
 ·exact .inl (.inr ⟨o,e _ _ h⟩)
 ·exact .inr h
theorem Sq.same {K:PySem.W.Frag}{H H':Hp}{a:Addr}{xs:List V} (h:Sq K H a xs) (e:af H H'):Sq K H' a xs:=h.imp (fun z=>e.seq z) fun z=>fI e z
theorem aH {K:PySem.W.Frag}{H:Hp}{p:Addr}{xs:List V}{z:Int}{j:Nat}{v:V}{Q:VK} (h:Sq K H p xs) (hz:z=(j:Int)) (hx:xs[j]?=some v) (q:Q v H):rIx K (.ref p) (.int z) H Q :=
 h.elim (fun h=>.inl ⟨p,xs,z,v,rfl,rfl,h,dZ hz hx,q⟩) fun h=>.inr (.inl ⟨p,xs,z,v,rfl,rfl,h,dZ hz hx,q⟩)
theorem fits {n:Nat} (h:n<=1000):n < sizeLine:=pQ h
theorem strAt {ss:List Str}{i:Nat} (h:i < ss.length):(ss.map V.str)[i]?=some (.str ss[i]):=by rw [List.getElem?_map,List.getElem?_eq_getElem h];rfl
theorem cf (x:Str) (ss:List Str):inV (.str x) (ss.map V.str)=decide (x∈ss):=by
 unfold inV
 rw [List.any_map]
 rw [Bool.eq_iff_iff,List.any_eq_true,decide_eq_true_iff]
 constructor
 ·rintro⟨y,hy,e⟩
  have e':y=x:=by simpa [eqV] using e
  exact e' ▸ hy
 ·intro h
  exact⟨x,h,by simp [eqV]⟩
theorem b9 (ss:List Str):(ss.map V.str).all df=true:=by
 rw [List.all_map,List.all_eq_true]
 intro y _
 rfl
noncomputable abbrev Row:=Str×Str×Str
noncomputable def cB (H:Hp) (p:Addr) (r:Row):Prop:=H p=some (.tup [.str r.1,.str r.2.1,.str r.2.2])
noncomputable abbrev ar (rs:List (Addr×Row)):List V:=rs.map fun r=>V.ref r.1
structure bv (H:Hp) (v pa ra:Addr) (ps:List Str) (rs:List (Addr×Row)):Prop where
 tp:H v=some (.tup [.ref pa,.ref ra])
 pl:H pa=some (.tup (ps.map V.str))
 rl:H ra=some (.tup (ar rs))
 rows:∀r∈rs,cB H r.1 r.2
structure Good (ps:List Str) (rs:List Row):Prop where
 ne:ps≠[]
 nm:∀x∈ps,aE x
 so:ps.Pairwise nlt
 rn:∀r∈rs,aE r.1/\r.2.1∈ps/\r.2.2∈ps/\r.2.1≠r.2.2
 rso:(rs.map (·.1)).Pairwise nlt
 pz:ps.length<=100
 rz:rs.length<=60
theorem bv.same {H H':Hp}{v pa ra:Addr}{ps:List Str}{rs:List (Addr×Row)} (h:bv H v pa ra ps rs) (e:af H H'):bv H' v pa ra ps rs :=
 ⟨e _ _ h.tp,e _ _ h.pl,e _ _ h.rl,fun r hr=>e _ _ (h.rows r hr)⟩
section
variable {P:Program}{w:World}{K:PySem.W.Frag}{mg:Str->Option Value}{base:Heap}
noncomputable def iK (K:PySem.W.Frag):Sp:=fun vs H Q _=>∃(p:Addr) (ss:List Str),vs=[.ref p]/\Sq K H p (ss.map V.str)/\ss.Pairwise nlt/\ss.length<=1000/\∀H',af H H'->Q (.bl true) H'
theorem vR:aP ["names"] ["names"] (aC (top 10)):=⟨rfl,rfl,rfl,by decide +kernel,rfl,by decide +kernel,by decide +kernel⟩
theorem oB {f:Addr}{fd:FuncData} (F:Fun K "is_rising" "is_rising" (top 10) f fd) (B:Bl mg):aG P w K mg base CX0 1 f fd ["names"] (iK K):=by
 refine F.ok vR (fun vs H Q E h=>?_) (fun cdv A outer s H vs Q E hr h=>?_)
 ·obtain⟨p,ss,rfl,_⟩:=h
  rfl
 ·obtain⟨p,ss,rfl,hq,hp,hz,k⟩:=h
  refine⟨_,ax (aI (aA (dn rfl) rfl B.all dG (aa (bp (N:=["at","names"]) (ix:=[none,some 0]) ⟨rfl,rfl,rfl,by decide⟩ rfl
   (kA rfl B.range (aa ai (aa (aA bA rfl B.len PySem.boot_len (aa (pv 0) ae)) ae))) (fun _ _ _ _=>aQ 0 (by decide) rfl rfl) (fun _ _ _ _=>bc)
   (fun _ _ _ _=>b4 qo (aD (b7 K) (pv 1) (aB dw (pv 0) ai) (fun _ _=>rfl)) (aD (b7 K) (pv 1) (pv 0) (fun _ _=>rfl)) (ba _))) ae))),?_⟩
  have hz':(ss.map V.str).length<=1000:=by simpa using hz
  refine⟨_,rfl,p,ss.map V.str,rfl,hq,1,_,rfl,⟨by decide,by decide,by omega,by omega⟩,fB (fits (by omega)) (fun i ys σ H1=>ys=List.replicate i (.bl true)/\af H H1/\∃v,σ=[v,some (.ref p)])
   ⟨rfl,af.refl _,_,rfl⟩ (fun i ys σ H1 _ q=>by rw [q.1];simp) ?_ ?_⟩
  ·rintro i ys σ H1 hi ⟨rfl,hs,v,rfl⟩
   have hl:i + 1 < ss.length:=by rw [List.length_map] at hi;omega
   refine⟨_,rfl,_,rfl,_,_,rfl,rfl,aH (j:=i) (hq.same hs) (by omega) (strAt (by omega)) ⟨_,rfl,_,rfl,aH (j:=i + 1) (hq.same hs) (by push_cast;omega) (strAt hl) ⟨_,_,rfl,rfl,?_,hs,_,rfl⟩⟩⟩
   have e:ss[i].cps.toList < ss[i + 1].cps.toList:=List.pairwise_iff_getElem.mp hp i (i + 1) (by omega) hl (by omega)
   show _++[V.bl (decide (ss[i].cps.toList < ss[i + 1].cps.toList))]=_
   rw [decide_eq_true e,List.replicate_succ']
  ·rintro ys σ H1 ⟨rfl,hs,v,rfl⟩ q hqn
   refine⟨q,List.replicate _ true,rfl,SqL.of (by rw [ag,List.map_replicate]),?_⟩
   have e:∀n:Nat,(List.replicate n true).all id=true:=by simp
   rw [e]
   exact k _ (am hs hqn)
noncomputable def kQ:Sp:=fun vs H Q _=>∃(p:Addr) (ss:List Str),vs=[.ref p]/\H p=some (.tup (ss.map V.str))/\(∀x∈ss,aE x)/\ss.Pairwise nlt/\ss.length<=1000/\∀H',af H H'->Q (.bl true) H'
theorem wc:aP ["thing"] ["thing"] (aC (top 11)):=⟨rfl,rfl,rfl,by decide +kernel,rfl,by decide +kernel,by decide +kernel⟩
theorem oG {f:Addr}{fd:FuncData} (F:Fun K "is_sorted_names" "is_sorted_names" (top 11) f fd) (B:Bl mg) (F1:Fn P w K mg base 1 "is_name" ["thing"] ji) (F2:Fn P w K mg base 1 "is_rising" ["names"] (iK K)) :
  aG P w K mg base CX0 2 f fd ["thing"] kQ:=by
 refine F.ok wc (fun vs H Q E h=>?_) (fun cdv A outer s H vs Q E hr h=>?_)
 ·obtain⟨p,ss,rfl,_⟩:=h
  rfl
 ·obtain⟨p,ss,rfl,hp,hn,hs,hz,k⟩:=h
  refine⟨_,ao (bh (bL (bE (aA (cG (T:="tuple")) rfl B.isinstance cF (aa (pv 0) (aa (cH (v:=.ty "tuple") rfl B.tuple cz rfl) ae))))) (ax (aI fb)) bf)
   (ax (aI (cR (aA (dn rfl) rfl B.all dG (aa (bp (N:=["name"]) (ix:=[none]) ⟨rfl,rfl,rfl,by decide⟩ rfl (bW (pv 0)) (fun _ _ _ _=>aQ 0 (by decide) rfl rfl) (fun _ _ _ _=>bc)
    (fun _ _ _ _=>aw F1 hr (aa (pv 0) ae))) ae)) (dC (aw F2 hr (aa (pv 0) ae)))))),?_⟩
  refine⟨_,rfl,_,_,true,rfl,.tup hp,rfl,true,rfl,bb ?_⟩
  refine⟨_,rfl,p,rfl,⟨_,SqT.of hp⟩,dU (xs:=ss.map V.str) (fits (by simpa using hz)) (fun i ys σ H1=>ys=List.replicate i (.bl true)/\af H H1/\∃v,σ=[v]) ⟨rfl,af.refl _,_,rfl⟩
   (fun i ys σ H1 _ q=>⟨by rw [q.1];simp,fI q.2.1 (SqT.of hp)⟩) ?_ ?_⟩
  ·rintro i x ys σ H1 hx ⟨rfl,hs1,v,rfl⟩
   obtain⟨y,hy,rfl⟩:∃y∈ss,x=V.str y:=by
    obtain⟨y,e1,e2⟩:=List.mem_map.mp (List.mem_of_getElem? hx)
    exact⟨y,e1,e2.symm⟩
   exact⟨_,rfl,y,rfl,hn y hy,fun H2 hs2=>⟨by rw [List.replicate_succ'],hs1.trans hs2,_,rfl⟩⟩
  ·rintro ys σ H1 ⟨rfl,hs1,v,rfl⟩ q hqn
   refine⟨q,List.replicate _ true,rfl,SqL.of (by rw [ag,List.map_replicate]),_,rfl,?_⟩
   have e:∀n:Nat,(List.replicate n true).all id=true:=by simp
   rw [e]
   have hs2:=am (o:=.lst (List.replicate (ss.map V.str).length (.bl true))) hs1 hqn
   exact bJ ⟨_,rfl,p,ss,rfl,.inr (fI hs2 (SqT.of hp)),hs,hz,fun H3 hs3=>k _ (hs2.trans hs3)⟩
noncomputable def i0 (K:PySem.W.Frag):Sp:=fun vs H Q _=>∃(x:Str) (p:Addr) (ss:List Str),vs=[.str x,.ref p]/\Sq K H p (ss.map V.str)/\Q (.bl (decide (x∈ss))) H
theorem wB:aP ["thing","names"] ["thing","names"] (aC (top 12)):=⟨rfl,rfl,rfl,by decide +kernel,rfl,by decide +kernel,by decide +kernel⟩
theorem oU {f:Addr}{fd:FuncData} (F:Fun K "is_among" "is_among" (top 12) f fd) (B:Bl mg):aG P w K mg base CX0 1 f fd ["thing","names"] (i0 K):=by
 refine F.ok wB (fun vs H Q E h=>?_) (fun cdv A outer s H vs Q E hr h=>?_)
 ·obtain⟨x,p,ss,rfl,_⟩:=h
  rfl
 ·obtain⟨x,p,ss,rfl,hp,k⟩:=h
  refine⟨_,ax (aI (cR (aA (cG (T:="str")) rfl B.isinstance cF (aa (pv 0) (aa (cH (v:=.ty "str") rfl B.str nv rfl) ae)))
   (dC (b4 fY (pv 0) (pv 1) (by with_unfolding_all rfl))))),?_⟩
  refine⟨_,rfl,_,_,true,rfl,.str x,rfl,true,rfl,bJ ⟨_,rfl,_,rfl,p,ss.map V.str,rfl,hp,rfl,b9 ss,?_⟩⟩
  show Q (.bl (inV (.str x) (ss.map V.str))) H
  rw [cf]
  exact k
noncomputable def lj:Sp:=fun vs H Q _=>∃(p q:Addr) (r:Row) (ps:List Str),vs=[.ref p,.ref q]/\cB H p r/\H q=some (.tup (ps.map V.str))/\aE r.1/\r.2.1∈ps/\r.2.2∈ps/\r.2.1≠r.2.2/\∀H',af H H'->Q (.bl true) H'
theorem ig:aP ["thing","places","name","start","end"] ["thing","places"] (aC (top 13)):=⟨rfl,rfl,rfl,by decide +kernel,rfl,by decide +kernel,by decide +kernel⟩
theorem ot {f:Addr}{fd:FuncData} (F:Fun K "is_tie_row" "is_tie_row" (top 13) f fd) (B:Bl mg) (F1:Fn P w K mg base 1 "is_name" ["thing"] ji) (F2:Fn P w K mg base 1 "is_among" ["thing","names"] (i0 K)) :
  aG P w K mg base CX0 2 f fd ["thing","places"] lj:=by
 refine F.ok ig (fun vs H Q E h=>?_) (fun cdv A outer s H vs Q E hr h=>?_)
 ·obtain⟨p,q,r,ps,rfl,_⟩:=h
  rfl
 ·obtain⟨p,q,r,ps,rfl,hp,hq,h1,h2,h3,h4,k⟩:=h
  have hp':H p=some (.tup [.str r.1,.str r.2.1,.str r.2.2]):=hp
  refine⟨_,ao (bh (PW.pt (dg (bL (bE (aA (cG (T:="tuple")) rfl B.isinstance cF (aa (pv 0) (aa (cH (v:=.ty "tuple") rfl B.tuple cz rfl) ae)))))
    (dY (aZ dH (aA bA rfl B.len PySem.boot_len (aa (pv 0) ae)) ai (ba _))))) (ax (aI fb)) bf)
   (ao (dA (pv 0) (c9 rfl (n:=3) (bB (aX (i:=2) ig.nd rfl (Or.inl rfl)) (bB (aX (i:=3) ig.nd rfl (Or.inl rfl)) (bB (aX (i:=4) ig.nd rfl (Or.inl rfl)) cI)))))
   (ax (aI (cR (aw F1 hr (aa (pv 2) ae)) (cR (aw F2 hr (aa (pv 3) (aa (pv 1) ae))) (cR (aw F2 hr (aa (pv 4) (aa (pv 1) ae))) (dC (b4 dH (pv 3) (pv 4) (ba _))))))))),?_⟩
  refine⟨_,rfl,_,_,true,rfl,.tup hp',rfl,true,rfl,bb ⟨_,rfl,p,_,rfl,.inr (SqT.of hp'),rfl,_,rfl,fR rfl ?_⟩⟩
  refine⟨_,rfl,p,_,rfl,SqT.of hp',rfl,_,_,rfl,_,_,rfl,_,_,rfl,rfl,?_⟩
  refine⟨_,rfl,r.1,rfl,h1,fun H1 s1=>⟨true,rfl,bJ ⟨_,rfl,_,rfl,r.2.1,q,ps,rfl,.inr (fI s1 (SqT.of hq)),_,rfl,gT h2 ⟨_,rfl,_,rfl,r.2.2,q,ps,rfl,.inr (fI s1 (SqT.of hq)),_,rfl,gT h3 ⟨_,rfl,_,rfl,rfl,?_⟩⟩⟩⟩⟩
  have e:(!decide (V.str r.2.1=V.str r.2.2))=true:=by
   rw [decide_eq_false (fun z=>h4 (V.str.inj z))];rfl
  rw [e]
  exact k H1 s1
end
theorem jO {α β:Type} (f:α->β) (l:List α) (i:Nat) (x:α) (h:l[i]?=some x):(l.take (i + 1)).map f=(l.take i).map f++[f x]:=by
 rw [List.take_add_one,h];simp
theorem dm {rs:List (Addr×Row)}{i:Nat}{x:V} (h:(ar rs)[i]?=some x):∃r,rs[i]?=some r/\x=.ref r.1:=by
 unfold ar at h
 rw [List.getElem?_map] at h
 cases e:rs[i]? with
 | none=>rw [e] at h;cases h
 | some r=>rw [e] at h;exact⟨r,rfl,(Option.some.inj h).symm⟩
section
variable {P:Program}{w:World}{K:PySem.W.Frag}{mg:Str->Option Value}{base:Heap}
noncomputable def fS (r:V):Sp:=fun vs H Q _=>∃(v pa ra:Addr) (ps:List Str) (rs:List (Addr×Row)),vs=[.ref v]/\bv H v pa ra ps rs/\Good ps (rs.map (·.2))/\∀H',af H H'->Q r H'
theorem jF:aP ["thing","places","rows"] ["thing"] (aC (top 14)):=⟨rfl,rfl,rfl,by decide +kernel,rfl,by decide +kernel,by decide +kernel⟩
theorem p9 {f:Addr}{fd:FuncData} (F:Fun K "is_web" "is_web" (top 14) f fd) (B:Bl mg) (F1:Fn P w K mg base 2 "is_sorted_names" ["thing"] kQ) (F2:Fn P w K mg base 2 "is_tie_row" ["thing","places"] lj)
  (F3:Fn P w K mg base 1 "is_rising" ["names"] (iK K)):aG P w K mg base CX0 3 f fd ["thing"] (fS (.bl true)):=by
 refine F.ok jF (fun vs H Q E h=>?_) (fun cdv A outer s H vs Q E hr h=>?_)
 ·obtain⟨v,pa,ra,ps,rs,rfl,_⟩:=h
  rfl
 ·obtain⟨v,pa,ra,ps,rs,rfl,W,G,k⟩:=h
  have hr1:aN 1 _:=hr.mono (by decide)
  refine⟨_,ao (bh (PW.pt (dg (bL (bE (aA (cG (T:="tuple")) rfl B.isinstance cF (aa (pv 0) (aa (cH (v:=.ty "tuple") rfl B.tuple cz rfl) ae)))))
    (dY (aZ dH (aA bA rfl B.len PySem.boot_len (aa (pv 0) ae)) ai (ba _))))) (ax (aI fb)) bf)
   (ao (dA (pv 0) (c9 rfl (n:=2) (bB (aX (i:=1) jF.nd rfl (Or.inr rfl)) (bB (aX (i:=2) jF.nd rfl (Or.inl rfl)) cI))))
   (ao (bh (PW.pt (dg (bL (bE (aw F1 hr (aa (pv 1) ae)))) (dg (aZ dE (aA bA rfl B.len PySem.boot_len (aa (pv 1) ae)) ai (ba _))
    (dY (bL (bE (aA (cG (T:="tuple")) rfl B.isinstance cF (aa (pv 2) (aa (cH (v:=.ty "tuple") rfl B.tuple cz rfl) ae))))))))) (ax (aI fb)) bf)
   (ax (aI (cR (aA (dn rfl) rfl B.all dG (aa (bp (N:=["row","places"]) (ix:=[none,some 1]) ⟨rfl,rfl,rfl,by decide⟩ rfl (bW (pv 2)) (fun _ _ _ _=>aQ 0 (by decide) rfl rfl) (fun _ _ _ _=>bc)
    (fun _ _ _ _=>aw F2 hr (aa (pv 0) (aa (pv 1) ae)))) ae))
    (dC (aw F3 hr1 (aa (bp (N:=["row"]) (ix:=[none]) ⟨rfl,rfl,rfl,by decide⟩ rfl (bW (pv 2)) (fun _ _ _ _=>aQ 0 (by decide) rfl rfl) (fun _ _ _ _=>bc)
     (fun _ _ _ _=>aD (b7 K) (pv 0) ai (fun _ _=>rfl))) ae)))))))),?_⟩
  have hlen:(ar rs).length<=1000:=by have:=G.rz;simp at this ⊢;omega
  refine⟨_,rfl,_,_,true,rfl,.tup W.tp,rfl,true,rfl,bb ⟨_,rfl,v,_,rfl,.inr (SqT.of W.tp),rfl,_,rfl,fR rfl ?_⟩⟩
  refine⟨_,rfl,v,_,rfl,SqT.of W.tp,rfl,_,_,rfl,_,_,rfl,rfl,?_⟩
  refine⟨_,rfl,pa,ps,rfl,W.pl,G.nm,G.so,by have:=G.pz;omega,fun H1 s1=>⟨true,rfl,bb ?_⟩⟩
  refine⟨_,rfl,pa,_,rfl,.inr (SqT.of (s1 _ _ W.pl)),rfl,_,rfl,nB ?_ ?_⟩
  ·intro z
   have z':((ps.map V.str).length:Int)=0:=V.int.inj z
   have:ps.length≠0:=fun q=>G.ne (List.length_eq_zero_iff.mp q)
   rw [List.length_map] at z'
   omega
  refine⟨_,rfl,_,_,true,rfl,.tup (s1 _ _ W.rl),rfl,true,rfl,bb ?_⟩
  refine⟨_,rfl,ra,rfl,⟨_,SqT.of (s1 _ _ W.rl)⟩,dU (xs:=ar rs) (fits hlen) (fun i ys σ H2=>ys=List.replicate i (.bl true)/\af H H2/\∃x,σ=[x,some (.ref pa)]) ⟨rfl,s1,_,rfl⟩
   (fun i ys σ H2 _ q=>⟨by rw [q.1];simp,SqT.of (q.2.1 _ _ W.rl)⟩) ?_ ?_⟩
  ·rintro i x ys σ H2 hx ⟨rfl,s2,y,rfl⟩
   obtain⟨r,hr',rfl⟩:=dm hx
   have hm:=List.mem_of_getElem? hr'
   obtain⟨g1,g2,g3,g4⟩:=G.rn r.2 (List.mem_map_of_mem hm)
   exact⟨_,rfl,_,rfl,r.1,pa,r.2,ps,rfl,s2 _ _ (W.rows r hm),s2 _ _ W.pl,g1,g2,g3,g4,fun H3 s3=>⟨by rw [List.replicate_succ'],s2.trans s3,_,rfl⟩⟩
  ·rintro ys σ H2 ⟨rfl,s2,y,rfl⟩ q hqn
   have s3:=am (o:=.lst (List.replicate (ar rs).length (.bl true))) s2 hqn
   refine⟨q,List.replicate _ true,rfl,SqL.of (by rw [ag,List.map_replicate]),_,rfl,?_⟩
   have e:∀n:Nat,(List.replicate n true).all id=true:=by simp
   rw [e]
   refine bJ ⟨_,rfl,ra,rfl,⟨_,SqT.of (s3 _ _ W.rl)⟩,dU (xs:=ar rs) (fits hlen) (fun i ys σ H4=>ys=((rs.take i).map fun r=>V.str r.2.1)/\af H H4/\∃x,σ=[x]) ⟨rfl,s3,_,rfl⟩
    (fun i ys σ H4 _ q=>⟨by rw [q.1];simp;omega,SqT.of (q.2.1 _ _ W.rl)⟩) ?_ ?_⟩
   ·rintro i x ys σ H4 hx ⟨rfl,s4,z,rfl⟩
    obtain⟨r,hr',rfl⟩:=dm hx
    have hm:=List.mem_of_getElem? hr'
    exact⟨_,rfl,aH (j:=0) (.inr (SqT.of (s4 _ _ (W.rows r hm)))) rfl rfl ⟨(jO _ _ _ _ hr').symm,s4,_,rfl⟩⟩
   ·rintro ys σ H4 ⟨rfl,s4,z,rfl⟩ q2 hq2
    refine⟨q2,rs.map (·.2.1),rfl,.inl (SqL.of (by rw [ag];simp)),?_,by simpa using hlen,fun H5 s5=>k _ ((am s4 hq2).trans s5)⟩
    have:=G.rso
    rw [List.map_map] at this
    exact this
end
theorem ck {α:Type} (p:α->Bool) (l:List α) (i:Nat) (x:α) (h:l[i]?=some x):(l.take (i + 1)).filter p=(l.take i).filter p++(if p x then [x] else []):=by
 rw [List.take_add_one,h,List.filter_append]
 simp only [Option.toList_some,List.filter_cons,List.filter_nil]
theorem take_all {α:Type} (l:List α) {n:Nat} (h:n=l.length):l.take n=l:=by subst h;exact List.take_length
noncomputable abbrev nms (rs:List (Addr×Row)):List Str:=rs.map (·.2.1)
theorem iz {α β:Type} (f:α->β):∀(l':List β) (l:List α),l'.Perm (l.map f)->∃l'':List α,l''.Perm l/\l''.map f=l'
 | [],l,h=>by
  have:l=[]:=by simpa using h.length_eq.symm
  subst this
  exact⟨[],.refl _,rfl⟩
 | b::t,l,h=>by
  obtain⟨a,ha,rfl⟩:=List.mem_map.mp (h.mem_iff.mp List.mem_cons_self)
  obtain⟨u,v,rfl⟩:=List.append_of_mem ha
  have h2:(f a::t).Perm (f a::(u++v).map f):=by
   refine h.trans ?_
   rw [List.map_append,List.map_cons,List.map_append]
   exact List.perm_middle
  obtain⟨w,hw,e⟩:=iz f t (u++v) h2.cons_inv
  exact⟨a::w,(hw.cons a).trans List.perm_middle.symm,by rw [List.map_cons,e]⟩
structure xf (ps ls:List Str):Prop where
 ne:ls≠[]
 nm:∀x∈ls,aE x
 so:ls.Pairwise nlt
 sub:∀x∈ls,x∈ps
 z:ls.length<=100
theorem dR {ss:List Str} (h:ss.Pairwise nlt):ss.Nodup:=h.imp fun {a b} hab e=>by
 subst e;exact absurd hab (List.lt_irrefl _)
theorem gg (rs:List (Addr×Row)):refs (rs.map fun r=>(r.1,r.2.1))=ar rs:=by
 unfold refs ar
 rw [List.map_map]
 rfl
theorem i5 (K:PySem.W.Frag) {X:Cx}{es:List Expr}{k:Nat}{t:TGs}{n:Nat}{pos:Pos} (hc:X.calm=true) (h:PGs X es t) (hK:X.K=K:=by rfl) (hn:(assignEach es X.env).length=n:=by rfl) (hst:(assignEach es X.env).findIdx? (·.1)=none:=by rfl) :
  PG X (.Tuple es k pos) (nG K n t):=by subst hK;exact c9 hc h hn hst
section
variable {P:Program}{w:World}{K:PySem.W.Frag}{mg:Str->Option Value}{base:Heap}
theorem vX:aP ["thing"] ["thing"] (aC (top 15)):=⟨rfl,rfl,rfl,by decide +kernel,rfl,by decide +kernel,by decide +kernel⟩
theorem oO {f:Addr}{fd:FuncData} (F:Fun K "need_web" "need_web" (top 15) f fd) (F1:Fn P w K mg base 3 "is_web" ["thing"] (fS (.bl true))):aG P w K mg base CX0 4 f fd ["thing"] (fS .non):=by
 refine F.ok vX (fun vs H Q E h=>?_) (fun cdv A outer s H vs Q E hr h=>?_)
 ·obtain⟨v,pa,ra,ps,rs,rfl,_⟩:=h
  rfl
 ·obtain⟨v,pa,ra,ps,rs,rfl,W,G,k⟩:=h
  refine⟨_,ax (bh (bL (bE (aw F1 hr (aa (pv 0) ae)))) cx bf),?_⟩
  exact⟨_,rfl,v,pa,ra,ps,rs,rfl,W,G,fun H1 s1=>⟨true,rfl,bb (k H1 s1)⟩⟩
noncomputable def lead (ls:List Str) (r:Addr×Row):Bool:=decide (r.2.2.2∈ls) && !decide (r.2.2.1∈ls)
noncomputable def jf:Sp:=fun vs H Q _=>∃(l:Addr) (r:Addr×Row) (ls:List Str),vs=[.ref r.1,.ref l]/\cB H r.1 r.2/\H l=some (.tup (ls.map V.str))/\Q (.bl (lead ls r)) H
theorem wz:aP ["row","lot"] ["row","lot"] (aC (top 18)):=⟨rfl,rfl,rfl,by decide +kernel,rfl,by decide +kernel,by decide +kernel⟩
theorem ou {f:Addr}{fd:FuncData} (F:Fun K "leads_into" "leads_into" (top 18) f fd):aG P w K mg base CX0 1 f fd ["row","lot"] jf:=by
 refine F.ok wz (fun vs H Q E h=>?_) (fun cdv A outer s H vs Q E hr h=>?_)
 ·obtain⟨l,r,ls,rfl,_⟩:=h
  rfl
 ·obtain⟨l,r,ls,rfl,hrow,hl,k⟩:=h
  refine⟨_,ax (aI (cR (b4 fY (aD aW (pv 0) ai (fun _ _=>rfl)) (pv 1) (by with_unfolding_all rfl)) (dC (b4 ij (aD aW (pv 0) ai (fun _ _=>rfl)) (pv 1) (by with_unfolding_all rfl))))),?_⟩
  have hS:Sq K H l (ls.map V.str):=.inr (SqT.of hl)
  refine⟨_,rfl,aH (j:=2) (.inr (SqT.of hrow)) rfl rfl ⟨_,rfl,l,ls.map V.str,rfl,hS,rfl,b9 ls,?_⟩⟩
  have e1:(inV (.str r.2.2.2) (ls.map V.str))=decide (r.2.2.2∈ls):=cf _ _
  have e2:(inV (.str r.2.2.1) (ls.map V.str))=decide (r.2.2.1∈ls):=cf _ _
  refine⟨inV (.str r.2.2.2) (ls.map V.str),rfl,?_⟩
  rw [e1]
  refine be (fun c=>⟨_,rfl,aH (j:=1) (.inr (SqT.of hrow)) rfl rfl ⟨_,rfl,l,ls.map V.str,rfl,hS,rfl,b9 ls,?_⟩⟩) (fun c=>?_)
  ·show Q (.bl (!inV (.str r.2.2.1) (ls.map V.str))) H
   rw [e2]
   have:lead ls r=!decide (r.2.2.1∈ls):=by unfold lead;rw [c];rfl
   rw [<- this];exact k
  ·simp only [Bool.not_eq_true] at c
   have:lead ls r=false:=by unfold lead;rw [c];rfl
   rw [this] at k
   first | exact k | (rw [c];exact k) | skip
noncomputable def iq:Sp:=fun vs H Q _=>∃(v pa ra:Addr) (ps:List Str) (rs:List (Addr×Row)) (x:Str),vs=[.ref v,.str x]/\bv H v pa ra ps rs/\x∈ps/\Q .non H
theorem vW:aP ["web","thing"] ["web","thing"] (aC (top 17)):=⟨rfl,rfl,rfl,by decide +kernel,rfl,by decide +kernel,by decide +kernel⟩
theorem oo {f:Addr}{fd:FuncData} (F:Fun K "need_place" "need_place" (top 17) f fd) (F1:Fn P w K mg base 1 "is_among" ["thing","names"] (i0 K)):aG P w K mg base CX0 2 f fd ["web","thing"] iq:=by
 refine F.ok vW (fun vs H Q E h=>?_) (fun cdv A outer s H vs Q E hr h=>?_)
 ·obtain⟨v,pa,ra,ps,rs,x,rfl,_⟩:=h
  rfl
 ·obtain⟨v,pa,ra,ps,rs,x,rfl,W,hx,k⟩:=h
  refine⟨_,ax (bh (bL (bE (aw F1 hr (aa (pv 1) (aa (aD aW (pv 0) ai (fun _ _=>rfl)) ae))))) cx bf),?_⟩
  exact⟨_,rfl,_,rfl,aH (j:=0) (.inr (SqT.of W.tp)) rfl rfl ⟨x,pa,ps,rfl,.inr (SqT.of W.pl),_,rfl,fR hx k⟩⟩
end
theorem af.upd0 {H H':Hp}{q:Addr}{o:HO} (h:af H H') (hq:H q=none):af H (upd H' q o):=fun b ob e=>by
 rw [aj (aV e hq)];exact h b ob e
theorem lt0 {k:Nat}{A:Around} (r:aN k A):A.units < cLine:=by have:=r.un;omega
theorem cC {k:Nat}{A:Around} (r:aN k A):A.units + 1 < cLine:=by have:=r.un;omega
noncomputable def Pot (H:Hp) (p:Addr):Prop:=∃a b,H p=some (.lst [.int a,.int b])/\0<=b/\b < 2147483629
noncomputable def Kp (P:List Addr) (H H':Hp):Prop:=∀b o,H b=some o->b∉P->H' b=some o
theorem Kp.refl (P:List Addr) (H:Hp):Kp P H H:=fun _ _ h _=>h
theorem Kp.trans {P:List Addr}{H H1 H2:Hp} (a:Kp P H H1) (b:Kp P H1 H2):Kp P H H2:=fun c o h n=>b c o (a c o h n) n
theorem Kp.of_same {P:List Addr}{H H1 H2:Hp} (a:Kp P H H1) (b:af H1 H2):Kp P H H2:=fun c o h n=>b c o (a c o h n)
theorem Kp.inn {P:List Addr}{H H1:Hp}{p:Addr}{o:HO} (a:Kp P H H1) (hp:p∈P):Kp P H (upd H1 p o):=fun c ob h n=>by rw [aj (show c≠p from fun z=>n (by rw [z];exact hp))];exact a c ob h n
theorem Kp.new {P:List Addr}{H H1:Hp}{p:Addr}{o:HO} (a:Kp P H H1) (hp:H1 p=none):Kp P H (upd H1 p o):=fun c ob h n=>by rw [aj (aV (a c ob h n) hp)];exact a c ob h n
noncomputable def cJ:Str:=Str.ofString "abcdefghijklmnopqrstuvwxyz"
theorem oS:∀r:_root_.Fin 26,cJ.cps.toList[r.val]?=some (97 + r.val):=by decide +kernel
theorem fE {r:Nat} (h:r < 26):cJ.cps.toList[r]?=some (97 + r):=oS ⟨r,h⟩
theorem fu:cJ.length<=sizeLine:=by decide
theorem join_one (cs:List Nat):(Txt.join (Str.ofString "") (cs.map fun c=>(⟨#[c]⟩:Str))).cps.toList=cs:=by
 have e0:(Str.ofString "").cps=#[]:=by decide
 show (Builtin.Str.glued (Str.ofString "") _).cps.toList=cs
 rw [StrLaws.glued_eq_join]
 induction cs with
 | nil=>rfl
 | cons c t ih =>
  cases t with
  | nil=>rfl
  | cons d r =>
   show (((⟨#[c]⟩:Str)++Str.ofString ""++Str.join (Str.ofString "") ((d::r).map fun c=>(⟨#[c]⟩:Str))).cps).toList=_
   rw [Str.cps_append,Str.cps_append,e0,Array.toList_append,Array.toList_append,ih]
   rfl
theorem aE.of_codes {x:Str}{l:List Nat} (e:x.cps.toList=l) (h1:1<=l.length) (h8:l.length<=8) (h:∀c∈l,97<=c/\c<=122):aE x:=by
 have hl:x.length=l.length:=by rw [<- e];simp [Str.length]
 exact⟨by omega,by omega,by rw [e];exact h⟩
theorem fQ {H:Hp}{p t:Addr}{ss:List Str} (h1:Pot H p) (h2:H t=some (.lst (ss.map V.str))):t≠p:=by
 rintro rfl
 obtain⟨a,b,e,_⟩:=h1
 rw [e] at h2
 have h3:=HO.lst.inj (Option.some.inj h2)
 cases ss with
 | nil=>cases h3
 | cons x r=>rw [List.map_cons] at h3;cases List.cons.inj h3 |>.1
theorem kf:∀(r:List Str) (x:Str),PyProof.Rows.risingS x r=true->(x::r).Nodup->(x::r).Pairwise nlt
 | [],x,_,_=>by simp
 | y::r,x,h,hn=>by
  have h':(!PySem.Spec.ltCps y.cps.toList x.cps.toList && PyProof.Rows.risingS y r)=true:=h
  rw [Bool.and_eq_true,PyProof.Rows.ltCps_eq] at h'
  have hn':=List.nodup_cons.mp hn
  have ih:=kf r y h'.2 hn'.2
  have hxy:nlt x y:=by
   rcases gx (fun e=>hn'.1 (e ▸ List.mem_cons_self):x≠y) with z | z
   ·exact z
   ·rw [decide_eq_true z] at h'
    exact absurd h'.1 (by simp)
  refine List.pairwise_cons.mpr ⟨fun z hz=>?_,ih⟩
  rcases List.mem_cons.mp hz with rfl | hz
  ·exact hxy
  ·exact List.lt_trans hxy ((List.pairwise_cons.mp ih).1 z hz)
theorem qv {ss:List Str} (h:PyProof.Rows.sortedS ss=true) (hn:ss.Nodup):ss.Pairwise nlt:=by
 cases ss with
 | nil=>exact .nil
 | cons x r=>exact kf r x h hn
theorem Kp.free {P:List Addr}{H H':Hp} (k:Kp P H H') (hP:∀b∈P,∃o,H' b=some o) {q:Addr} (hq:H' q=none):H q=none:=by
 cases e:H q with
 | none=>rfl
 | some o =>
  by_cases hm:q∈P
  ·obtain⟨o',e'⟩:=hP q hm
   rw [hq] at e';cases e'
  ·rw [k q o e hm] at hq;cases hq
theorem Pot.some {H:Hp}{p:Addr} (h:Pot H p):∃o,H p=some o:=let ⟨a,b,e,_⟩:=h;⟨_,e⟩
theorem Pot.keep {H H':Hp}{p:Addr} (h:Pot H p) (e:∀o,H p=Option.some o->H' p=Option.some o):Pot H' p:=let ⟨a,b,q,r⟩:=h;⟨a,b,e _ q,r⟩
theorem tup_ne {H:Hp}{a b:Addr}{xs ys:List V} (h1:H a=some (.tup xs)) (h2:H b=some (.lst ys)):a≠b:=eZ h1 h2 (by intro z;cases z)
theorem uG {H H':Hp}{P:List Addr}{b:Addr}{xs:List V} (k:Kp P H H') (hP:∀c∈P,∃ys,H c=some (.lst ys)) (e:H b=some (.tup xs)):H' b=some (.tup xs) :=
 k b _ e fun hb=>by
  obtain⟨ys,e'⟩:=hP b hb
  exact tup_ne e e' rfl
theorem Pot.lst {H:Hp}{p:Addr} (h:Pot H p):∃ys,H p=Option.some (HO.lst ys):=let ⟨a,b,e,_⟩:=h;⟨_,e⟩
theorem qR {x:Str} (h:aE x):PyData.strOk x=true:=by
 unfold PyData.strOk
 rw [Array.all_eq_true']
 intro c hc
 have:=h.az c (by simpa using hc)
 simp;omega
theorem iJ {ss:List Str} (h:∀x∈ss,aE x):PyData.canLayAll0 (ss.map PyData.str)=true/\PyData.depthAll (ss.map PyData.str)=0:=by
 induction ss with
 | nil=>exact⟨rfl,rfl⟩
 | cons x t ih =>
  have:=ih fun y hy=>h y (List.mem_cons_of_mem _ hy)
  rw [List.map_cons]
  simp only [PyData.canLayAll0,PyData.canLay0,PyData.depthAll,PyData.depth,qR (h x List.mem_cons_self),this.1,this.2]
  exact⟨rfl,rfl⟩
theorem cN {ss:List Str} (h:∀x∈ss,aE x):SeqAt.shaped (.list (ss.map PyData.str))=true/\SeqAt.shaped (.tuple (ss.map PyData.str))=true:=by
 have q:=iJ h
 unfold SeqAt.shaped
 simp only [PyData.canLay0,PyData.depth,q.1,q.2]
 exact⟨by decide,by decide⟩
theorem fw:∀(a b:List Str),PyData.eqvAll (a.map PyData.str) (b.map PyData.str)=decide (a=b)
 | [],[]=>by simp [PyData.eqvAll]
 | [],y::t=>by simp [PyData.eqvAll]
 | x::s,[]=>by simp [PyData.eqvAll]
 | x::s,y::t=>by
  simp only [List.map_cons,PyData.eqvAll,PyData.eqv,fw s t]
  rw [Bool.eq_iff_iff]
  simp
theorem Pot.ne_new {H:Hp}{p q:Addr} (h:Pot H p) (hq:H q=none):q≠p:=fun z=>by obtain⟨o,e⟩:=h.some;rw [<- z,hq] at e;cases e
theorem Pot.upd {H:Hp}{p q:Addr}{o:HO} (h:Pot H p) (hq:q≠p):Pot (upd H q o) p:=h.keep fun ob e=>by rw [aj hq.symm];exact e
theorem Pot.new {H:Hp}{p q:Addr}{o:HO} (h:Pot H p) (hq:H q=none):Pot (L2.upd H q o) p:=h.upd (h.ne_new hq)
theorem Kp.free1 {p q:Addr}{H H1:Hp} (k:Kp [p] H H1) (hp:Pot H1 p) (hq:H1 q=none):H q=none:=k.free (fun b hb=>by
 have e:b=p:=by simpa using hb
 subst e;exact hp.some) hq
theorem Kp.tup {p b:Addr}{H H1:Hp}{xs:List V} (k:Kp [p] H H1) (hp:Pot H p) (e:H b=some (.tup xs)):H1 b=some (.tup xs):=uG k (fun c hc=>by
 have e:c=p:=by simpa using hc
 subst e;exact hp.lst) e
theorem Kp.at {p b:Addr}{H H1:Hp}{o:HO} (k:Kp [p] H H1) (hb:b≠p) (e:H b=some o):H1 b=some o:=k _ _ e (by simpa using hb)
section
variable {P:Program}{w:World}{K:PySem.W.Frag}{mg:Str->Option Value}{base:Heap}
noncomputable def ni (K:PySem.W.Frag):Sp:=fun vs H Q _=>∃(a:Addr) (ns:List Int) (k:Int),vs=[.ref a,.int k]/\SqL K H a (ns.map V.int)/\0<=k/\k<=100/\∀q H',af H H'->H q=none->Pot H' q->Q (.ref q) H'
theorem nO:aP ["_law_script","_law_k","_law_cell"] ["_law_script","_law_k"] (aC (top 37)):=⟨rfl,rfl,rfl,by decide +kernel,rfl,by decide +kernel,by decide +kernel⟩
theorem uY {f:Addr}{fd:FuncData} (F:Fun K "_law_pot" "_law_pot" (top 37) f fd) (B:Bl mg):aG P w K mg base CX0 1 f fd ["_law_script","_law_k"] (ni K):=by
 refine F.ok nO (fun vs H Q E h=>?_) (fun cdv A outer s H vs Q E hr h=>?_)
 ·obtain⟨a,ns,k,rfl,_⟩:=h
  rfl
 ·obtain⟨a,ns,k,rfl,ha,hk,hk2,q⟩:=h
  refine⟨_,ao (aL (i:=2) nO.nd rfl (Or.inl rfl) (kS (aZ fg (pv 1) (aA bA rfl B.len PySem.boot_len (aa (pv 0) ae)) (ba _)) (aD aW (pv 0) (pv 1) (fun _ _=>rfl)) ai))
   (ax (aI (bD (aa (aA (kq rfl) rfl B.max jq (aa ai (aa (aB dw (pv 2) (aB uX ai ai)) ae)))
    (aa (aB da (aB bU (aB bU (aB eU (pv 2) ai) (aB eU ai (pv 1))) ai) ai) ae))))),?_⟩
  refine⟨_,rfl,_,rfl,a,_,rfl,.inl ha,_,_,rfl,rfl,_,rfl,?_⟩
  have tail:∀c:Int,∀(σ:St),σ=[some (.ref a),some (.int k),some (.int c)]->True:=fun _ _ _=>trivial
  refine be (fun c=>?_) (fun c=>?_)
  ·have c':k < ((ns.map V.int).length:Int):=of_decide_eq_true c
   rw [List.length_map] at c'
   have hl:k.toNat < ns.length:=by omega
   refine⟨_,rfl,_,rfl,aH (j:=k.toNat) (v:=.int ns[k.toNat]) (.inl ha) (by omega) (by rw [List.getElem?_map,List.getElem?_eq_getElem hl];rfl) ?_⟩
   refine⟨_,rfl,_,_,rfl,rfl,⟨by decide,by decide,by decide⟩,_,_,rfl,rfl,_,_,rfl,?_⟩
   refine⟨_,rfl,_,_,rfl,rfl,.inr ⟨by decide,by decide⟩,_,rfl,_,_,rfl,rfl,.inl ⟨by decide,by decide⟩,_,_,rfl,rfl,_,_,rfl,rfl,_,_,rfl,rfl,by show (0:Int) < 2147483629;decide,by show 2<=sizeLine;decide,fun l hl=>?_⟩
   exact q l _ (am (af.refl _) hl) hl ⟨_,_,ag,Int.emod_nonneg _ (by decide),Int.emod_lt_of_pos _ (by decide)⟩
  ·refine⟨_,rfl,_,_,rfl,rfl,⟨by decide,by decide,by decide⟩,_,_,rfl,rfl,_,_,rfl,?_⟩
   refine⟨_,rfl,_,_,rfl,rfl,.inr ⟨by decide,by decide⟩,_,rfl,_,_,rfl,rfl,.inl ⟨by decide,by decide⟩,_,_,rfl,rfl,_,_,rfl,rfl,_,_,rfl,rfl,by show (0:Int) < 2147483629;decide,by show 2<=sizeLine;decide,fun l hl=>?_⟩
   exact q l _ (am (af.refl _) hl) hl ⟨_,_,ag,Int.emod_nonneg _ (by decide),Int.emod_lt_of_pos _ (by decide)⟩
noncomputable def dz:Sp:=fun vs H Q _=>∃(p:Addr) (n:Int),vs=[.ref p,.int n]/\Pot H p/\0 < n/\n < 1000/\∀r H',0<=r->r < n->Pot H' p->Kp [p] H H'->Q (.int r) H'
theorem nT:aP ["_law_pot_here","_law_many","_law_digit"] ["_law_pot_here","_law_many"] (aC (top 38)):=⟨rfl,rfl,rfl,by decide +kernel,rfl,by decide +kernel,by decide +kernel⟩
theorem tO {f:Addr}{fd:FuncData} (F:Fun K "_law_take" "_law_take" (top 38) f fd) (B:Bl mg):aG P w K mg base CX0 1 f fd ["_law_pot_here","_law_many"] dz:=by
 refine F.ok nT (fun vs H Q E h=>?_) (fun cdv A outer s H vs Q E hr h=>?_)
 ·obtain⟨p,n,rfl,_⟩:=h
  rfl
 ·obtain⟨p,n,rfl,⟨a,b,hp,hb0,hb1⟩,hn,hn2,k⟩:=h
  refine⟨_,ao (bh (aZ fc (aD aW (pv 0) ai (fun _ _=>rfl)) ai (ba _))
    (ao (dA (aA oW rfl B.divmod rg (aa (aD aW (pv 0) ai (fun _ _=>rfl)) (aa (pv 1) ae))) (c9 rfl (n:=2) (bB (nc (pv 0) ai set_list) (bB (aX (i:=2) nT.nd rfl (Or.inl rfl)) cI))))
     (ax (aI (pv 2)))) bf)
   (ao (dA (aB da (aB bU (aB eU (aD aW (pv 0) ai (fun _ _=>rfl)) ai) ai) ai) (nc (pv 0) ai set_list))
   (ax (aI (aB da (aB fO (aB da (aB eU (aD aW (pv 0) ai (fun _ _=>rfl)) (aD aW (pv 0) ai (fun _ _=>rfl))) ai) ai) (pv 1))))),?_⟩
  have hS:Sq K H p [.int a,.int b]:=.inl (SqL.of hp)
  refine⟨_,rfl,aH (j:=0) hS rfl rfl ⟨_,_,rfl,rfl,_,rfl,?_⟩⟩
  refine be (fun c=>?_) (fun c=>?_)
  ·refine⟨_,rfl,aH (j:=0) hS rfl rfl ⟨_,rfl,_,_,rfl,⟨hn,by omega⟩,fun t ht=>?_⟩⟩
   have ntp:p≠t:=aV hp ht
   refine⟨t,_,rfl,SqT.of ag,rfl,_,_,rfl,_,rfl,p,[.int a,.int b],_,0,rfl,rfl,by rw [aj ntp];exact hp,rfl,?_⟩
   refine⟨_,_,rfl,rfl,_,rfl,k _ _ (Int.emod_nonneg _ (by omega)) (Int.emod_lt_of_pos _ hn) ⟨_,_,ag,hb0,hb1⟩ (((Kp.refl _ _).new ht).inn (by simp))⟩
  ·refine⟨_,rfl,aH (j:=1) hS rfl rfl ⟨_,_,rfl,rfl,.inl ⟨by omega,by omega⟩,_,_,rfl,rfl,_,_,rfl,rfl,by show (0:Int) < 2147483587;decide,_,rfl,p,[.int a,.int b],_,1,rfl,rfl,hp,rfl,?_⟩⟩
   have m0:0<=(b * 39373 + 6007) % 2147483587:=Int.emod_nonneg _ (by decide)
   have m1:(b * 39373 + 6007) % 2147483587 < 2147483587:=Int.emod_lt_of_pos _ (by decide)
   have hS2:Sq K (upd H p (.lst ([V.int a,V.int b].set 1 (.int ((b * 39373 + 6007) % 2147483587))))) p [.int a,.int ((b * 39373 + 6007) % 2147483587)]:=.inl (SqL.of ag)
   refine⟨_,rfl,aH (j:=1) hS2 rfl rfl ⟨_,rfl,aH (j:=1) hS2 rfl rfl ⟨_,_,rfl,rfl,.inl ⟨by omega,by omega⟩,_,_,rfl,rfl,by show (0:Int) < 2147483563;decide,_,_,rfl,rfl,⟨by decide,by decide⟩,_,rfl,_,_,rfl,rfl,hn,?_⟩⟩⟩
   exact k _ _ (Int.emod_nonneg _ (by omega)) (Int.emod_lt_of_pos _ hn) ⟨_,_,ag,m0,by omega⟩ ((Kp.refl _ _).inn (by simp))
end
theorem pY (x:Str) (j:Int):∀c∈(Txt.slice x none (some j)).cps.toList,c∈x.cps.toList:=by
 intro c hc
 unfold Txt.slice at hc
 split at hc
 ·exact hc
 ·simp only [List.mem_filterMap] at hc
  obtain⟨i,_,e⟩:=hc
  simpa using Array.mem_of_getElem? e
noncomputable def tlc (f w:Nat) (big:Bool) (j:Nat):List Nat:=if big=true then [97 + (f + w * j) % 26,97 + (f + j / 26) % 26] else [97 + (f + w * j) % 26]
theorem iZ (f w:Nat) (big:Bool) (j:Nat):(tlc f w big j).length=if big=true then 2 else 1:=by unfold tlc;split <;> rfl
theorem sC (f w:Nat) (big:Bool) (j:Nat):∀c∈tlc f w big j,97<=c/\c<=122:=by
 intro c hc
 unfold tlc at hc
 split at hc
 ·simp at hc;omega
 ·simp at hc;omega
theorem kZ {f w i j:Nat} (hw:w∈[1,3,5,7,9,11]) (h:(f + w * i) % 26=(f + w * j) % 26):i % 26=j % 26:=by
 simp only [List.mem_cons,List.not_mem_nil,or_false] at hw
 rcases hw with rfl | rfl | rfl | rfl | rfl | rfl <;> omega
theorem tQ {f w:Nat}{big:Bool}{i j:Nat} (hw:w∈[1,3,5,7,9,11]) (hi:i < 60) (hj:j < 60) (hb:big=false->i < 26/\j < 26) (h:tlc f w big i=tlc f w big j):i=j:=by
 unfold tlc at h
 cases big with
 | true =>
  simp at h
  have:=kZ hw h.1
  omega
 | false =>
  simp at h
  have:=kZ hw h
  obtain⟨a,b⟩:=hb rfl
  omega
structure Drawn (f w:Nat) (big:Bool) (ns:List Str):Prop where
 at':∀(j:Nat) (x:Str),ns[j]?=some x->∃u:List Nat,x.cps.toList=u++tlc f w big j/\u.length<=6/\∀c∈u,97<=c/\c<=122
theorem Drawn.name {f w:Nat}{big:Bool}{ns:List Str} (D:Drawn f w big ns):∀x∈ns,aE x:=fun x hx=>by
 obtain⟨j,hj⟩:=List.getElem?_of_mem hx
 obtain⟨u,e,hu,hc⟩:=D.at' j x hj
 have hl:=iZ f w big j
 refine aE.of_codes e ?_ ?_ fun c hm=>?_
 ·rw [List.length_append,hl];split <;> omega
 ·rw [List.length_append,hl];split <;> omega
 ·rcases List.mem_append.mp hm with z | z
  ·exact hc c z
  ·exact sC f w big j c z
theorem Drawn.nodup {f w:Nat}{big:Bool}{ns:List Str} (D:Drawn f w big ns) (hw:w∈[1,3,5,7,9,11]) (hz:ns.length < 60) (hb:big=false->ns.length<=26):ns.Nodup:=by
 refine List.pairwise_iff_getElem.mpr fun i j hi hj hij e=>?_
 obtain⟨u,e1,_,_⟩:=D.at' i ns[i] (List.getElem?_eq_getElem hi)
 obtain⟨u',e2,_,_⟩:=D.at' j ns[j] (List.getElem?_eq_getElem hj)
 rw [e,e2] at e1
 have hl:(tlc f w big j).length=(tlc f w big i).length:=by rw [iZ,iZ]
 have q:=(List.append_inj' e1 hl).2
 have:=tQ hw (by omega) (by omega) (fun c=>by have:=hb c;omega) q
 omega
theorem Drawn.add {f w:Nat}{big:Bool}{ns:List Str}{x:Str}{u:List Nat} (D:Drawn f w big ns) (e:x.cps.toList=u++tlc f w big ns.length) (hu:u.length<=6) (hc:∀c∈u,97<=c/\c<=122):Drawn f w big (ns++[x]):=by
 refine⟨fun j y hj=>?_⟩
 by_cases h:j < ns.length
 ·rw [List.getElem?_append_left h] at hj
  exact D.at' j y hj
 ·rw [List.getElem?_append_right (by omega)] at hj
  have hj0:j - ns.length=0:=by
   have:=(List.getElem?_eq_some_iff.mp hj).1
   simp at this
   omega
  rw [hj0] at hj
  have ey:x=y:=by simpa using hj
  subst ey
  have ej:j=ns.length:=by omega
  subst ej
  exact⟨u,e,hu,hc⟩
theorem ir (x:Str) (c:Nat):(x++(⟨#[c]⟩:Str)).cps.toList=x.cps.toList++[c]:=by
 rw [Str.cps_append,Array.toList_append]
section
variable {P:Program}{w:World}{K:PySem.W.Frag}{mg:Str->Option Value}{base:Heap}
noncomputable def lK:Sp:=fun vs H Q _=>∃(p:Addr) (m:Nat),vs=[.ref p,.int m]/\Pot H p/\m<=40 /\
 ∀(q:Addr) (ns:List Str) (H':Hp),Pot H' p->H' q=some (.lst (ns.map V.str))->H q=none->(∀x∈ns,aE x)->ns.Nodup->ns.length=m->Kp [p] H H'->Q (.ref q) H'
noncomputable abbrev N39:List Str:=["_law_pot_here","_law_many","_law_letters","_law_ahead","_law_first","_law_wide","_law_found","_law_k","_law_name"]
theorem dN:aP N39 ["_law_pot_here","_law_many"] (aC (top 39)):=⟨rfl,rfl,rfl,by decide +kernel,rfl,by decide +kernel,by decide +kernel⟩
theorem rC {f:Addr}{fd:FuncData} (F:Fun K "_law_names" "_law_names" (top 39) f fd) (B:Bl mg) (Ft:Fn P w K mg base 1 "_law_take" ["_law_pot_here","_law_many"] dz):aG P w K mg base CX0 2 f fd ["_law_pot_here","_law_many"] lK:=by
 refine F.ok dN (fun vs H Q E h=>?_) (fun cdv A outer s H vs Q E hr h=>?_)
 ·obtain⟨p,m,rfl,_⟩:=h
  rfl
 ·obtain⟨p,m,rfl,hp,hm,k⟩:=h
  refine⟨_,ao (aL (i:=2) dN.nd rfl (Or.inr rfl) ef)
   (ao (aL (i:=3) dN.nd rfl (Or.inl rfl) (cT PySem.F.plainAttrs_str PySem.F.slot_str_join PySem.F.type_str_join sW ef (aa (bp (N:=["_law_k","_law_letters","_law_pot_here"]) (ix:=[none,some 2,some 0]) ⟨rfl,rfl,rfl,by decide⟩ rfl
    (cW rfl B.range (aa (aD aW (bD (aa ai (aa ai (aa ai (aa ai ae))))) (aw Ft hr (aa (pv 0) (aa ai ae))) (fun _ _=>rfl)) ae)) (fun _ _ _ _=>aQ 0 (by decide) rfl rfl) (fun _ _ _ _=>bc)
    (fun _ _ _ _=>aD (b7 K) (pv 1) (aw Ft hr (aa (pv 2) (aa ai ae))) (fun _ _=>rfl))) ae)))
   (ao (uA (i:=4) (j:=5) rfl dN.nd rfl rfl (by decide) rfl rfl (aa (aw Ft hr (aa (pv 0) (aa ai ae))) (aa (aD aW (bD (aa ai (aa ai (aa ai (aa ai (aa ai (aa ai ae))))))) (aw Ft hr (aa (pv 0) (aa ai ae))) (fun _ _=>rfl)) ae)) rfl)
   (ao (aL (i:=6) dN.nd rfl (Or.inl rfl) (bD ae))
   (ao (bP PassesOwn.never rfl (cW rfl B.range (aa (pv 1) ae)) (aX (i:=7) dN.nd rfl (Or.inl rfl))
    (ao (aL (i:=8) dN.nd rfl (Or.inl rfl) (aB fW (eN uv (pv 3) eR (eQ (aw Ft hr (aa (pv 0) (aa (aB bU (aA jQ rfl B.len PySem.boot_len (aa (pv 3) ae)) ai) ae)))))
     (aD aW (pv 2) (aB da (aB bU (pv 4) (aB eU (pv 5) (pv 7))) ai) (fun _ _=>rfl))))
    (ao (bh (aZ fc (pv 1) ai (ba _)) (ax (aL (i:=8) dN.nd rfl (Or.inl rfl) (aB fW (pv 8) (aD aW (pv 2) (aB da (aB bU (pv 4) (aB fO (pv 7) ai)) ai) (fun _ _=>rfl))))) bf)
    (ax (bT (cT PySem.F.plainAttrs_list PySem.F.slot_list_append PySem.F.type_list_append dP (pv 6) (aa (pv 8) ae)))))))
   (ax (aI (pv 6))))))),?_⟩
  refine⟨rfl,by show 4<=sizeLine;decide,fun l4 hl4=>?_⟩
  have P0:=hp.new (o:=.lst [.int 0,.int 0,.int 1,.int 6]) hl4
  have K0:=(Kp.refl [p] H).new (o:=.lst [.int 0,.int 0,.int 1,.int 6]) hl4
  have L0:upd H l4 (.lst [.int 0,.int 0,.int 1,.int 6]) l4=some (.lst [.int 0,.int 0,.int 1,.int 6]):=ag
  have nl4:=hp.ne_new hl4
  generalize upd H l4 (.lst [.int 0,.int 0,.int 1,.int 6])=H0 at P0 K0 L0 ⊢
  refine⟨_,rfl,p,4,rfl,P0,by decide,by decide,fun r1 H1 a0 a1 P1 K1=>?_⟩
  have L1:=K1.at nl4 L0
  have hm1:∃c:Int,([V.int 0,V.int 0,V.int 1,V.int 6]:List V)[r1.toNat]?=some (.int c)/\0<=c/\c<=6:=by
   have:r1=0\/r1=1\/r1=2\/r1=3:=by omega
   rcases this with rfl | rfl | rfl | rfl
   ·exact⟨0,rfl,by decide,by decide⟩
   ·exact⟨0,rfl,by decide,by decide⟩
   ·exact⟨1,rfl,by decide,by decide⟩
   ·exact⟨6,rfl,by decide,by decide⟩
  obtain⟨c,hc,c0,c6⟩:=hm1
  refine aH (j:=r1.toNat) (.inl (SqL.of L1)) (by omega) hc ⟨_,rfl,by omega,by omega,?_⟩
  have K01:=K0.trans K1
  refine fB (fits (by omega)) (fun i ys σ H3=>(∃cs:List Nat,cs.length=i/\(∀c∈cs,97<=c/\c<=122)/\ys=cs.map fun c=>V.str ⟨#[c]⟩)/\Pot H3 p/\Kp [p] H H3/\∃x,σ=[x,some (.str cJ),some (.ref p)])
   ⟨⟨[],rfl,by simp,rfl⟩,P1,K01,_,rfl⟩ (fun i ys σ H3 _ q=>by obtain⟨⟨cs,rfl,_,rfl⟩,_⟩:=q;simp) ?_ ?_
  ·rintro i ys σ H3 hi ⟨⟨cs,rfl,hcs,rfl⟩,P3,K3,v,rfl⟩
   refine⟨_,rfl,_,rfl,p,26,rfl,P3,by decide,by decide,fun r H4 r0 r1 P4 K4=>.inr (.inr ⟨cJ,r,97 + r.toNat,rfl,rfl,fu,dZ (j:=r.toNat) (by omega) (fE (by omega)),⟨cs++[97 + r.toNat],by simp,fun c hc=>?_,by simp⟩,P4,K3.trans K4,_,rfl⟩)⟩
   rcases List.mem_append.mp hc with z | z
   ·exact hcs c z
   ·simp at z
    omega
  rintro ys σ H3 ⟨⟨cs,hlen,hcs,rfl⟩,P3,K3,v,rfl⟩ q hq
  have hx:(Txt.join (Str.ofString "") (cs.map fun c=>(⟨#[c]⟩:Str))).cps.toList=cs:=join_one cs
  have hmap:(cs.map fun c=>V.str ⟨#[c]⟩)=(cs.map fun c=>(⟨#[c]⟩:Str)).map V.str:=by rw [List.map_map];rfl
  refine⟨Str.ofString "",q,cs.map fun c=>(⟨#[c]⟩:Str),rfl,rfl,SqL.of (by rw [ag,hmap]),?_,?_⟩
  ·have hs:∀l:List Nat,((l.map fun c=>(⟨#[c]⟩:Str)).map (·.length)).sum=l.length:=fun l=>by
    induction l with
    | nil=>rfl
    | cons c r ih=>simp only [List.map_cons,List.sum_cons,ih,List.length_cons];show 1 + r.length=_;omega
   have e0:(Str.ofString "").length=0:=by decide
   rw [hs,e0]
   omega
  have hah:(Txt.join (Str.ofString "") (cs.map fun c=>(⟨#[c]⟩:Str))).length<=6:=by
   have:(Txt.join (Str.ofString "") (cs.map fun c=>(⟨#[c]⟩:Str))).length=cs.length:=by rw [<- congrArg List.length hx];simp [Str.length]
   omega
  have hac:∀d∈(Txt.join (Str.ofString "") (cs.map fun c=>(⟨#[c]⟩:Str))).cps.toList,97<=d/\d<=122:=by rw [hx];exact hcs
  generalize Txt.join (Str.ofString "") (cs.map fun c=>(⟨#[c]⟩:Str))=ah at hah hac ⊢
  have P4:=P3.new (o:=.lst (cs.map fun c=>V.str ⟨#[c]⟩)) hq
  have K4:=K3.new (o:=.lst (cs.map fun c=>V.str ⟨#[c]⟩)) hq
  generalize upd H3 q (.lst (cs.map fun c=>V.str ⟨#[c]⟩))=H4 at P4 K4 ⊢
  refine⟨_,rfl,p,26,rfl,P4,by decide,by decide,fun ft H5 f0 f1 P5 K5=>?_⟩
  refine⟨by show 6<=sizeLine;decide,fun l6 hl6=>?_⟩
  have P6:=P5.new (o:=.lst [.int 1,.int 3,.int 5,.int 7,.int 9,.int 11]) hl6
  have K6:=(K4.trans K5).new (o:=.lst [.int 1,.int 3,.int 5,.int 7,.int 9,.int 11]) hl6
  have L6:upd H5 l6 (.lst [.int 1,.int 3,.int 5,.int 7,.int 9,.int 11]) l6=some (.lst [.int 1,.int 3,.int 5,.int 7,.int 9,.int 11]):=ag
  have nl6:=P5.ne_new hl6
  generalize upd H5 l6 (.lst [.int 1,.int 3,.int 5,.int 7,.int 9,.int 11])=H6 at P6 K6 L6 ⊢
  refine⟨_,rfl,p,6,rfl,P6,by decide,by decide,fun r6 H7 g0 g1 P7 K7=>?_⟩
  have L7:=K7.at nl6 L6
  have hw:∃c:Nat,([V.int 1,V.int 3,V.int 5,V.int 7,V.int 9,V.int 11]:List V)[r6.toNat]?=some (.int c)/\c∈[1,3,5,7,9,11]:=by
   have:r6=0\/r6=1\/r6=2\/r6=3\/r6=4\/r6=5:=by omega
   rcases this with rfl | rfl | rfl | rfl | rfl | rfl
   ·exact⟨1,rfl,by decide⟩
   ·exact⟨3,rfl,by decide⟩
   ·exact⟨5,rfl,by decide⟩
   ·exact⟨7,rfl,by decide⟩
   ·exact⟨9,rfl,by decide⟩
   ·exact⟨11,rfl,by decide⟩
  obtain⟨wd,hwd,hwm⟩:=hw
  have hw11:wd<=11:=by
   simp only [List.mem_cons,List.not_mem_nil,or_false] at hwm
   omega
  refine aH (j:=r6.toNat) (.inl (SqL.of L7)) (by omega) hwd ⟨_,_,rfl,?_⟩
  have P8:=P7
  have K8:=K6.trans K7
  clear P7 K7 L7 P6 K6 L6
  revert H7
  intro H8 P8 K8
  obtain⟨fn,rfl⟩:=Int.eq_ofNat_of_zero_le f0
  have hfn:fn < 26:=by omega
  refine⟨Nat.zero_le _,fun fo hfo=>?_⟩
  have fo0:H fo=none:=K8.free1 P8 hfo
  have nfp:=P8.ne_new hfo
  have P9:=P8.new (o:=.lst []) hfo
  have K9:=K8.new (o:=.lst []) hfo
  have F9:upd H8 fo (.lst []) fo=some (.lst ((([]:List Str)).map V.str)):=ag
  generalize upd H8 fo (.lst [])=H9 at P9 K9 F9 ⊢
  refine⟨_,rfl,_,rfl,by omega,by omega,fH (fun i σ H1=>∃(ns:List Str) (g1 g2:Option V),σ=[some (.ref p),some (.int m),some (.str cJ),some (.str ah),some (.int fn),some (.int wd),some (.ref fo),g1,g2]/\Pot H1 p/\H1 fo=some (.lst (ns.map V.str))/\ns.length=i/\Drawn fn wd (decide (26 < m)) ns/\Kp [p] H H1)
   ⟨[],none,none,rfl,P9,F9,rfl,⟨fun j x hj=>by simp at hj⟩,K9⟩ ?_ ?_⟩
  ·rintro i σ H1 hi ⟨ns,g1,g2,rfl,P1,F1,hl,D,K1⟩
   have him:i < m:=by omega
   refine⟨_,rfl,_,rfl,_,rfl,ah,rfl,by rw [sizeLine_eq];omega,_,_,rfl,rfl,p,_,rfl,P1,by omega,by omega,fun r H2 r0 r1 P2 K2=>?_⟩
   have F2:=K2.at nfp F1
   have K12:=K1.trans K2
   have hsl:(Txt.slice ah none (some r)).length<=6:=Nat.le_trans (Txt.slice_le ah _ _) hah
   have hsc:∀d∈(Txt.slice ah none (some r)).cps.toList,97<=d/\d<=122:=fun d hd=>hac d (pY ah r d hd)
   have hsn:(Txt.slice ah none (some r)).cps.toList.length<=6:=by simpa [Str.length] using hsl
   refine⟨_,rfl,ah,rfl,by rw [sizeLine_eq];omega,?_⟩
   generalize Txt.slice ah none (some r)=sl at hsl hsc hsn ⊢
   have hidx:(((fn:Nat):Int) + ((wd:Nat):Int) * (0 + (i:Int))) % 26=(((fn + wd * i) % 26:Nat):Int):=by push_cast;rw [Int.zero_add]
   have hidx2:(((fn:Nat):Int) + (0 + (i:Int)) / 26) % 26=(((fn + i / 26) % 26:Nat):Int):=by push_cast;rw [Int.zero_add]
   refine⟨_,rfl,_,rfl,_,rfl,_,rfl,_,_,rfl,rfl,.inl ⟨by omega,by omega⟩,_,_,rfl,rfl,_,_,rfl,rfl,by show (0:Int) < 26;decide,?_⟩
   refine .inr (.inr ⟨cJ,_,97 + (fn + wd * i) % 26,rfl,rfl,fu,dZ (j:=(fn + wd * i) % 26) hidx (fE (Nat.mod_lt _ (by decide))),_,_,rfl,rfl,by rw [sizeLine_eq];show sl.length + 1<=_;omega,?_⟩)
   have hlen1:(sl++(⟨#[97 + (fn + wd * i) % 26]⟩:Str)).length=sl.length + 1:=by rw [Str.length_append];rfl
   refine⟨_,rfl,_,_,rfl,rfl,_,rfl,?_⟩
   refine be (fun c=>?_) (fun c=>?_)
   ·have c':26 < m:=by have:=of_decide_eq_true c;omega
    refine⟨_,rfl,_,rfl,_,rfl,_,rfl,_,_,rfl,rfl,⟨by decide,by decide⟩,_,_,rfl,rfl,_,_,rfl,rfl,by show (0:Int) < 26;decide,?_⟩
    refine .inr (.inr ⟨cJ,_,97 + (fn + i / 26) % 26,rfl,rfl,fu,dZ (j:=(fn + i / 26) % 26) hidx2 (fE (Nat.mod_lt _ (by decide))),_,_,rfl,rfl,by rw [hlen1,sizeLine_eq];show sl.length + 1 + 1<=_;omega,?_⟩)
    refine⟨_,rfl,.inl ⟨rfl,_,SqL.of F2⟩,_,rfl,fo,ns.map V.str,_,rfl,rfl,F2,by rw [List.length_map];exact fits (by omega),?_⟩
    refine⟨ns++[sl++(⟨#[97 + (fn + wd * i) % 26]⟩:Str)++(⟨#[97 + (fn + i / 26) % 26]⟩:Str)],_,_,rfl,P2.upd nfp,by rw [ag,List.map_append];rfl,by simp [hl],?_,fun b o e nb=>by rw [aj (aV e fo0)];exact K12 b o e nb⟩
    refine D.add (u:=sl.cps.toList) ?_ hsn hsc
    rw [ir,ir,hl]
    unfold tlc
    rw [if_pos (decide_eq_true c')]
    simp
   ·have c':¬ 26 < m:=by simp only [decide_eq_true_eq] at c;omega
    refine⟨_,rfl,.inl ⟨rfl,_,SqL.of F2⟩,_,rfl,fo,ns.map V.str,_,rfl,rfl,F2,by rw [List.length_map];exact fits (by omega),?_⟩
    refine⟨ns++[sl++(⟨#[97 + (fn + wd * i) % 26]⟩:Str)],_,_,rfl,P2.upd nfp,by rw [ag,List.map_append];rfl,by simp [hl],?_,fun b o e nb=>by rw [aj (aV e fo0)];exact K12 b o e nb⟩
    refine D.add (u:=sl.cps.toList) ?_ hsn hsc
    rw [ir,hl]
    unfold tlc
    rw [if_neg (by simpa using c')]
  ·rintro σ H1 ⟨ns,g1,g2,rfl,P1,F1,hl,D,K1⟩
   have hl':ns.length=m:=by omega
   exact⟨_,rfl,k fo ns H1 P1 F1 fo0 D.name (D.nodup hwm (by omega) (fun c=>by have:=of_decide_eq_false c;omega)) hl' K1⟩
end
noncomputable abbrev Pr:=Addr×Int×Int
noncomputable abbrev bj (prs:List Pr):List V:=prs.map fun x=>V.ref x.1
noncomputable def bq (H:Hp) (prs:List Pr):Prop:=∀x∈prs,H x.1=some (.tup [.int x.2.1,.int x.2.2])
noncomputable def b8 (m:Nat) (prs:List Pr):Prop:=∀x∈prs,0<=x.2.1/\x.2.1 < m/\0<=x.2.2/\x.2.2 < m/\x.2.1≠x.2.2
theorem bq.kp {H H1:Hp}{p:Addr}{prs:List Pr} (h:bq H prs) (k:Kp [p] H H1) (hp:Pot H p):bq H1 prs:=fun x hx=>k.tup hp (h x hx)
theorem bq.new {H:Hp}{q:Addr}{o:HO}{prs:List Pr} (h:bq H prs) (hq:H q=none):bq (upd H q o) prs:=fun x hx=>by
 rw [aj (aV (h x hx) hq)];exact h x hx
theorem bq.over {H:Hp}{q:Addr}{o:HO}{ys:List V}{prs:List Pr} (h:bq H prs) (hq:H q=some (.lst ys)):bq (upd H q o) prs:=fun x hx=>by
 rw [aj (tup_ne (h x hx) hq)];exact h x hx
theorem bq.app {H:Hp}{a b:List Pr} (h:bq H a) (g:bq H b):bq H (a++b):=fun x hx=>(List.mem_append.mp hx).elim (h x) (g x)
theorem b8.app {m:Nat}{a b:List Pr} (h:b8 m a) (g:b8 m b):b8 m (a++b):=fun x hx=>(List.mem_append.mp hx).elim (h x) (g x)
theorem bq.one {H:Hp}{t:Addr}{a b:Int} (h:H t=some (.tup [.int a,.int b])):bq H [(t,a,b)]:=fun x hx=>by
 have e:x=(t,a,b):=by simpa using hx
 subst e;exact h
theorem b8.one {m:Nat}{t:Addr}{a b:Int} (h:0<=a/\a < m/\0<=b/\b < m/\a≠b):b8 m [(t,a,b)]:=fun x hx=>by
 have e:x=(t,a,b):=by simpa using hx
 subst e;exact h
theorem ip {m i:Nat} (h2:2<=m) (h8:m<=8) {T:Int} (hT:T<=30 / ((m:Int) - 1)) (hi:(i:Int)<=T):i * (m - 1)<=30:=by
 have:m=2\/m=3\/m=4\/m=5\/m=6\/m=7\/m=8:=by omega
 rcases this with rfl | rfl | rfl | rfl | rfl | rfl | rfl <;> omega
theorem uu {a r n:Int} (h1:0<=a) (h2:a < n) (h3:0<=r) (h4:r < n - 1):(a + 1 + r) % n≠a/\0<=(a + 1 + r) % n/\(a + 1 + r) % n < n:=by
 refine⟨fun e=>?_,Int.emod_nonneg _ (by omega),Int.emod_lt_of_pos _ (by omega)⟩
 have q:=Int.mul_ediv_add_emod (a + 1 + r) n
 rw [e] at q
 generalize (a + 1 + r) / n=k at q
 have hk:k<=0\/1<=k:=by omega
 rcases hk with hk | hk
 ·have:=Int.mul_nonpos_of_nonneg_of_nonpos (show 0<=n by omega) hk
  omega
 ·have:=Int.mul_le_mul_of_nonneg_left hk (show 0<=n by omega)
  omega
noncomputable def fj (S:Int->Bool) (x:Pr):Bool:=S x.2.2 && !S x.2.1
noncomputable def EnT (m i:Nat) (prs:List Pr):Prop:=∀S:Int->Bool,S 0=false->(∃k:Nat,k < m/\S k=true)->i<=(prs.filter (fj S)).length
noncomputable def TrP (m:Nat) (prs:List Pr):Prop:=∃t:Nat,t<=6/\t * (m - 1)<=30/\prs.length<=t * (m - 1) + 10/\EnT m t prs
theorem EnT.zero {m:Nat}{prs:List Pr}:EnT m 0 prs:=fun _ _ _=>Nat.zero_le _
theorem EnT.add {m i:Nat}{prs qs:List Pr} (h:EnT m i prs) (g:EnT m 1 qs):EnT m (i + 1) (prs++qs):=fun S h0 hk=>by
 have a:=h S h0 hk
 have b:=g S h0 hk
 rw [List.filter_append,List.length_append]
 omega
theorem EnT.app {m i:Nat}{prs:List Pr} (h:EnT m i prs) (qs:List Pr):EnT m i (prs++qs):=fun S h0 hk=>by
 have a:=h S h0 hk
 rw [List.filter_append,List.length_append]
 omega
theorem TrP.nil {m:Nat}:TrP m []:=⟨0,by omega,by omega,by simp,EnT.zero⟩
noncomputable def fq (qs:List Pr):Prop:=∀(j:Nat) (x:Pr),qs[j]?=some x->x.2.2=1 + (j:Int)/\0<=x.2.1/\x.2.1<=j
theorem fq.snoc {qs:List Pr}{t:Addr}{r:Int} (h:fq qs) (h0:0<=r) (h1:r < 1 + (qs.length:Int)):fq (qs++[(t,r,1 + (qs.length:Int))]):=fun j x hj=>by
 rcases Nat.lt_or_ge j qs.length with c | c
 ·rw [List.getElem?_append_left c] at hj
  exact h j x hj
 ·rw [List.getElem?_append_right c] at hj
  cases e:j - qs.length with
  | zero =>
   rw [e] at hj
   cases hj
   have:j=qs.length:=by omega
   subst this
   exact⟨rfl,h0,by show r<=_;omega⟩
  | succ n=>rw [e] at hj;simp at hj
theorem lX {p:Nat->Bool}:∀n:Nat,(∃k,k < n/\p k=true)->∃k,k < n/\p k=true/\∀j,j < k->p j=false
 | 0,h=>by obtain⟨k,hk,_⟩:=h;omega
 | n + 1,h=>by
  by_cases c:∃k,k < n/\p k=true
  ·obtain⟨k,h1,h2,h3⟩:=lX n c
   exact⟨k,by omega,h2,h3⟩
  ·obtain⟨k,h1,h2⟩:=h
   have e:k=n:=by
    rcases Nat.lt_or_ge k n with z | z
    ·exact absurd ⟨k,z,h2⟩ c
    ·omega
   subst e
   refine⟨k,h1,h2,fun j hj=>?_⟩
   cases q:p j with
   | false=>rfl
   | true=>exact absurd ⟨j,hj,q⟩ c
theorem EnT.one {m:Nat}{qs:List Pr} (h:fq qs) (hl:qs.length=m - 1):EnT m 1 qs:=fun S h0 hk=>by
 obtain⟨k,k1,k2,k3⟩:=lX (p:=fun n=>S n) m hk
 have kp:k≠0:=fun z=>by
  subst z
  rw [show S ((0:Nat):Int)=S 0 from rfl,h0] at k2
  cases k2
 have hlt:k - 1 < qs.length:=by omega
 obtain⟨e1,e2,e3⟩:=h (k - 1) qs[k - 1] (by rw [List.getElem?_eq_getElem hlt])
 have q:fj S qs[k - 1]=true:=by
  unfold fj
  rw [e1,show (1:Int) + ((k - 1:Nat):Int)=(k:Int) by omega]
  have z:=k3 (qs[k - 1].2.1.toNat) (by omega)
  rw [show ((qs[k - 1].2.1.toNat:Nat):Int)=qs[k - 1].2.1 by omega] at z
  rw [k2,z];rfl
 exact List.length_pos_of_mem (List.mem_filter.mpr ⟨List.getElem_mem hlt,q⟩)
section
variable {P:Program}{w:World}{K:PySem.W.Frag}{mg:Str->Option Value}{base:Heap}
noncomputable def lZ:Sp:=fun vs H Q _=>∃(p:Addr) (m:Nat),vs=[.ref p,.int m]/\Pot H p/\1<=m/\m<=8 /\
 ∀(q:Addr) (prs:List Pr) (H':Hp),Pot H' p->H' q=some (.lst (bj prs))->H q=none->bq H' prs->b8 m prs->prs.length<=40->TrP m prs->Kp [p] H H'->Q (.ref q) H'
noncomputable abbrev N40:List Str:=["_law_pot_here","_law_many","_law_found","_law_tree","_law_k","_law_a"]
theorem fV:aP N40 ["_law_pot_here","_law_many"] (aC (top 40)):=⟨rfl,rfl,rfl,by decide +kernel,rfl,by decide +kernel,by decide +kernel⟩
theorem qX {f:Addr}{fd:FuncData} (F:Fun K "_law_pairs" "_law_pairs" (top 40) f fd) (B:Bl mg) (Ft:Fn P w K mg base 1 "_law_take" ["_law_pot_here","_law_many"] dz):aG P w K mg base CX0 2 f fd ["_law_pot_here","_law_many"] lZ:=by
 refine F.ok fV (fun vs H Q E h=>?_) (fun cdv A outer s H vs Q E hr h=>?_)
 ·obtain⟨p,m,rfl,_⟩:=h
  rfl
 ·obtain⟨p,m,rfl,hp,m1,m8,k⟩:=h
  refine⟨_,ao (aL (i:=2) fV.nd rfl (Or.inl rfl) (bD ae))
   (ao (bh (aZ dE (pv 1) ai (ba _)) (ax (aI (pv 2))) bf)
   (ao (bP PassesOwn.never rfl (cW rfl B.range (aa (aA (iD rfl) rfl B.min jm (aa (aD aW (bD (aa ai (aa ai (aa ai (aa ai (aa ai (aa ai (aa ai ae)))))))) (aw Ft hr (aa (pv 0) (aa ai ae))) (fun _ _=>rfl))
     (aa (aB fO ai (aB dw (pv 1) ai)) ae))) ae)) (aX (i:=3) fV.nd rfl (Or.inl rfl))
    (ax (bT (cT PySem.F.plainAttrs_list PySem.F.slot_list_extend PySem.F.type_list_extend p4 (pv 2) (aa (bp (N:=["_law_k","_law_pot_here"]) (ix:=[none,some 0]) ⟨rfl,rfl,rfl,by decide⟩ rfl
     (kA rfl B.range (aa ai (aa (pv 1) ae))) (fun _ _ _ _=>aQ 0 (by decide) rfl rfl) (fun _ _ _ _=>bc) (fun _ _ _ _=>bV (aa (aw Ft hr (aa (pv 1) (aa (pv 0) ae))) (aa (pv 0) ae)))) ae)))))
   (ao (bP PassesOwn.never rfl (cW rfl B.range (aa (aD aW (bD (aa (aw Ft hr (aa (pv 0) (aa ai ae))) (aa (aw Ft hr (aa (pv 0) (aa ai ae))) ae))) (aw Ft hr (aa (pv 0) (aa ai ae))) (fun _ _=>rfl)) ae)) (aX (i:=4) fV.nd rfl (Or.inl rfl))
    (ao (aL (i:=5) fV.nd rfl (Or.inl rfl) (aw Ft hr (aa (pv 0) (aa (pv 1) ae))))
    (ax (bT (cT PySem.F.plainAttrs_list PySem.F.slot_list_append PySem.F.type_list_append dP (pv 2) (aa (bV (aa (pv 5) (aa (aB da (aB bU (aB bU (pv 5) ai) (aw Ft hr (aa (pv 0) (aa (aB dw (pv 1) ai) ae)))) (pv 1)) ae))) ae))))))
   (ax (aI (pv 2)))))),?_⟩
  refine⟨Nat.zero_le _,fun fo hfo=>?_⟩
  have nfp:=hp.ne_new hfo
  have P1:=hp.new (o:=.lst []) hfo
  have K1:=(Kp.refl [p] H).new (o:=.lst []) hfo
  have F1:upd H fo (.lst []) fo=some (.lst (bj [])):=ag
  generalize upd H fo (.lst [])=H1 at P1 K1 F1 ⊢
  refine⟨_,rfl,rfl,_,rfl,?_⟩
  refine be (fun c=>⟨_,rfl,k fo [] H1 P1 F1 hfo (by simp [bq]) (by simp [b8]) (by simp) TrP.nil K1⟩) (fun c=>?_)
  have m2:2<=m:=by
   simp only [decide_eq_true_eq] at c
   have:¬ ((m:Int)=1):=fun z=>c (by rw [z])
   omega
  refine⟨by show 7<=sizeLine;decide,fun l7 hl7=>?_⟩
  have nl7:=P1.ne_new hl7
  have P2:=P1.new (o:=.lst [.int 0,.int 1,.int 1,.int 2,.int 2,.int 3,.int 6]) hl7
  have K2:=K1.new (o:=.lst [.int 0,.int 1,.int 1,.int 2,.int 2,.int 3,.int 6]) hl7
  have L2':upd H1 l7 (.lst [.int 0,.int 1,.int 1,.int 2,.int 2,.int 3,.int 6]) l7=some (.lst [.int 0,.int 1,.int 1,.int 2,.int 2,.int 3,.int 6]):=ag
  have F2:upd H1 l7 (.lst [.int 0,.int 1,.int 1,.int 2,.int 2,.int 3,.int 6]) fo=some (.lst (bj [])):=by rw [aj (aV F1 hl7)];exact F1
  generalize upd H1 l7 (.lst [.int 0,.int 1,.int 1,.int 2,.int 2,.int 3,.int 6])=H2 at P2 K2 L2' F2 ⊢
  refine⟨_,rfl,p,7,rfl,P2,by decide,by decide,fun r1 H3 a0 a1 P3 K3'=>?_⟩
  have L3:=K3'.at nl7 L2'
  have F3:=K3'.at nfp F2
  have K3:=K2.trans K3'
  have hc:∃c:Int,([V.int 0,V.int 1,V.int 1,V.int 2,V.int 2,V.int 3,V.int 6]:List V)[r1.toNat]?=some (.int c)/\0<=c/\c<=6:=by
   have:r1=0\/r1=1\/r1=2\/r1=3\/r1=4\/r1=5\/r1=6:=by omega
   rcases this with rfl | rfl | rfl | rfl | rfl | rfl | rfl
   ·exact⟨0,rfl,by decide,by decide⟩
   ·exact⟨1,rfl,by decide,by decide⟩
   ·exact⟨1,rfl,by decide,by decide⟩
   ·exact⟨2,rfl,by decide,by decide⟩
   ·exact⟨2,rfl,by decide,by decide⟩
   ·exact⟨3,rfl,by decide,by decide⟩
   ·exact⟨6,rfl,by decide,by decide⟩
  obtain⟨c1,hc1,c10,c16⟩:=hc
  have hdiv:(0:Int)<=30 / ((m:Int) - 1):=Int.ediv_nonneg (by decide) (by omega)
  refine aH (j:=r1.toNat) (.inl (SqL.of L3)) (by omega) hc1 ⟨_,rfl,_,_,rfl,rfl,_,_,rfl,rfl,⟨by omega,by omega⟩,_,_,rfl,?_⟩
  have hT:∃T:Int,(if 30 / ((m:Int) - 1) < c1 then 30 / ((m:Int) - 1) else c1)=T/\0<=T/\T<=6/\T<=30 / ((m:Int) - 1):=by
   split
   ·exact⟨_,rfl,hdiv,by omega,Int.le_refl _⟩
   ·exact⟨_,rfl,c10,c16,by omega⟩
  obtain⟨T,eT,T0,T6,Td⟩:=hT
  rw [eT]
  refine⟨_,rfl,by omega,by omega,fH (fun i σ H4=>∃(prs:List Pr) (g1 g2 g3:Option V),σ=[some (.ref p),some (.int m),some (.ref fo),g1,g2,g3]/\Pot H4 p/\H4 fo=some (.lst (bj prs))/\bq H4 prs/\b8 m prs/\prs.length=i * (m - 1)/\EnT m i prs/\Kp [p] H H4)
   ⟨[],none,none,none,rfl,P3,F3,by simp [bq],by simp [b8],by simp,EnT.zero,K3⟩ ?_ ?_⟩
  ·rintro i σ H4 hi ⟨prs,g1,g2,g3,rfl,P4,F4,A4,O4,hl,E4,K4⟩
   have hb:=ip (i:=i + 1) m2 m8 Td (by omega)
   rw [Nat.succ_mul] at hb
   refine⟨_,rfl,.inl ⟨rfl,_,SqL.of F4⟩,_,rfl,1,(m:Int),rfl,⟨by decide,by decide,by omega,by omega⟩,?_⟩
   have em:((m:Int) - 1).toNat=m - 1:=by omega
   rw [em]
   refine fB (fits (by omega)) (fun j ys σ H5=>(∃qs:List Pr,ys=bj qs/\bq H5 qs/\b8 m qs/\qs.length=j/\fq qs)/\Pot H5 p/\Kp [p] H4 H5/\∃x,σ=[x,some (.ref p)])
    ⟨⟨[],rfl,by simp [bq],by simp [b8],rfl,by simp [fq]⟩,P4,Kp.refl _ _,_,rfl⟩ (fun j ys σ H5 _ q=>by obtain⟨⟨qs,rfl,_,_,rfl,_⟩,_⟩:=q;simp) ?_ ?_
   ·rintro j ys σ H5 hj ⟨⟨qs,rfl,A5,O5,rfl,R5⟩,P5,K5,v,rfl⟩
    refine⟨_,rfl,_,rfl,p,_,rfl,P5,by omega,by omega,fun r H6 r0 r1 P6 K6=>⟨_,rfl,by show 2<=sizeLine;decide,fun t ht=>?_⟩⟩
    refine⟨⟨qs++[(t,r,1 + (qs.length:Int))],by simp [bj],?_,?_,by simp,R5.snoc r0 (by omega)⟩,P6.new ht,(K5.trans K6).new ht,_,rfl⟩
    ·exact ((A5.kp K6 P5).new ht).app (bq.one ag)
    ·exact O5.app (b8.one ⟨r0,by omega,by omega,by omega,by omega⟩)
   ·rintro ys σ H5 ⟨⟨qs,rfl,A5,O5,hql,R5⟩,P5,K5,v,rfl⟩ t ht
    have F5:=K5.at nfp F4
    have F6:upd H5 t (.lst (bj qs)) fo=some (.lst (bj prs)):=by rw [aj (aV F5 ht)];exact F5
    have A6:bq (upd H5 t (.lst (bj qs))) (prs++qs):=((A4.kp K5 P4).app A5).new ht
    have P6:=P5.new (o:=.lst (bj qs)) ht
    have K6:=(K4.trans K5).new (o:=.lst (bj qs)) ht
    refine⟨fo,t,bj prs,bj qs,rfl,rfl,F6,ag,by rw [sizeLine_eq];simp;omega,?_⟩
    refine⟨prs++qs,_,_,_,rfl,P6.upd nfp,by rw [ag];simp [bj],A6.over F6,O4.app O5,by rw [List.length_append,hl,hql,Nat.succ_mul],E4.add (EnT.one R5 hql),fun b o e nb=>by rw [aj (aV e hfo)];exact K6 b o e nb⟩
  ·rintro σ H4 ⟨prs,g1,g2,g3,rfl,P4,F4,A4,O4,hl,E4,K4⟩
   have hl30:prs.length<=30:=by
    rw [hl]
    exact ip m2 m8 Td (by omega)
   have hTm:=ip (i:=T.toNat) m2 m8 Td (by omega)
   have hlm:prs.length<=T.toNat * (m - 1):=Nat.le_of_eq hl
   clear hl
   refine⟨_,rfl,p,4,rfl,P4,by decide,by decide,fun r1 H5 a0 a1 P5 K5'=>⟨_,rfl,p,11,rfl,P5,by decide,by decide,fun r2 H6 b0 b1 P6 K6'=>?_⟩⟩
   have F6:=K6'.at nfp (K5'.at nfp F4)
   have A6:=(A4.kp K5' P4).kp K6' P5
   have K6:=(K4.trans K5').trans K6'
   refine⟨by show 2<=sizeLine;decide,fun l2 hl2=>?_⟩
   have nl2:=P6.ne_new hl2
   have P7:=P6.new (o:=.lst [.int r1,.int r2]) hl2
   have K7:=K6.new (o:=.lst [.int r1,.int r2]) hl2
   have A7:=A6.new (o:=.lst [.int r1,.int r2]) hl2
   have F7:upd H6 l2 (.lst [.int r1,.int r2]) fo=some (.lst (bj prs)):=by rw [aj (aV F6 hl2)];exact F6
   have L7:upd H6 l2 (.lst [.int r1,.int r2]) l2=some (.lst [.int r1,.int r2]):=ag
   generalize upd H6 l2 (.lst [.int r1,.int r2])=H7 at P7 K7 A7 F7 L7 ⊢
   refine⟨_,rfl,p,2,rfl,P7,by decide,by decide,fun r3 H8 c0 c1' P8 K8'=>?_⟩
   have L8:=K8'.at nl2 L7
   have F8:=K8'.at nfp F7
   have A8:=A7.kp K8' P7
   have K8:=K7.trans K8'
   have hn:∃e:Int,([V.int r1,V.int r2]:List V)[r3.toNat]?=some (.int e)/\0<=e/\e<=10:=by
    have:r3=0\/r3=1:=by omega
    rcases this with rfl | rfl
    ·exact⟨r1,rfl,by omega,by omega⟩
    ·exact⟨r2,rfl,by omega,by omega⟩
   obtain⟨e,he,e0,e1⟩:=hn
   refine aH (j:=r3.toNat) (.inl (SqL.of L8)) (by omega) he ⟨_,rfl,by omega,by omega,fH (fun i σ H4=>∃(prs:List Pr) (g1 g2 g3:Option V),σ=[some (.ref p),some (.int m),some (.ref fo),g1,g2,g3]/\Pot H4 p/\H4 fo=some (.lst (bj prs))/\bq H4 prs/\b8 m prs/\prs.length<=30 + i/\prs.length<=T.toNat * (m - 1) + i/\EnT m T.toNat prs/\Kp [p] H H4)
    ⟨prs,_,_,_,rfl,P8,F8,A8,O4,by omega,by omega,E4,K8⟩ ?_ ?_⟩
   ·rintro i σ H9 hi ⟨prs,g1,g2,g3,rfl,P9,F9,A9,O9,hl9,hm9,E9,K9⟩
    refine⟨_,rfl,_,rfl,p,_,rfl,P9,by omega,by omega,fun a H10 ha0 ha1 P10 K10'=>?_⟩
    have F10:=K10'.at nfp F9
    have A10:=A9.kp K10' P9
    refine⟨_,rfl,.inl ⟨rfl,_,SqL.of F10⟩,_,rfl,_,rfl,_,_,rfl,rfl,_,rfl,_,rfl,_,_,rfl,rfl,p,_,rfl,P10,by omega,by omega,fun r H11 hr0 hr1 P11 K11'=>?_⟩
    have F11:=K11'.at nfp F10
    have A11:=A10.kp K11' P10
    have K11:=(K9.trans K10').trans K11'
    refine⟨_,_,rfl,rfl,_,rfl,_,_,rfl,rfl,by omega,by show 2<=sizeLine;decide,fun t ht=>?_⟩
    obtain⟨b1,b2,b3⟩:=uu ha0 ha1 hr0 hr1
    have F12:upd H11 t (.tup [.int a,.int ((a + 1 + r) % (m:Int))]) fo=some (.lst (bj prs)):=by rw [aj (aV F11 ht)];exact F11
    refine⟨fo,bj prs,_,rfl,rfl,F12,fits (by simp;omega),prs++[(t,a,(a + 1 + r) % (m:Int))],_,_,_,rfl,(P11.new ht).upd nfp,by rw [ag];simp [bj],?_,O9.app (b8.one ⟨ha0,ha1,b2,b3,b1.symm⟩),by simp;omega,by rw [List.length_append];show _ + 1<=_;omega,E9.app _,?_⟩
    ·exact ((A11.new ht).app (bq.one ag)).over F12
    ·exact fun b o e nb=>by rw [aj (aV e hfo)];exact (K11.new ht) b o e nb
   ·rintro σ H9 ⟨prs,g1,g2,g3,rfl,P9,F9,A9,O9,hl9,hm9,E9,K9⟩
    exact⟨_,rfl,k fo prs H9 P9 F9 hfo A9 O9 (by omega) ⟨T.toNat,by omega,hTm,by omega,E9⟩ K9⟩
end
noncomputable def pick (S:List Str) (t p:Str):Str:=if decide (p∈S)=true then t else p
noncomputable def bG (S ts ps:List Str):List Str:=List.zipWith (pick S) ts ps++ts.drop (min ts.length ps.length)
theorem iw (S:List Str):∀(ts ps:List Str) (x:Str),x∈bG S ts ps->x∈ts\/(x∈ps/\x∉S)
 | [],ps,x,h=>by simp [bG] at h
 | t::ts,[],x,h=>by simp [bG] at h;exact .inl (List.mem_cons.mpr h)
 | t::ts,p::ps,x,h=>by
  have e:bG S (t::ts) (p::ps)=pick S t p::bG S ts ps:=by
   unfold bG
   simp [Nat.succ_min_succ]
  rw [e] at h
  rcases List.mem_cons.mp h with z | z
  ·unfold pick at z
   split at z
   ·exact .inl (by rw [z];exact List.mem_cons_self)
   ·next c=>exact .inr ⟨by rw [z];exact List.mem_cons_self,by rw [z];simpa using c⟩
  ·rcases iw S ts ps x z with q | ⟨q,r⟩
   ·exact .inl (List.mem_cons_of_mem _ q)
   ·exact .inr ⟨List.mem_cons_of_mem _ q,r⟩
theorem jS (S:List Str):∀(ts ps:List Str),ts.Nodup->ps.Nodup->(∀t∈ts,t∈S)->(bG S ts ps).Nodup
 | [],ps,_,_,_=>by simp [bG]
 | t::ts,[],h,_,_=>by simpa [bG] using h
 | t::ts,p::ps,h1,h2,hS=>by
  have e:bG S (t::ts) (p::ps)=pick S t p::bG S ts ps:=by
   unfold bG
   simp [Nat.succ_min_succ]
  rw [e]
  have n1:=List.nodup_cons.mp h1
  have n2:=List.nodup_cons.mp h2
  refine List.nodup_cons.mpr ⟨fun hm=>?_,jS S ts ps n1.2 n2.2 fun x hx=>hS x (List.mem_cons_of_mem _ hx)⟩
  rcases iw S ts ps _ hm with q | ⟨q,r⟩
  ·unfold pick at q
   split at q
   ·exact n1.1 q
   ·next c=>exact absurd (hS p (List.mem_cons_of_mem _ q)) (by simpa using c)
  ·unfold pick at q r
   split at q
   ·next c=>rw [if_pos c] at r;exact r (hS t List.mem_cons_self)
   ·exact n2.1 q
theorem pI (S:List Str) (ts ps:List Str):(bG S ts ps).length=ts.length:=by
 unfold bG
 rw [List.length_append,List.length_zipWith,List.length_drop]
 omega
theorem oH {S ts ps:List Str} (h1:∀x∈ts,aE x) (h2:∀x∈ps,aE x):∀x∈bG S ts ps,aE x:=fun x hx=>by
 rcases iw S ts ps x hx with q | ⟨q,_⟩
 ·exact h1 x q
 ·exact h2 x q
theorem k8 (xs:List V) {n:Nat} (h:n<=xs.length):bR xs (some (n:Int)) none=xs.drop n:=by
 unfold bR
 have h0:¬ ((n:Int) < 0):=by omega
 have h1:min n xs.length=n:=by omega
 simp [HT.sIx,h0]
 rw [List.take_of_length_le (by simp)]
 rw [h1]
theorem kU {K:PySem.W.Frag}{g:TG}{te:TE}{σ':St}{fin:List V->Hp->Prop}{H1:Hp}{a b:Addr}{xs ys:List V} (hn:min xs.length ys.length < sizeLine) (Pv:Nat->List V->St->Hp->Prop) (h0:Pv 0 [] σ' H1)
  (hl:∀i zs σ H,i<=min xs.length ys.length->Pv i zs σ H->zs.length<=i/\SqL K H a xs/\SqL K H b ys)
  (hs:∀i x y zs σ H T,xs[i]?=some x->ys[i]?=some y->Pv i zs σ H->H T=none->g (.ref T) σ (upd H T (.tup [x,y])) fun σ2 H2=>te σ2 H2 (fun v H4=>Pv (i + 1) (zs++[v]) σ2 H4))
  (hd:∀zs σ H,Pv (min xs.length ys.length) zs σ H->fin zs H):LcW (Itz K a b) g bQ te σ' fin H1 :=
 sv hn Pv h0 hl (fun i x y zs σ H T hx hy p hT=>by
  have e:(fun σ2 H2=>bQ σ2 H2 fun b H3=>if b=true then te σ2 H3 (fun v H4=>Pv (i + 1) (zs++[v]) σ2 H4) else Pv (i + 1) zs σ2 H3)=fun σ2 H2=>te σ2 H2 (fun v H4=>Pv (i + 1) (zs++[v]) σ2 H4):=by
   funext σ2 H2
   show (if true=true then te σ2 H2 (fun v H4=>Pv (i + 1) (zs++[v]) σ2 H4) else Pv (i + 1) zs σ2 H2)=_
   rw [if_pos rfl]
  rw [e]
  exact hs i x y zs σ H T hx hy p hT) hd
section
variable {P:Program}{w:World}{K:PySem.W.Frag}{mg:Str->Option Value}{base:Heap}
noncomputable def lp:Sp:=fun vs H Q _=>∃(p ta pa:Addr) (ts ps:List Str),vs=[.ref p,.ref ta,.ref pa]/\Pot H p/\H ta=some (.lst (ts.map V.str))/\H pa=some (.lst (ps.map V.str))/\ts.length<=40/\ps.length<=8/\ts.Nodup/\ps.Nodup/\(∀x∈ts,aE x)/\(∀x∈ps,aE x) /\
 ∀(q:Addr) (ns:List Str) (H':Hp),Pot H' p->H' q=some (.lst (ns.map V.str))->(∀x∈ns,aE x)->ns.Nodup->ns.length=ts.length->Kp [p] H H'->Q (.ref q) H'
noncomputable abbrev N42:List Str:=["_law_pot_here","_law_ties","_law_places","_law_found"]
theorem nP:aP N42 ["_law_pot_here","_law_ties","_law_places"] (aC (top 42)):=⟨rfl,rfl,rfl,by decide +kernel,rfl,by decide +kernel,by decide +kernel⟩
theorem pP {f:Addr}{fd:FuncData} (F:Fun K "_law_called" "_law_called" (top 42) f fd) (B:Bl mg) (Ft:Fn P w K mg base 1 "_law_take" ["_law_pot_here","_law_many"] dz):aG P w K mg base CX0 2 f fd ["_law_pot_here","_law_ties","_law_places"] lp:=by
 refine F.ok nP (fun vs H Q E h=>?_) (fun cdv A outer s H vs Q E hr h=>?_)
 ·obtain⟨p,ta,pa,ts,ps,rfl,_⟩:=h
  rfl
 ·obtain⟨p,ta,pa,ts,ps,rfl,hp,ht,hpl,t40,p8,tn,pn,tnm,pnm,k⟩:=h
  refine⟨_,ao (bh (aZ fc (aw Ft hr (aa (pv 0) (aa ai ae))) ai (ba _)) (ax (aI (pv 1))) bf)
   (ao (cX (i:=3) (N:=["_law_tie","_law_place","_law_ties"]) (ix:=[none,none,some 1]) nP.nd rfl (Or.inl rfl) ⟨rfl,rfl,rfl,by decide⟩ rfl (mP rfl B.zip (aa (pv 1) (aa (pv 2) ae)))
    (fun _ _ _ _=>i5 K rfl (n:=2) (bB (aQ 0 (by decide) rfl rfl) (bB (aQ 1 (by decide) rfl rfl) cI))) (fun _ _ _ _=>bc)
    (fun _ _ _ _=>kS (aZ (fC K) (pv 1) (pv 2) (by with_unfolding_all rfl)) (pv 1) (pv 0)))
   (ax (aI (aB ez (pv 3) (eN gw (pv 1) (eQ (aA bA rfl B.len PySem.boot_len (aa (pv 3) ae))) eR))))),?_⟩
  refine⟨_,rfl,p,4,rfl,hp,by decide,by decide,fun r H1 r0 r1 P1 K1=>⟨_,_,rfl,rfl,_,rfl,?_⟩⟩
  have ntp:=fQ hp ht
  have npp:=fQ hp hpl
  have t1:=K1.at ntp ht
  have p1:=K1.at npp hpl
  refine be (fun c=>⟨_,rfl,k ta ts H1 P1 t1 tnm tn rfl K1⟩) (fun c=>?_)
  refine⟨_,rfl,_,rfl,ta,pa,_,_,rfl,SqL.of t1,SqL.of p1,?_⟩
  refine kU (xs:=ts.map V.str) (ys:=ps.map V.str) (fits (by simp;omega)) (fun i zs σ H2=>zs=((List.zipWith (pick ts) ts ps).take i).map V.str/\af H1 H2/\∃g1 g2,σ=[g1,g2,some (.ref ta)]) ⟨rfl,af.refl _,_,_,rfl⟩
   (fun i zs σ H2 _ q=>⟨by rw [q.1];simp;omega,SqL.of (q.2.1 _ _ t1),SqL.of (q.2.1 _ _ p1)⟩) ?_ ?_
  ·rintro i x y zs σ H2 T hx hy ⟨rfl,s2,g1,g2,rfl⟩ hT
   rw [List.getElem?_map] at hx hy
   cases hc:ts[i]? with
   | none=>rw [hc] at hx;cases hx
   | some t =>
    cases hd:ps[i]? with
    | none=>rw [hd] at hy;cases hy
    | some q =>
     rw [hc] at hx
     rw [hd] at hy
     cases hx
     cases hy
     have s3:=am (o:=.tup [.str t,.str q]) s2 hT
     have hz:(List.zipWith (pick ts) ts ps)[i]?=some (pick ts t q):=by
      rw [List.getElem?_zipWith,hc,hd]
     have hst:((List.zipWith (pick ts) ts ps).take (i + 1)).map V.str=((List.zipWith (pick ts) ts ps).take i).map V.str++[V.str (pick ts t q)]:=jO _ _ _ _ hz
     refine⟨T,_,rfl,SqT.of ag,rfl,_,_,rfl,_,_,rfl,rfl,?_⟩
     refine⟨_,rfl,_,rfl,ta,ts.map V.str,rfl,.inl (SqL.of (s3 _ _ t1)),rfl,b9 ts,_,rfl,?_⟩
     show if (!inV (.str q) (ts.map V.str))=true then _ else _
     rw [cf]
     refine be (fun c=>⟨_,rfl,?_,s3,_,_,rfl⟩) (fun c=>⟨_,rfl,?_,s3,_,_,rfl⟩)
     ·rw [hst]
      have c':decide (q∈ts)=false:=by simpa using c
      unfold pick
      rw [c']
      rfl
     ·rw [hst]
      have c':decide (q∈ts)=true:=by simpa using c
      unfold pick
      rw [if_pos c']
  ·rintro zs σ H2 ⟨rfl,s2,g1,g2,rfl⟩ fo hfo
   have hzl:(List.zipWith (pick ts) ts ps).length=min ts.length ps.length:=List.length_zipWith
   rw [take_all (List.zipWith (pick ts) ts ps) (by simp)]
   have s3:=am (o:=.lst ((List.zipWith (pick ts) ts ps).map V.str)) s2 hfo
   have f3:upd H2 fo (.lst ((List.zipWith (pick ts) ts ps).map V.str)) fo=some (.lst ((List.zipWith (pick ts) ts ps).map V.str)):=ag
   generalize upd H2 fo (.lst ((List.zipWith (pick ts) ts ps).map V.str))=H3 at s3 f3 ⊢
   refine⟨_,rfl,_,rfl,_,rfl,fo,_,rfl,.inl (SqL.of f3),_,rfl,ta,_,rfl,SqL.of (s3 _ _ t1),fun c2 hc2=>?_⟩
   rw [k8 _ (by simp [hzl];omega)]
   have f4:upd H3 c2 (.lst ((ts.map V.str).drop ((List.zipWith (pick ts) ts ps).map V.str).length)) fo=some (.lst ((List.zipWith (pick ts) ts ps).map V.str)):=by rw [aj (aV f3 hc2)];exact f3
   have s4:=am (o:=.lst ((ts.map V.str).drop ((List.zipWith (pick ts) ts ps).map V.str).length)) s3 hc2
   refine⟨fo,c2,_,_,rfl,rfl,f4,ag,by rw [sizeLine_eq];simp [hzl];omega,fun q hq=>?_⟩
   have eL:(List.zipWith (pick ts) ts ps).map V.str++(ts.map V.str).drop ((List.zipWith (pick ts) ts ps).map V.str).length=(bG ts ts ps).map V.str:=by
    unfold bG
    rw [List.map_append,List.map_drop,List.length_map,hzl]
   rw [eL]
   have s5:=am (o:=.lst ((bG ts ts ps).map V.str)) s4 hq
   refine k q (bG ts ts ps) _ (P1.keep fun o e=>s5 _ _ e) ag (oH tnm pnm) (jS ts ts ps tn pn fun t ht=>ht) (pI ts ts ps) (K1.of_same s5)
end
end K44
namespace K44
open PySem L2 PySem.Spec PyProof.Rows
theorem snoc_ind {P:List Str->Prop} (h0:P []) (hs:∀l x,P l->P (l++[x])):∀l,P l:=by
 have q:∀(l pre:List Str),P pre->P (pre++l):=by
  intro l
  induction l with
  | nil=>intro pre hp;simpa using hp
  | cons x r ih =>
   intro pre hp
   have:=ih (pre++[x]) (hs pre x hp)
   simpa using this
 intro l
 simpa using q l [] h0
noncomputable def subs (ps:List Str):List (List Str):=ps.foldl (fun f p=>f++f.map fun l=>l++[p]) [[]]
theorem dQ (ps:List Str) (p:Str):subs (ps++[p])=subs ps++(subs ps).map fun l=>l++[p]:=by
 unfold subs
 rw [List.foldl_append]
 rfl
theorem qr:∀ps:List Str,∃r,subs ps=[]::r:=snoc_ind ⟨[],rfl⟩ fun l x h=>by
 obtain⟨r,e⟩:=h
 rw [dQ,e]
 exact⟨_,rfl⟩
theorem iQ:∀ps:List Str,(subs ps).length=2 ^ ps.length:=snoc_ind rfl fun l x h=>by
 rw [dQ,List.length_append,List.length_map,h,List.length_append,List.length_singleton,Nat.pow_succ]
 omega
theorem gi:∀ps:List Str,∀l∈subs ps,l.Sublist ps:=snoc_ind (fun l h=>by
  have e:l=[]:=by simpa [subs] using h
  subst e;exact List.Sublist.refl _) fun ps x h l hl=>by
 rw [dQ] at hl
 rcases List.mem_append.mp hl with z | z
 ·exact (h l z).trans (List.sublist_append_left _ _)
 ·obtain⟨m,hm,rfl⟩:=List.mem_map.mp z
  exact (h m hm).append (List.Sublist.refl _)
theorem jY:∀ps:List Str,ps.Nodup->(subs ps).Nodup:=snoc_ind (fun _=>by simp [subs]) fun ps x h hn=>by
 have hn':=List.nodup_append.mp hn
 have hx:x∉ps:=fun z=>hn'.2.2 x z x (by simp) rfl
 have ih:=h hn'.1
 rw [dQ]
 refine List.nodup_append.mpr ⟨ih,?_,fun a ha b hb=>?_⟩
 ·exact List.pairwise_map.mpr (ih.imp fun {a b} hab z=>hab (List.append_cancel_right z))
 ·obtain⟨m,hm,rfl⟩:=List.mem_map.mp hb
  intro z
  exact hx ((gi ps a ha).subset (by rw [z];simp))
noncomputable def ay (ps:List Str):List (List Str):=(subs ps).tail
theorem eP (ps:List Str):subs ps=[]::ay ps:=by
 obtain⟨r,e⟩:=qr ps
 unfold ay
 rw [e];rfl
theorem fD {ps:List Str} (h:ps.Nodup):(ay ps).Nodup:=by
 have q:=jY ps h
 rw [eP] at q
 exact (List.nodup_cons.mp q).2
theorem gu (ps:List Str):(ay ps).length + 1=2 ^ ps.length:=by
 have q:=iQ ps
 rw [eP] at q
 simpa using q
theorem cQ {ps l:List Str} (h:l∈ay ps):l.Sublist ps:=gi ps l (by rw [eP];exact List.mem_cons_of_mem _ h)
theorem eW {n:Nat} (h:n<=8):2 ^ n<=256:=by
 have:=Nat.pow_le_pow_right (show 0 < 2 by decide) h
 simpa using this
theorem mz (bt:Nat->Nat->Bool):∀k,argBest bt k<=k
 | 0=>Nat.le_refl _
 | k + 1=>by
  unfold argBest
  split
  ·exact Nat.le_refl _
  ·exact Nat.le_succ_of_le (mz bt k)
theorem kL (bt:Nat->Nat->Bool) (c:Nat->Int) (h1:∀i j,bt i j=true->c i<=c j) (h2:∀i j,bt i j=false->c j<=c i):∀k j,j<=k->c (argBest bt k)<=c j
 | 0,j,hj=>by
  have e:j=0:=by omega
  subst e;exact Int.le_refl _
 | k + 1,j,hj=>by
  have ih:=kL bt c h1 h2 k
  unfold argBest
  cases e:bt (k + 1) (argBest bt k) with
  | true =>
   rw [if_pos rfl]
   have q:=h1 _ _ e
   by_cases hk:j=k + 1
   ·subst hk;exact Int.le_refl _
   ·exact Int.le_trans q (ih j (by omega))
  | false =>
   rw [if_neg Bool.false_ne_true]
   have q:=h2 _ _ e
   by_cases hk:j=k + 1
   ·subst hk;exact q
   ·exact ih j (by omega)
noncomputable abbrev ak (tss:List (Addr×List Str)):List V:=tss.map fun x=>V.ref x.1
theorem bZ {lr:List (Addr×List Str)}{i:Nat}{x:V} (h:(ak lr)[i]?=some x):∃r,lr[i]?=some r/\x=.ref r.1:=by
 unfold ak at h
 rw [List.getElem?_map] at h
 cases e:lr[i]? with
 | none=>rw [e] at h;cases h
 | some r=>rw [e] at h;exact⟨r,rfl,(Option.some.inj h).symm⟩
noncomputable def aO (H:Hp) (lts:List (Addr×List Str)):Prop:=∀x∈lts,H x.1=some (.tup (x.2.map V.str))
theorem aO.same {H H':Hp}{lts:List (Addr×List Str)} (h:aO H lts) (s:af H H'):aO H' lts:=fun x hx=>s _ _ (h x hx)
theorem aO.app {H:Hp}{a b:List (Addr×List Str)} (h:aO H a) (g:aO H b):aO H (a++b):=fun x hx=>(List.mem_append.mp hx).elim (h x) (g x)
theorem aO.one {H:Hp}{t:Addr}{ls:List Str} (h:H t=some (.tup (ls.map V.str))):aO H [(t,ls)]:=fun x hx=>by
 have e:x=(t,ls):=by simpa using hx
 subst e;exact h
theorem gC {H:Hp}{a b:Addr}{ss ts:List Str} (ha:H a=some (.tup (ss.map V.str))) (hb:H b=some (.tup (ts.map V.str))) (e:a=b):ss=ts:=by
 rw [e,hb] at ha
 have:=HO.tup.inj (Option.some.inj ha)
 exact ((List.map_inj_right (fun x y h=>V.str.inj h)).mp this).symm
noncomputable def lB (K:PySem.W.Frag):R2:=fun x y H Q=>∃(a p:Addr) (ss:List Str) (lts:List (Addr×List Str)),x=.ref a/\y=.ref p/\H a=some (.tup (ss.map V.str))/\(∀z∈ss,aE z)/\SqL K H p (ak lts)/\aO H lts/\(∀l∈lts,∀z∈l.2,aE z)/\Q (.bl (!decide (ss∈lts.map (·.2)))) H
theorem qd {X:Cx}{k:Nat} (hr:aN k X.A):OpR X (compareOp .NotIn) (lB X.K):=by
 intro pins s σ H x y v u Q I rx ry h
 obtain⟨a,p,ss,lts,rfl,rfl,ha,hs,hq,hL,hn,q⟩:=h
 cases rx
 cases ry
 obtain⟨its,r',pl,hz⟩:=I.list hq
 have hun:=hr.un
 obtain⟨as,r1⟩:=(DV.tup ha (DVs.strs _)).reads I.hok (show RelV (.ref a) (Value.ref a) from rfl)
 have item:∀(i:Nat) (v:Value),its[i]?=some v->∃l,lts[i]?=some l/\v=Value.ref l.1:=fun i v hv=>by
  have hlen:=r'.length
  rw [List.length_map] at hlen
  have hi:i < lts.length:=by rw [hlen];exact (List.getElem?_eq_some_iff.mp hv).1
  have e1:(ak lts)[i]?=some (V.ref lts[i].1):=by rw [List.getElem?_map,List.getElem?_eq_getElem hi];rfl
  obtain⟨w',e2,rw'⟩:=r'.get e1
  rw [hv] at e2
  cases e2
  exact⟨lts[i],List.getElem?_eq_getElem hi,rw'⟩
 have data:∀y∈its,∃l∈lts,y=Value.ref l.1:=fun y hy=>by
  obtain⟨i,hi⟩:=List.getElem?_of_mem hy
  obtain⟨l,h1,h2⟩:=item i y hi
  exact⟨l,List.mem_of_getElem? h1,h2⟩
 let e:Value->Bool:=fun y=>match y with | .ref c=>lts.any fun l=>decide (l.1=c) && decide (l.2=ss) | _=>false
 have ee:∀c,e (.ref c)=true ↔ ∃l∈lts,l.1=c/\l.2=ss:=fun c=>by
  show (lts.any fun l=>decide (l.1=c) && decide (l.2=ss))=true ↔ _
  rw [List.any_eq_true]
  simp only [Bool.and_eq_true,decide_eq_true_eq]
 refine SeqAt.notIn_listAt e pl.isList (fun y hy=>?_) ?_
 ·obtain⟨l,hl,rfl⟩:=data y (by simpa using hy)
  have el:e (.ref l.1)=decide (l.2=ss):=by
   rw [Bool.eq_iff_iff,ee,decide_eq_true_iff]
   constructor
   ·rintro⟨m,hm,em,es⟩
    rw [gC (hL l hl) (hL m hm) em.symm];exact es
   ·exact fun q=>⟨l,hl,rfl,q⟩
  rw [el]
  by_cases hab:l.1=a
  ·rw [decide_eq_true (gC (hL l hl) ha hab),hab]
   exact SeqAt.EqAt.same _
  ·refine SeqAt.EqAt.of_refs hab fun prog w E Q hq=>?_
   obtain⟨bs,r2⟩:=(DV.tup (hL l hl) (DVs.strs _)).reads I.hok (show RelV (.ref l.1) (Value.ref l.1) from rfl)
   have ev:PyData.eqv (.tuple (l.2.map PyData.str)) (.tuple (ss.map PyData.str))=decide (l.2=ss):=fw _ _
   refine (eq_dataH (A:=X.A.in1) r2 r1 (cN (hn l hl)).2 (cN hs).2 (by show X.A.units + 1 + 64 < cLine;omega) ?_:wpAny (model prog w) X.A.in1 (compareOp .Eq (.ref l.1) (.ref a)) Q E _)
   rw [ev];exact hq
 ·have ea:its.toArray.any e=decide (ss∈lts.map (·.2)):=by
   rw [Bool.eq_iff_iff,List.any_toArray,List.any_eq_true,decide_eq_true_iff]
   constructor
   ·rintro⟨y,hy,ey⟩
    obtain⟨m,hm,rfl⟩:=data y hy
    obtain⟨l,hl,_,es⟩:=(ee _).mp ey
    exact es ▸ List.mem_map_of_mem hl
   ·intro hm
    obtain⟨l,hl,es⟩:=List.mem_map.mp hm
    obtain⟨i,hi⟩:=List.getElem?_of_mem hl
    obtain⟨w',e2,rw'⟩:=r'.get (show (ak lts)[i]?=some (V.ref l.1) by rw [List.getElem?_map,hi];rfl)
    cases rw'
    exact⟨_,List.mem_of_getElem? e2,(ee _).mpr ⟨l,hl,rfl,es⟩⟩
  rw [ea]
  exact⟨V.bl (!decide (ss∈lts.map (fun z:Addr×List Str=>z.2))),H,I,rfl,q⟩
theorem ll (K:PySem.W.Frag) {X:Cx} (h:X.K=K:=by rfl):OpR X (binaryOp .Add) (ny K):=by subst h;exact tW
theorem j3 (x:V) (r:List V):bR (x::r) (some 1) none=r:=by
 unfold bR
 simp [HT.sIx]
section
variable {P:Program}{w:World}{K:PySem.W.Frag}{mg:Str->Option Value}{base:Heap}
noncomputable def gb:Sp:=fun vs H Q _=>∃(pa:Addr) (ps:List Str),vs=[.ref pa]/\(H pa=some (.lst (ps.map V.str))\/H pa=some (.tup (ps.map V.str)))/\ps.length<=8 /\
 ∀(q:Addr) (lts:List (Addr×List Str)) (H':Hp),af H H'->H' q=some (.lst (ak lts))->aO H' lts->lts.map (·.2)=ay ps->Q (.ref q) H'
theorem ic:aP ["places","lots","place"] ["places"] (aC (top 21)):=⟨rfl,rfl,rfl,by decide +kernel,rfl,by decide +kernel,by decide +kernel⟩
theorem oy {f:Addr}{fd:FuncData} (F:Fun K "lots_among" "lots_among" (top 21) f fd) (B:Bl mg):aG P w K mg base CX0 1 f fd ["places"] gb:=by
 refine F.ok ic (fun vs H Q E h=>?_) (fun cdv A outer s H vs Q E hr h=>?_)
 ·obtain⟨pa,ps,rfl,_⟩:=h
  rfl
 ·obtain⟨pa,ps,rfl,hp,p8,k⟩:=h
  refine⟨_,ao (aL (i:=1) ic.nd rfl (Or.inl rfl) (bD (aa (bV ae) ae)))
   (ao (bP PassesOwn.never rfl (gM (bg (pv 0)) (bW (pv 0))) (aX (i:=2) ic.nd rfl (Or.inr rfl))
    (ax (aL (i:=1) ic.nd rfl (Or.inl rfl) (aB ez (pv 1) (bp (N:=["lot","place"]) (ix:=[none,some 2]) ⟨rfl,rfl,rfl,by decide⟩ rfl (bg (pv 1)) (fun _ _ _ _=>aQ 0 (by decide) rfl rfl) (fun _ _ _ _=>bc)
     (fun _ _ _ _=>aB (ll K) (pv 0) (bV (aa (pv 1) ae))))))))
   (ax (aI (eN gw (pv 1) (eQ ai) eR)))),?_⟩
  refine⟨Nat.zero_le _,fun e0 he0=>⟨by show 1<=sizeLine;decide,fun f0 hf0=>?_⟩⟩
  have s0:=am (o:=.lst [.ref e0]) (am (o:=.tup []) (af.refl H) he0) hf0
  have E0:upd (upd H e0 (.tup [])) f0 (.lst [.ref e0]) e0=some (.tup ((([]:List Str)).map V.str)):=by
   rw [aj (fun z=>by rw [<- z,ag] at hf0;cases hf0),ag];rfl
  have F0:upd (upd H e0 (.tup [])) f0 (.lst [.ref e0]) f0=some (.lst (ak [(e0,[])])):=ag
  generalize upd (upd H e0 (.tup [])) f0 (.lst [.ref e0])=H0 at s0 E0 F0 ⊢
  refine iO (K:=K) (Hb:=H) (a:=pa) (xs:=ps.map V.str) (fun Q q=>⟨_,rfl,q⟩) hp s0 (fun i σ H1=>af H H1/\∃(fo:Addr) (lts:List (Addr×List Str)) (g:Option V),σ=[some (.ref pa),some (.ref fo),g]/\H1 fo=some (.lst (ak lts))/\aO H1 lts/\lts.map (·.2)=subs (ps.take i))
   ⟨s0,f0,[(e0,[])],none,rfl,F0,aO.one E0,rfl⟩ (fun i σ H1 _ q=>q.1) ?_ ?_
  ·rintro i x σ H1 hx ⟨s1,fo,lts,g,rfl,F1,A1,e1⟩
   rw [List.getElem?_map] at hx
   cases hc:ps[i]? with
   | none=>rw [hc] at hx;cases hx
   | some pl =>
    rw [hc] at hx
    cases hx
    have hi:i < ps.length:=(List.getElem?_eq_some_iff.mp hc).1
    have hlen:lts.length<=256:=by
     have q:=congrArg List.length e1
     rw [List.length_map,iQ] at q
     rw [q]
     exact eW (by rw [List.length_take];omega)
    have hz8:∀x∈lts,x.2.length<=8:=fun x hx=>by
     have q:=(gi (ps.take i) x.2 (by rw [<- e1];exact List.mem_map_of_mem hx)).length_le
     rw [List.length_take] at q
     omega
    refine⟨_,rfl,_,rfl,fo,rfl,⟨_,SqL.of F1⟩,eI (xs:=ak lts) (fits (by rw [List.length_map];omega)) (fun j ys σ H2=>(∃qs:List (Addr×List Str),ys=ak qs/\aO H2 qs/\qs.map (·.2)=((lts.take j).map (·.2)).map fun l=>l++[pl])/\af H1 H2/\∃v,σ=[v,some (.str pl)])
     ⟨⟨[],rfl,by simp [aO],rfl⟩,af.refl _,_,rfl⟩ (fun j ys σ H2 _ q=>?_) ?_ ?_⟩
    ·obtain⟨⟨qs,rfl,_,e⟩,s2,_⟩:=q
     have q:=congrArg List.length e
     simp only [List.length_map,List.length_take] at q
     exact⟨by rw [List.length_map];omega,SqL.of (s2 _ _ F1)⟩
    ·rintro j y ys σ H2 hy ⟨⟨qs,rfl,A2,e2⟩,s2,v,rfl⟩
     obtain⟨lt,hlt,rfl⟩:=bZ hy
     have hm:=List.mem_of_getElem? hlt
     refine⟨_,rfl,_,rfl,by show 1<=sizeLine;decide,fun t ht=>?_⟩
     have s3:=am (o:=.tup [.str pl]) s2 ht
     have s3':=am (o:=.tup [.str pl]) (af.refl H2) ht
     have t3:upd H2 t (.tup [.str pl]) t=some (.tup ([pl].map V.str)):=ag
     generalize upd H2 t (.tup [.str pl])=H3 at s3 s3' t3 ⊢
     have hz:=hz8 lt hm
     have est:∀z,qs.map (·.2)++[z]=((lts.take j).map (·.2)).map (fun l=>l++[pl])++[z]:=fun z=>by rw [e2]
     have etk:((lts.take (j + 1)).map (·.2)).map (fun l=>l++[pl])=((lts.take j).map (·.2)).map (fun l=>l++[pl])++[lt.2++[pl]]:=by
      rw [List.take_add_one,hlt,List.map_append,List.map_append];rfl
     refine⟨lt.1,t,lt.2.map V.str,[.str pl],rfl,rfl,SqT.of (s3 _ _ (A1 lt hm)),SqT.of t3,by rw [sizeLine_eq];simp;omega,fun e=>?_,fun e=>(by cases e),fun p hp=>?_⟩
     ·have e':lt.2=[]:=by simpa using e
      exact⟨⟨qs++[(t,lt.2++[pl])],by simp [ak],(A2.same s3').app (aO.one (by rw [e'];exact t3)),by rw [List.map_append,etk];exact est _⟩,s3,_,rfl⟩
     ·have s4':=am (o:=.tup (lt.2.map V.str++[.str pl])) s3' hp
      exact⟨⟨qs++[(p,lt.2++[pl])],by simp [ak],(A2.same s4').app (aO.one (by rw [ag,List.map_append];rfl)),by rw [List.map_append,etk];exact est _⟩,am s3 hp,_,rfl⟩
    ·rintro ys σ H2 ⟨⟨qs,rfl,A2,e2⟩,s2,v,rfl⟩ q hq
     rw [take_all lts (by simp)] at e2
     have hql:qs.length=lts.length:=by
      have q:=congrArg List.length e2
      simpa using q
     have s3':=am (o:=.lst (ak qs)) (af.refl H2) hq
     refine⟨fo,q,_,_,rfl,rfl,s3' _ _ (s2 _ _ F1),ag,by rw [sizeLine_eq,List.length_map,List.length_map];omega,fun q2 hq2'=>?_⟩
     have s4':=am (o:=.lst (ak lts++ak qs)) s3' hq2'
     refine⟨s1.trans (s2.trans s4'),q2,lts++qs,_,rfl,by rw [ag];simp [ak],(A1.same (s2.trans s4')).app (A2.same s4'),?_⟩
     have ets:ps.take (i + 1)=ps.take i++[pl]:=by rw [List.take_add_one,hc];rfl
     rw [List.map_append,e2,e1,ets,dQ]
  ·rintro σ H1 ⟨s1,fo,lts,g,rfl,F1,A1,e1⟩
   rw [take_all ps (by simp),eP] at e1
   cases lts with
   | nil=>cases e1
   | cons h0 rest =>
    obtain⟨eh,er⟩:=List.cons.inj (show h0.2::rest.map (·.2)=[]::ay ps from e1)
    refine⟨_,rfl,_,rfl,fo,_,rfl,SqL.of F1,fun q hq=>?_⟩
    rw [show ak (h0::rest)=V.ref h0.1::ak rest from rfl,j3]
    have s2:=am (o:=.lst (ak rest)) (af.refl H1) hq
    exact k q rest _ (s1.trans s2) ag (fun x hx=>s2 _ _ (A1 x (List.mem_cons_of_mem _ hx))) er
noncomputable def iU:Sp:=fun vs H Q _=>∃(v l pa ra:Addr) (ps ls:List Str) (rs:List (Addr×Row)),vs=[.ref v,.ref l]/\bv H v pa ra ps rs/\rs.length<=60/\H l=some (.tup (ls.map V.str))/\∀H',af H H'->Q (.int ((rs.filter (lead ls)).length)) H'
end
end K44
namespace K44
open PySem L2
noncomputable def others (ps:List Str) (root:Str):List Str:=ps.filter fun y=>!decide (y=root)
theorem fF (ps:List Str) (root:Str):(others ps root).length<=ps.length:=List.length_filter_le _ _
noncomputable def cnt (rs:List (Addr×Row)) (l:List Str):Nat:=(rs.filter (lead l)).length
theorem rQ {rs:List (Addr×Row)}{i:Nat}{r:Addr×Row} (h:rs[i]?=some r) (l:List Str):cnt (rs.take (i + 1)) l=cnt (rs.take i) l + if lead l r=true then 1 else 0:=by
 unfold cnt
 rw [ck _ _ _ _ h,List.length_append]
 congr 1
 split <;> rfl
noncomputable def aR (l:List Str):List Key:=l.map Sum.inr
theorem b6 (l:List Str):(aR l).map kV=l.map V.str:=by unfold aR;rw [List.map_map];rfl
theorem eO {a b:List Str} (h:aR a=aR b):a=b:=(List.map_inj_right (fun x y h=>Sum.inr.inj h)).mp h
theorem qG {κ:Type} [DecidableEq κ] {kvs:List (κ×V)}{k:κ}{v w:V} (h:aU kvs k=some w):(putK kvs k v).length=kvs.length:=by
 unfold putK
 rw [dt,h]
 rw [if_pos (show (some w).isSome=true from rfl),List.length_map]
theorem cm {H H':Hp}{p:Addr}{o:HO} (h:af H H') (hp:H p=none):af H (upd H' p o):=fun b ob e=>by
 rw [aj (aV e hp)];exact h b ob e
theorem iB {K:PySem.W.Frag}{a D:Addr}{xs:List V}{tk tv:TE}{j:Nat}{σ':St}{fin:Hp->Prop}{H1:Hp} (Pv:Nat->St->Hp->Prop) (h0:Pv 0 σ' H1) (hl:∀i σ H,i<=xs.length->Pv i σ H->SqL K H a xs)
  (hs:∀i x σ H,xs[i]?=some x->Pv i σ H->tk (σ.set j (some x)) H (fun y H4=>tv (σ.set j (some x)) H4 fun v H5=>∃H6,jy H5 D y v H6/\Pv (i + 1) (σ.set j (some x)) H6)) (hd:∀σ H,Pv xs.length σ H->fin H):DcW D (Itl K a) (bH j) bQ tk tv σ' fin H1:=by
 refine⟨fun i m σ H=>m=xs.length - i/\i<=xs.length/\Pv i σ H,⟨xs.length,by simp,Nat.zero_le _,h0⟩,?_⟩
 rintro i m σ H ⟨rfl,hi,p⟩
 have q:=hl i σ H hi p
 by_cases hlt:i < xs.length
 ·refine .inr ⟨⟨xs,xs[i],q,by simp [hlt]⟩,Pv (i + 1),fun σ' H' p'=>⟨xs.length - (i + 1),by omega,rfl,hlt,p'⟩,fun x H' y=>?_⟩
  obtain⟨e,y⟩:=y
  subst e
  unfold bH bQ
  exact bJ (hs i x σ _ (y xs q) p)
 ·have e:i=xs.length:=by omega
  subst e
  exact .inl ⟨⟨xs,q,Nat.le_refl _⟩,hd σ H p⟩
section
variable {P:Program}{w:World}{K:PySem.W.Frag}{mg:Str->Option Value}{base:Heap}
noncomputable def iF:Sp:=fun vs H Q _=>∃(ra lo:Addr) (rs:List (Addr×Row)) (lts:List (Addr×List Str)),vs=[.ref ra,.ref lo]/\(H ra=some (.lst (ar rs))\/H ra=some (.tup (ar rs)))/\(∀r∈rs,cB H r.1 r.2)/\rs.length<=60/\H lo=some (.lst (ak lts))/\aO H lts/\(lts.map (·.2)).Nodup/\lts.length<=255 /\
 ∀(q:Addr) (kvs:List (List Key×V)) (H':Hp),af H H'->H' q=some (.dT kvs)->(∀x∈lts,aU kvs (aR x.2)=some (.int (cnt rs x.2)))->Q (.ref q) H'
noncomputable abbrev N23:List Str:=["rows","lots","counts","row","lot"]
theorem gS:aP N23 ["rows","lots"] (aC (top 23)):=⟨rfl,rfl,rfl,by decide +kernel,rfl,by decide +kernel,by decide +kernel⟩
theorem pX {f:Addr}{fd:FuncData} (F:Fun K "counts_into" "counts_into" (top 23) f fd) (F1:Fn P w K mg base 1 "leads_into" ["row","lot"] jf):aG P w K mg base CX0 2 f fd ["rows","lots"] iF:=by
 refine F.ok gS (fun vs H Q E h=>?_) (fun cdv A outer s H vs Q E hr h=>?_)
 ·obtain⟨ra,lo,rs,lts,rfl,_⟩:=h
  rfl
 ·obtain⟨ra,lo,rs,lts,rfl,hra,hrow,hz,hlo,hL,hnd,hl255,k⟩:=h
  have hun:=hr.un
  refine⟨_,ao (qE (i:=2) (N:=["lot"]) (ix:=[none]) (lt0 hr) gS.nd rfl (Or.inl rfl) ⟨rfl,rfl,rfl,by decide⟩ rfl (bg (pv 1)) (fun _ _ _ _=>aQ 0 (by decide) rfl rfl) (fun _ _ _ _=>bc) (fun _ _ _ _=>pv 0) (fun _ _ _ _=>ai))
   (ao (bP PassesOwn.never rfl (gM (bg (pv 0)) (bW (pv 0))) (aX (i:=3) gS.nd rfl (Or.inl rfl)) (ax (bP PassesOwn.never rfl (bg (pv 1)) (aX (i:=4) gS.nd rfl (Or.inl rfl))
    (ax (bh (bE (aw F1 hr (aa (pv 3) (aa (pv 4) ae)))) (ax (lL (cC hr) (pv 2) (pv 4) ai ve (fun _ _ _=>rfl))) bf)))))
   (ax (aI (pv 2)))),?_⟩
  have htl:(ak lts).length=lts.length:=by simp
  refine⟨_,rfl,lo,rfl,⟨_,SqL.of hlo⟩,fun D hD=>?_⟩
  have s0:=am (o:=.dT []) (af.refl H) hD
  refine iB (K:=K) (a:=lo) (xs:=ak lts) (fun i σ H2=>af H H2/\(∃x,σ=[x])/\∃kvs,H2 D=some (.dT kvs)/\kvs.length<=i/\∀m x,m < i->lts[m]?=some x->aU kvs (aR x.2)=some (.int 0)) ⟨s0,⟨_,rfl⟩,[],ag,Nat.le_refl _,fun m x hm=>absurd hm (Nat.not_lt_zero _)⟩
   (fun i σ H2 _ q=>SqL.of (q.1 _ _ hlo)) ?_ ?_
  ·rintro i x σ H2 hx ⟨s2,⟨g,rfl⟩,kvs,d2,z2,v2⟩
   obtain⟨lt,hlt,rfl⟩:=bZ hx
   have hm:=List.mem_of_getElem? hlt
   have hi:i < lts.length:=(List.getElem?_eq_some_iff.mp hlt).1
   refine⟨_,rfl,upd H2 D (.dT (putK kvs (aR lt.2) (.int 0))),⟨kvs,aR lt.2,lt.1,d2,rfl,by rw [b6];exact s2 _ _ (hL lt hm),by rw [sizeLine_eq];omega,rfl⟩,cm s2 hD,⟨_,rfl⟩,_,ag,by have:=fA kvs (aR lt.2) (.int 0);omega,fun m y hmi hy=>?_⟩
   rw [lh]
   by_cases e:aR y.2=aR lt.2
   ·rw [if_pos e]
   ·rw [if_neg e]
    refine v2 m y ?_ hy
    have:m≠i:=fun q=>by rw [q,hlt] at hy;cases hy;exact e rfl
    omega
  rintro σ0 H2 ⟨s2,_,kvs0,d2,z2,v2⟩
  rw [htl] at z2 v2
  refine iO (K:=K) (Hb:=H) (a:=ra) (xs:=ar rs) (fun Q q=>⟨_,rfl,q⟩) hra s2 (fun i σ H3=>af H H3/\(∃g1 g2,σ=[some (.ref ra),some (.ref lo),some (.ref D),g1,g2])/\∃kvs,H3 D=some (.dT kvs)/\kvs.length<=255/\∀x∈lts,aU kvs (aR x.2)=some (.int (cnt (rs.take i) x.2)))
   ⟨s2,⟨_,_,rfl⟩,kvs0,d2,by omega,fun x hx=>?_⟩ (fun i σ H3 _ q=>q.1) ?_ ?_
  ·obtain⟨m,hm⟩:=List.getElem?_of_mem hx
   exact v2 m x (List.getElem?_eq_some_iff.mp hm).1 hm
  ·rintro i x σ H3 hx ⟨s3,⟨g1,g2,rfl⟩,kvs,d3,z3,v3⟩
   obtain⟨r,hr',rfl⟩:=dm hx
   have hrm:=List.mem_of_getElem? hr'
   refine⟨_,rfl,lo,rfl,⟨_,SqL.of (s3 _ _ hlo)⟩,dr (K:=K) (a:=lo) (xs:=ak lts) (fun j σ H4=>af H H4/\(∃g2,σ=[some (.ref ra),some (.ref lo),some (.ref D),some (.ref r.1),g2])/\∃kvs,H4 D=some (.dT kvs)/\kvs.length<=255/\∀m x,lts[m]?=some x->aU kvs (aR x.2)=some (.int (if m < j then cnt (rs.take (i + 1)) x.2 else cnt (rs.take i) x.2:Nat)))
    ⟨s3,⟨_,rfl⟩,kvs,d3,z3,fun m x hm=>?_⟩ (fun j σ H4 _ q=>SqL.of (q.1 _ _ hlo)) ?_ ?_⟩
   ·rw [if_neg (Nat.not_lt_zero _)]
    exact v3 x (List.mem_of_getElem? hm)
   ·rintro j y σ H4 hy ⟨s4,⟨g2,rfl⟩,kvs,d4,z4,v4⟩
    obtain⟨lt,hlt,rfl⟩:=bZ hy
    have hm:=List.mem_of_getElem? hlt
    have cs:=rQ hr' lt.2
    refine⟨_,rfl,_,rfl,lt.1,r,lt.2,rfl,s4 _ _ (hrow r hrm),s4 _ _ (hL lt hm),_,rfl,?_⟩
    have vj:=v4 j lt hlt
    rw [if_neg (Nat.lt_irrefl _)] at vj
    have stay:∀m x,m≠j->lts[m]?=some x->(if m < j then cnt (rs.take (i + 1)) x.2 else cnt (rs.take i) x.2)=(if m < j + 1 then cnt (rs.take (i + 1)) x.2 else cnt (rs.take i) x.2):=fun m x hmj _=>by
     by_cases h1:m < j
     ·rw [if_pos h1,if_pos (by omega)]
     ·rw [if_neg h1,if_neg (by omega)]
    refine be (fun c=>?_) (fun c=>⟨s4,⟨_,rfl⟩,kvs,d4,z4,fun m x hx=>?_⟩)
    ·rw [if_pos c] at cs
     refine⟨_,rfl,_,rfl,D,.int (cnt (rs.take i) lt.2),rfl,?_,_,_,rfl,rfl,upd H4 D (.dT (putK kvs (aR lt.2) (.int ((cnt (rs.take i) lt.2:Int) + 1)))),cU.t d4 (by rw [b6];exact s4 _ _ (hL lt hm)) (by rw [sizeLine_eq];omega),cm s4 hD,⟨_,rfl⟩,_,ag,by rw [qG vj];exact z4,fun m x hx=>?_⟩
     ·have g:=bu.t (k:=aR lt.2) (b:=lt.1) d4 (by rw [b6];exact s4 _ _ (hL lt hm))
      rw [vj] at g
      exact g
     ·rw [lh]
      by_cases hmj:m=j
      ·subst hmj
       rw [hlt] at hx
       cases hx
       rw [if_pos rfl,if_pos (Nat.lt_succ_self _),cs]
       rfl
      ·have hne:aR x.2≠aR lt.2:=fun e=>by
        have e':=eO e
        obtain⟨hmi,em⟩:=List.getElem?_eq_some_iff.mp hx
        obtain⟨hji,ej⟩:=List.getElem?_eq_some_iff.mp hlt
        have hp:=List.pairwise_iff_getElem.mp hnd
        have h1:(lts.map (·.2))[m]'(by simpa using hmi)=x.2:=by rw [List.getElem_map,em]
        have h2:(lts.map (·.2))[j]'(by simpa using hji)=lt.2:=by rw [List.getElem_map,ej]
        rcases Nat.lt_or_gt_of_ne hmj with q | q
        ·exact hp m j _ _ q (by rw [h1,h2];exact e')
        ·exact hp j m _ _ q (by rw [h1,h2];exact e'.symm)
       rw [if_neg hne,v4 m x hx,stay m x hmj hx]
    ·rw [if_neg c] at cs
     rw [v4 m x hx]
     by_cases hmj:m=j
     ·subst hmj
      rw [hlt] at hx
      cases hx
      rw [if_neg (Nat.lt_irrefl _),if_pos (Nat.lt_succ_self _),cs]
      rfl
     ·rw [stay m x hmj hx]
   ·rintro σ H4 ⟨s4,⟨g2,rfl⟩,kvs,d4,z4,v4⟩
    refine⟨s4,⟨_,_,rfl⟩,kvs,d4,z4,fun x hx=>?_⟩
    obtain⟨m,hm⟩:=List.getElem?_of_mem hx
    have q:=v4 m x hm
    rw [if_pos (by rw [htl];exact (List.getElem?_eq_some_iff.mp hm).1)] at q
    exact q
  ·rintro σ H3 ⟨s3,⟨g1,g2,rfl⟩,kvs,d3,z3,v3⟩
   rw [take_all rs (by simp)] at v3
   exact⟨_,rfl,k D kvs H3 s3 d3 v3⟩
end
noncomputable def need (rts ls:List Str):Nat:=(rts.filter fun r=>!decide (r∈ls)).length
section
variable {P:Program}{w:World}{K:PySem.W.Frag}{mg:Str->Option Value}{base:Heap}
noncomputable def kR:Sp:=fun vs H Q _=>∃(a l:Addr) (rts ls:List Str),vs=[.ref a,.ref l]/\H a=some (.tup (rts.map V.str))/\H l=some (.tup (ls.map V.str))/\rts.length<=100/\∀H',af H H'->Q (.int (need rts ls)) H'
theorem wg:aP ["roots","lot"] ["roots","lot"] (aC (top 24)):=⟨rfl,rfl,rfl,by decide +kernel,rfl,by decide +kernel,by decide +kernel⟩
theorem pk {f:Addr}{fd:FuncData} (F:Fun K "need_of" "need_of" (top 24) f fd) (B:Bl mg):aG P w K mg base CX0 1 f fd ["roots","lot"] kR:=by
 refine F.ok wg (fun vs H Q E h=>?_) (fun cdv A outer s H vs Q E hr h=>?_)
 ·obtain⟨a,l,rts,ls,rfl,_⟩:=h
  rfl
 ·obtain⟨a,l,rts,ls,rfl,ha,hl,hz,k⟩:=h
  refine⟨_,ax (aI (aA bA rfl B.len PySem.boot_len (aa (bp (N:=["root","lot"]) (ix:=[none,some 1]) ⟨rfl,rfl,rfl,by decide⟩ rfl (bW (pv 0)) (fun _ _ _ _=>aQ 0 (by decide) rfl rfl)
   (fun _ _ _ _=>cu (aZ (fC K) (pv 0) (pv 1) (by with_unfolding_all rfl))) (fun _ _ _ _=>pv 0)) ae))),?_⟩
  refine⟨_,rfl,a,rfl,⟨_,SqT.of ha⟩,fN (xs:=rts.map V.str) (fits (by simp;omega)) (fun i ys σ H1=>ys=((rts.take i).filter fun r=>!decide (r∈ls)).map V.str/\H1=H/\∃x,σ=[x,some (.ref l)]) ⟨rfl,rfl,_,rfl⟩
   (fun i ys σ H1 _ q=>⟨by rw [q.1,List.length_map];exact Nat.le_trans (List.length_filter_le _ _) (by simp;omega),by rw [q.2.1];exact SqT.of ha⟩) ?_ ?_⟩
  ·rintro i x ys σ H1 hx ⟨rfl,rfl,v,rfl⟩
   rw [List.getElem?_map] at hx
   cases hc:rts[i]? with
   | none=>rw [hc] at hx;cases hx
   | some z =>
    rw [hc] at hx
    cases hx
    have tf:=ck (fun r:Str=>!decide (r∈ls)) rts i z hc
    refine⟨_,rfl,_,rfl,l,ls.map V.str,rfl,.inr (SqT.of hl),rfl,b9 ls,_,rfl,?_⟩
    show if (!inV (.str z) (ls.map V.str))=true then _ else _
    rw [cf]
    refine be (fun c=>⟨_,rfl,?_,rfl,_,rfl⟩) (fun c=>⟨?_,rfl,_,rfl⟩)
    ·rw [tf,c];simp
    ·rw [tf];simp only [Bool.not_eq_true] at c;rw [c];simp
  ·rintro ys σ H1 ⟨rfl,rfl,v,rfl⟩ q hq
   rw [take_all rts (by simp)]
   refine⟨q,_,rfl,.inl (SqL.of ag),?_⟩
   have e:(((rts.filter fun r=>!decide (r∈ls)).map V.str).length:Int)=(need rts ls:Int):=by rw [List.length_map];rfl
   rw [e]
   exact k _ (am (af.refl _) hq)
end
end K44
namespace L2
open PySem
end L2
namespace K44
open PySem L2
noncomputable def spr (rs:List (Addr×Row)) (rts l:List Str):Int:=(cnt rs l:Int) - (need rts l:Int)
noncomputable abbrev cD (rs:List (Addr×Row)) (rts:List Str) (ls:List (List Str)):List (List Key×V):=ls.map fun l=>(aR l,V.int (spr rs rts l))
theorem ku {rs:List (Addr×Row)}{rts:List Str}:∀{ls:List (List Str)}{l:List Str},l∉ls->aU (cD rs rts ls) (aR l)=none
 | [],l,_=>rfl
 | m::r,l,h=>by
  have h':l≠m/\l∉r:=by simpa using h
  show aU ((aR m,V.int (spr rs rts m))::cD rs rts r) (aR l)=none
  rw [bM (fun e=>h'.1 (eO e).symm)]
  exact ku h'.2
theorem kE {rs:List (Addr×Row)}{rts:List Str}:∀{ls:List (List Str)}{l:List Str},l∈ls->aU (cD rs rts ls) (aR l)=some (.int (spr rs rts l))
 | m::r,l,h=>by
  show aU ((aR m,V.int (spr rs rts m))::cD rs rts r) (aR l)=_
  by_cases e:m=l
  ·subst e;exact ce rfl
  ·rw [bM (fun z=>e (eO z))]
   exact kE ((List.mem_cons.mp h).resolve_left fun z=>e z.symm)
section
variable {P:Program}{w:World}{K:PySem.W.Frag}{mg:Str->Option Value}{base:Heap}
noncomputable def ma:Sp:=fun vs H Q _=>∃z:Int,vs=[.int z]/\Q (.bl true) H
theorem sc9:aP ["thing"] ["thing"] (aC (top 9)):=⟨rfl,rfl,rfl,by decide +kernel,rfl,by decide +kernel,by decide +kernel⟩
theorem oY {f:Addr}{fd:FuncData} (F:Fun K "is_whole" "is_whole" (top 9) f fd) (B:Bl mg):aG P w K mg base CX0 1 f fd ["thing"] ma:=by
 refine F.ok sc9 (fun vs H Q E h=>?_) (fun cdv A outer s H vs Q E hr h=>?_)
 ·obtain⟨z,rfl,_⟩:=h
  rfl
 ·obtain⟨z,rfl,k⟩:=h
  refine⟨_,ax (aI (cR (aA (cG (T:="int")) rfl B.isinstance cF (aa (pv 0) (aa (cH (v:=.ty "int") rfl B.int jn rfl) ae)))
   (dC (uD (aA (cG (T:="bool")) rfl B.isinstance cF (aa (pv 0) (aa (cH (v:=.ty "bool") rfl B.bool uO rfl) ae))))))),?_⟩
  exact⟨_,rfl,_,_,true,rfl,.int z,rfl,true,rfl,bJ ⟨_,rfl,_,_,false,rfl,.int z,rfl,false,rfl,k⟩⟩
noncomputable def iM:Sp:=fun vs H Q _=>∃z lo hi:Int,vs=[.int z,.int lo,.int hi]/\lo<=z/\z<=hi/\Q .non H
theorem v5:aP ["thing","low","high"] ["thing","low","high"] (aC (top 16)):=⟨rfl,rfl,rfl,by decide +kernel,rfl,by decide +kernel,by decide +kernel⟩
theorem om {f:Addr}{fd:FuncData} (F:Fun K "need_number" "need_number" (top 16) f fd) (F1:Fn P w K mg base 1 "is_whole" ["thing"] ma):aG P w K mg base CX0 2 f fd ["thing","low","high"] iM:=by
 refine F.ok v5 (fun vs H Q E h=>?_) (fun cdv A outer s H vs Q E hr h=>?_)
 ·obtain⟨z,lo,hi,rfl,_⟩:=h
  rfl
 ·obtain⟨z,lo,hi,rfl,h1,h2,k⟩:=h
  refine⟨_,ax (bh (PW.pt (dg (bL (bE (aw F1 hr (aa (pv 0) ae)))) (dY (bL (iH gL gL (pv 1) (pv 0) (pv 2)))))) cx bf),?_⟩
  exact⟨_,rfl,z,rfl,true,rfl,bb ⟨_,rfl,_,rfl,_,_,rfl,rfl,_,rfl,gT h1 ⟨_,rfl,_,_,rfl,rfl,_,rfl,fR h2 k⟩⟩⟩
noncomputable def i4:Sp:=fun vs H Q _=>∃(ra lo a:Addr) (rs:List (Addr×Row)) (lts:List (Addr×List Str)) (rts:List Str),vs=[.ref ra,.ref lo,.ref a]/\(H ra=some (.lst (ar rs))\/H ra=some (.tup (ar rs)))/\(∀r∈rs,cB H r.1 r.2)/\rs.length<=60/\H lo=some (.lst (ak lts))/\aO H lts/\(lts.map (·.2)).Nodup/\lts.length<=255 /\
 H a=some (.tup (rts.map V.str))/\rts.length<=100/\∀(q:Addr) (H':Hp),af H H'->H q=none->H' q=some (.dT (cD rs rts (lts.map (·.2))))->Q (.ref q) H'
noncomputable abbrev N25:List Str:=["rows","lots","roots","counts"]
theorem nF:aP N25 ["rows","lots","roots"] (aC (top 25)):=⟨rfl,rfl,rfl,by decide +kernel,rfl,by decide +kernel,by decide +kernel⟩
theorem rH {f:Addr}{fd:FuncData} (F:Fun K "spare_into" "spare_into" (top 25) f fd) (F1:Fn P w K mg base 2 "counts_into" ["rows","lots"] iF) (F2:Fn P w K mg base 1 "need_of" ["roots","lot"] kR):aG P w K mg base CX0 3 f fd ["rows","lots","roots"] i4:=by
 refine F.ok nF (fun vs H Q E h=>?_) (fun cdv A outer s H vs Q E hr h=>?_)
 ·obtain⟨ra,lo,a,rs,lts,rts,rfl,_⟩:=h
  rfl
 ·obtain⟨ra,lo,a,rs,lts,rts,rfl,hra,hrow,hz,hlo,hL,hnd,hl255,ha,hr100,k⟩:=h
  have hr1:aN 1 _:=hr.mono (by decide)
  refine⟨_,ao (aL (i:=3) nF.nd rfl (Or.inr rfl) (aw F1 hr (aa (pv 0) (aa (pv 1) ae))))
   (ax (aI (nk (N:=["lot","counts","roots"]) (ix:=[none,some 3,some 2]) (lt0 hr) ⟨rfl,rfl,rfl,by decide⟩ rfl (bg (pv 1)) (fun _ _ _ _=>aQ 0 (by decide) rfl rfl) (fun _ _ _ _=>bc) (fun _ _ _ _=>pv 0)
    (fun _ _ _ _=>aB dw (cZ (cC hr) (pv 1) (pv 0) (fun _ _=>rfl)) (aw F2 hr1 (aa (pv 2) (aa (pv 0) ae))))))),?_⟩
  refine⟨_,rfl,_,rfl,ra,lo,rs,lts,rfl,hra,hrow,hz,hlo,hL,hnd,hl255,fun c kvs H1 s1 c1 v1=>?_⟩
  refine⟨_,rfl,lo,rfl,⟨_,SqL.of (s1 _ _ hlo)⟩,fun D hD=>?_⟩
  have s2:=am (o:=.dT []) (af.refl H1) hD
  have htl:(ak lts).length=lts.length:=by simp
  have hD0:H1 D=none:=hD
  refine iB (K:=K) (a:=lo) (xs:=ak lts) (fun i σ H2=>af H1 H2/\(∃x,σ=[x,some (.ref c),some (.ref a)])/\H2 D=some (.dT (cD rs rts ((lts.take i).map (·.2))))) ⟨s2,⟨_,rfl⟩,ag⟩
   (fun i σ H2 _ q=>SqL.of (q.1 _ _ (s1 _ _ hlo))) ?_ ?_
  ·rintro i x σ H2 hx ⟨s2,⟨g,rfl⟩,d2⟩
   obtain⟨lt,hlt,rfl⟩:=bZ hx
   have hm:=List.mem_of_getElem? hlt
   have hi:i < lts.length:=(List.getElem?_eq_some_iff.mp hlt).1
   have hlt2:=s2 _ _ (s1 _ _ (hL lt hm))
   have gc:bu H2 c (.ref lt.1) (some (.int (cnt rs lt.2))):=by
    rw [<- v1 lt hm];exact bu.t (s2 _ _ c1) (by rw [b6];exact hlt2)
   refine⟨_,rfl,_,rfl,_,rfl,c,_,rfl,gc,?_⟩
   refine⟨_,rfl,_,rfl,a,lt.1,rts,lt.2,rfl,s2 _ _ (s1 _ _ ha),hlt2,hr100,fun H3 s3=>?_⟩
   have d3:=s3 _ _ d2
   have hfresh:lt.2∉(lts.take i).map (·.2):=fun hmm=>by
    have nd:=hnd.sublist ((List.take_sublist (i + 1) lts).map (fun x:Addr×List Str=>x.2))
    rw [List.take_add_one,hlt,List.map_append] at nd
    exact (List.nodup_append.mp nd).2.2 _ hmm lt.2 (by simp) rfl
   refine⟨_,_,rfl,rfl,_,⟨_,aR lt.2,lt.1,d3,rfl,by rw [b6];exact s3 _ _ hlt2,by rw [List.length_map,List.length_map,List.length_take,sizeLine_eq];omega,rfl⟩,cm (s2.trans s3) hD0,⟨_,rfl⟩,?_⟩
   rw [ag,iS _ (ku hfresh),List.take_add_one,hlt]
   simp [cD,spr]
  ·rintro σ H2 ⟨s2,⟨g,rfl⟩,d2⟩
   rw [htl,take_all lts rfl] at d2
   exact k D H2 (s1.trans s2) (s1.free hD0) d2
end
section
variable {P:Program}{w:World}{K:PySem.W.Frag}{mg:Str->Option Value}{base:Heap}
noncomputable def lg:Sp:=fun vs H Q _=>∃(v pa ra a:Addr) (ps rts:List Str) (rs:List (Addr×Row)),vs=[.ref v,.ref a]/\bv H v pa ra ps rs/\ps.Nodup/\ps.length<=8/\rs.length<=60/\H a=some (.tup (rts.map V.str))/\rts.length<=100/\(∀l∈ay ps,0<=spr rs rts l)/\∀H',af H H'->Q .non H'
noncomputable abbrev N28:List Str:=["web","roots","spare","lot"]
theorem jC:aP N28 ["web","roots"] (aC (top 28)):=⟨rfl,rfl,rfl,by decide +kernel,rfl,by decide +kernel,by decide +kernel⟩
theorem qx {f:Addr}{fd:FuncData} (F:Fun K "need_enough" "need_enough" (top 28) f fd)
  (F1:Fn P w K mg base 3 "spare_into" ["rows","lots","roots"] i4) (F2:Fn P w K mg base 1 "lots_among" ["places"] gb):aG P w K mg base CX0 4 f fd ["web","roots"] lg:=by
 refine F.ok jC (fun vs H Q E h=>?_) (fun cdv A outer s H vs Q E hr h=>?_)
 ·obtain⟨v,pa,ra,a,ps,rts,rs,rfl,_⟩:=h
  rfl
 ·obtain⟨v,pa,ra,a,ps,rts,rs,rfl,W,hnd,h7,hrz,ha,hr100,hall,k⟩:=h
  have hr1:aN 1 _:=hr.mono (by decide)
  have hr2:aN 2 _:=hr.mono (by decide)
  refine⟨_,ao (aL (i:=2) jC.nd rfl (Or.inl rfl) (aw F1 hr (aa (aD aW (pv 0) ai (fun _ _=>rfl)) (aa (aw F2 hr1 (aa (aD aW (pv 0) ai (fun _ _=>rfl)) ae)) (aa (pv 1) ae)))))
   (ax (bP PassesOwn.never rfl (iV (pv 2)) (aX (i:=3) jC.nd rfl (Or.inl rfl))
    (ax (bh (aZ fg (cZ (cC hr) (pv 2) (pv 3) (fun _ _=>rfl)) ai (ba _)) cx bf)))),?_⟩
  refine⟨_,rfl,aH (j:=1) (.inr (SqT.of W.tp)) rfl rfl ⟨_,rfl,aH (j:=0) (.inr (SqT.of W.tp)) rfl rfl ⟨pa,ps,rfl,.inr W.pl,by omega,fun q lts H1 s1 q1 A1 e1=>?_⟩⟩⟩
  have W1:=W.same s1
  have hll:lts.length<=255:=by
   have e2:=congrArg List.length e1
   rw [List.length_map] at e2
   have e3:=gu ps
   have e4:=eW (show ps.length<=8 by omega)
   omega
  refine⟨_,rfl,ra,q,a,rs,lts,rts,rfl,.inr W1.rl,W1.rows,hrz,q1,A1,by rw [e1];exact fD hnd,hll,s1 _ _ ha,hr100,fun sd H2 s2 hsd0 d2=>?_⟩
  rw [e1] at d2
  have s02:=s1.trans s2
  have hsd:H sd=none:=s1.free hsd0
  refine⟨_,rfl,sd,_,rfl,d2,fun o=>?_⟩
  have s3:af H (upd H2 sd (.frz o (.dT (cD rs rts (ay ps))))):=af.upd0 s02 hsd
  have d3:upd H2 sd (.frz o (.dT (cD rs rts (ay ps)))) sd=some (.frz o (.dT (cD rs rts (ay ps)))):=ag
  generalize upd H2 sd (.frz o (.dT (cD rs rts (ay ps))))=H3 at s3 d3 ⊢
  refine rL (a:=sd) (o:=o) (kvs:=cD rs rts (ay ps)) (fun i σ H4=>(∃g,σ=[some (.ref v),some (.ref a),some (.ref sd),g])/\af H3 H4)
   ⟨⟨_,rfl⟩,af.refl _⟩ (fun i σ H4 _ p=>p.2 _ _ d3) ?_ ?_
  ·rintro i p b σ H4 hp hb ⟨⟨g,rfl⟩,s4⟩
   rw [List.getElem?_map] at hp
   cases hc:(ay ps)[i]? with
   | none=>rw [hc] at hp;cases hp
   | some l =>
    rw [hc] at hp
    cases hp
    have hl:l∈ay ps:=List.mem_of_getElem? hc
    have hb':H4 b=some (.tup (l.map V.str)):=by rw [<- b6];exact hb
    have gd:bu H4 sd (.ref b) (some (.int (spr rs rts l))):=.inr ⟨_,aR l,b,.inr ⟨o,s4 _ _ d3⟩,rfl,hb,(kE hl).symm⟩
    refine⟨_,rfl,_,rfl,sd,_,rfl,gd,_,_,rfl,rfl,_,rfl,?_⟩
    rw [decide_eq_false (by have:=hall l hl;omega)]
    exact bb ⟨⟨_,rfl⟩,s4⟩
  ·rintro σ H4 ⟨⟨g,rfl⟩,s4⟩
   exact k H4 (s3.trans s4)
end
theorem sub_one {l:List Str}{x:Str} (h:l.Sublist [x]):l=[]\/l=[x]:=by
 cases h with
 | cons _ h=>cases h;exact .inl rfl
 | cons_cons _ h=>cases h;exact .inr rfl
theorem qW:∀ps l:List Str,l.Sublist ps->l∈subs ps:=snoc_ind (fun l h=>by
  cases h
  simp [subs]) fun ps x ih l hl=>by
 rw [dQ]
 obtain⟨a,b,rfl,ha,hb⟩:=List.sublist_append_iff.mp hl
 rcases sub_one hb with rfl | rfl
 ·rw [List.append_nil]
  exact List.mem_append_left _ (ih a ha)
 ·exact List.mem_append_right _ (List.mem_map_of_mem (f:=fun l=>l++[x]) (ih a ha))
theorem cy {ps l:List Str} (hn:ps.Nodup):l∈ay ps ↔ l.Sublist ps/\l≠[]:=by
 have e:=eP ps
 have nd:=jY ps hn
 rw [e] at nd
 constructor
 ·intro h
  exact⟨cQ h,fun z=>(List.nodup_cons.mp nd).1 (z ▸ h)⟩
 ·rintro⟨h1,h2⟩
  have:=qW ps l h1
  rw [e] at this
  exact (List.mem_cons.mp this).resolve_left h2
theorem o7 {ps l:List Str}{p:Str->Bool}:l.Sublist (ps.filter p) ↔ l.Sublist ps/\∀x∈l,p x=true:=by
 constructor
 ·intro h
  exact⟨h.trans List.filter_sublist,fun x hx=>(List.mem_filter.mp (h.subset hx)).2⟩
 ·rintro⟨h1,h2⟩
  have:=h1.filter p
  rwa [List.filter_eq_self.mpr h2] at this
theorem eJ {ps:List Str} (root:Str) (h:ps.Nodup):(others ps root).Nodup:=h.filter _
theorem oQ {ps l:List Str}{root:Str} (hn:ps.Nodup):l∈ay (others ps root) ↔ l∈ay ps/\root∉l:=by
 rw [cy (eJ root hn),cy hn]
 unfold others
 rw [o7]
 constructor
 ·rintro⟨⟨h1,h2⟩,h3⟩
  exact⟨⟨h1,h3⟩,fun z=>by have:=h2 root z;simp at this⟩
 ·rintro⟨⟨h1,h3⟩,h2⟩
  exact⟨⟨h1,fun x hx=>by
   have:x≠root:=fun z=>h2 (z ▸ hx)
   simp [this]⟩,h3⟩
theorem qB (m:Nat) (root:Str) (l:List Str):need (List.replicate m root) l=if root∈l then 0 else m:=by
 unfold need
 rw [List.filter_replicate]
 by_cases h:root∈l
 ·simp [h]
 ·simp [h]
theorem sQ (rs:List (Addr×Row)) (m:Nat) (root:Str) (l:List Str):spr rs (List.replicate m root) l=(cnt rs l:Int) - (if root∈l then 0 else (m:Int)):=by
 unfold spr
 rw [qB]
 by_cases h:root∈l <;> simp [h]
theorem lq {α:Type} (x:α):∀m:Nat,(List.replicate m [x]).flatten=List.replicate m x
 | 0=>rfl
 | m + 1=>by rw [List.replicate_succ,List.flatten_cons,lq x m,List.replicate_succ];rfl
section
variable {P:Program}{w:World}{K:PySem.W.Frag}{mg:Str->Option Value}{base:Heap}
end
theorem gy {x:Str}:¬ nlt x x:=List.lt_irrefl _
theorem k7 {x y:Str} (h:nlt x y) (h':nlt y x):False:=gy (List.lt_trans h h')
theorem kD:∀{l m:List Str},l.Pairwise nlt->m.Pairwise nlt->(∀x,x∈l ↔ x∈m)->l=m
 | [],[],_,_,_=>rfl
 | [],y::m,_,_,h=>by have:=(h y).mpr List.mem_cons_self;cases this
 | x::l,[],_,_,h=>by have:=(h x).mp List.mem_cons_self;cases this
 | x::l,y::m,hl,hm,h=>by
  obtain⟨l1,l2⟩:=List.pairwise_cons.mp hl
  obtain⟨m1,m2⟩:=List.pairwise_cons.mp hm
  have e:x=y:=by
   rcases List.mem_cons.mp ((h x).mp List.mem_cons_self) with e | hx
   ·exact e
   ·rcases List.mem_cons.mp ((h y).mpr List.mem_cons_self) with e | hy
    ·exact e.symm
    ·exact (k7 (m1 x hx) (l1 y hy)).elim
  subst e
  have:l=m:=kD l2 m2 fun z=>by
   constructor
   ·intro hz
    rcases List.mem_cons.mp ((h z).mp (List.mem_cons_of_mem _ hz)) with e | q
    ·subst e;exact (gy (l1 _ hz)).elim
    ·exact q
   ·intro hz
    rcases List.mem_cons.mp ((h z).mpr (List.mem_cons_of_mem _ hz)) with e | q
    ·subst e;exact (gy (m1 _ hz)).elim
    ·exact q
  rw [this]
noncomputable def ind (b:Bool):Nat:=if b=true then 1 else 0
theorem cnt_cons (r:Addr×Row) (rs:List (Addr×Row)) (l:List Str):cnt (r::rs) l=ind (lead l r) + cnt rs l:=by
 unfold cnt ind
 rw [List.filter_cons]
 split <;> simp <;> omega
theorem mU {a b i u:List Str} (hi:∀x,x∈i ↔ x∈a/\x∈b) (hu:∀x,x∈u ↔ x∈a\/x∈b):∀rs:List (Addr×Row),cnt rs i + cnt rs u<=cnt rs a + cnt rs b
 | []=>Nat.le_refl _
 | r::rs=>by
  have ih:=mU hi hu rs
  rw [cnt_cons,cnt_cons,cnt_cons,cnt_cons]
  have h:ind (lead i r) + ind (lead u r)<=ind (lead a r) + ind (lead b r):=by
   have e1:=hi r.2.2.2
   have e2:=hi r.2.2.1
   have e3:=hu r.2.2.2
   have e4:=hu r.2.2.1
   unfold lead ind
   by_cases c1:r.2.2.2∈a <;> by_cases c2:r.2.2.2∈b <;> by_cases c3:r.2.2.1∈a <;> by_cases c4:r.2.2.1∈b <;> simp_all
  omega
section
variable {P:Program}{w:World}{K:PySem.W.Frag}{mg:Str->Option Value}{base:Heap}
end
noncomputable abbrev T:=Addr×Row
theorem iP {a b:List T} (h:a.Perm b) (l:List Str):cnt a l=cnt b l:=by
 unfold cnt
 exact (h.filter _).length_eq
theorem tF (a b:List T) (l:List Str):cnt (a++b) l=cnt a l + cnt b l:=by
 unfold cnt
 rw [List.filter_append,List.length_append]
theorem dk (r:Str) (rts l:List Str):need (r::rts) l=ind (!decide (r∈l)) + need rts l:=by
 unfold need ind
 rw [List.filter_cons]
 split <;> simp <;> omega
theorem lw {a b i u:List Str} (hi:∀x,x∈i ↔ x∈a/\x∈b) (hu:∀x,x∈u ↔ x∈a\/x∈b):∀rts:List Str,need rts i + need rts u=need rts a + need rts b
 | []=>rfl
 | r::rts=>by
  have ih:=lw hi hu rts
  rw [dk,dk,dk,dk]
  have h:ind (!decide (r∈i)) + ind (!decide (r∈u))=ind (!decide (r∈a)) + ind (!decide (r∈b)):=by
   have e1:=hi r
   have e2:=hu r
   unfold ind
   by_cases c1:r∈a <;> by_cases c2:r∈b <;> simp_all
  omega
theorem kz {x y:List Str} (h:∀z,z∈y->z∈x):∀rts:List Str,need rts x<=need rts y
 | []=>Nat.le_refl _
 | r::rts=>by
  have ih:=kz h rts
  rw [dk,dk]
  have:ind (!decide (r∈x))<=ind (!decide (r∈y)):=by
   have e:=h r
   unfold ind
   by_cases c1:r∈x <;> by_cases c2:r∈y <;> simp_all
  omega
theorem k6 {x y:List Str}:∀{rs:List T},cnt rs x < cnt rs y->∃r∈rs,lead y r=true/\lead x r=false
 | [],h=>absurd h (Nat.lt_irrefl _)
 | r::rs,h=>by
  by_cases c:lead y r=true/\lead x r=false
  ·exact⟨r,List.mem_cons_self,c⟩
  ·have:cnt rs x < cnt rs y:=by
    rw [cnt_cons,cnt_cons] at h
    have:ind (lead y r)<=ind (lead x r):=by
     unfold ind
     cases e1:lead y r <;> cases e2:lead x r <;> simp_all
    omega
   obtain⟨q,hq,h1⟩:=k6 this
   exact⟨q,List.mem_cons_of_mem _ hq,h1⟩
theorem kW {y:List Str}:∀{rs:List T},0 < cnt rs y->∃r∈rs,lead y r=true
 | [],h=>absurd h (Nat.lt_irrefl _)
 | r::rs,h=>by
  by_cases c:lead y r=true
  ·exact⟨r,List.mem_cons_self,c⟩
  ·have:0 < cnt rs y:=by
    rw [cnt_cons] at h
    unfold ind at h
    rw [if_neg c] at h
    omega
   obtain⟨q,hq,h1⟩:=kW this
   exact⟨q,List.mem_cons_of_mem _ hq,h1⟩
theorem dq {l:List Str}{r:T}:lead l r=true ↔ r.2.2.2∈l/\r.2.2.1∉l:=by
 unfold lead
 simp
theorem shortest {P:List Str->Prop}:∀(n:Nat),(∃x,P x/\x.length<=n)->∃x,P x/\∀y,P y->x.length<=y.length
 | 0,⟨x,h,z⟩=>⟨x,h,fun y _=>by omega⟩
 | n + 1,⟨x,h,z⟩=>by
  by_cases c:∃x,P x/\x.length<=n
  ·exact shortest n c
  ·exact⟨x,h,fun y hy=>by
    have:¬ y.length<=n:=fun q=>c ⟨y,hy,q⟩
    omega⟩
structure cV (ps rts fs:List Str) (rem:List T):Prop where
 nd:ps.Nodup
 st:∀r∈rem,r.2.2.1∈ps/\r.2.2.2∈ps
 ge:∀l∈ay ps,0<=spr rem rts l
 gt:∀l∈ay ps,(∀x∈l,x∉fs)->1<=spr rem rts l
noncomputable def lY (ps rts fs:List Str) (rem:List T) (r:T):Prop:=r.2.2.1∈fs/\r.2.2.2∉fs/\∀l∈ay ps,lead l r=true->0 < spr rem rts l
theorem cV.ex {ps rts fs:List Str}{rem:List T} (G:cV ps rts fs rem) (hx:∃x∈ps,x∉fs):∃r∈rem,lY ps rts fs rem r:=by
 by_cases tight:∃X,(X∈ay ps/\spr rem rts X=0/\∃x∈X,x∉fs)
 ·obtain⟨X0,h0⟩:=tight
  obtain⟨X,⟨hX,hX0,x,hxX,hxf⟩,hmin⟩:=shortest (P:=fun X=>X∈ay ps/\spr rem rts X=0/\∃x∈X,x∉fs) X0.length ⟨X0,h0,Nat.le_refl _⟩
  obtain⟨sX,_⟩:=(cy G.nd).mp hX
  have memY:∀z,z∈(X.filter fun p=>!decide (p∈fs)) ↔ z∈X/\z∉fs:=fun z=>by simp
  have hY:(X.filter fun p=>!decide (p∈fs))∈ay ps:=(cy G.nd).mpr ⟨List.filter_sublist.trans sX,fun e=>by
   have:=(memY x).mpr ⟨hxX,hxf⟩
   rw [e] at this;cases this⟩
  have gY:=G.gt _ hY fun z hz=>((memY z).mp hz).2
  have nY:=kz (x:=X) (y:=X.filter fun p=>!decide (p∈fs)) (fun z hz=>((memY z).mp hz).1) rts
  have hlt:cnt rem X < cnt rem (X.filter fun p=>!decide (p∈fs)):=by
   unfold spr at gY hX0
   omega
  obtain⟨r,hr,h1,h2⟩:=k6 hlt
  obtain⟨e1,e2⟩:=dq.mp h1
  obtain⟨e3,e4⟩:=(memY _).mp e1
  have e5:r.2.2.1∈X:=by
   by_cases c:r.2.2.1∈X
   ·exact c
   ·have:=dq.mpr ⟨e3,c⟩
    rw [h2] at this;cases this
  have e6:r.2.2.1∈fs:=by
   by_cases c:r.2.2.1∈fs
   ·exact c
   ·exact absurd ((memY _).mpr ⟨e5,c⟩) e2
  refine⟨r,hr,e6,e4,fun Z hZ hl=>?_⟩
  obtain⟨z1,z2⟩:=dq.mp hl
  have hZ0:=G.ge Z hZ
  by_cases c:spr rem rts Z=0
  ·exfalso
   obtain⟨sZ,_⟩:=(cy G.nd).mp hZ
   have memI:∀p,p∈(X.filter fun p=>decide (p∈Z)) ↔ p∈X/\p∈Z:=fun p=>by simp
   have memU:∀p,p∈(ps.filter fun p=>decide (p∈X\/p∈Z)) ↔ p∈X\/p∈Z:=fun p=>by
    simp only [List.mem_filter,decide_eq_true_eq]
    exact⟨fun h=>h.2,fun h=>⟨h.elim (fun q=>sX.subset q) (fun q=>sZ.subset q),h⟩⟩
   have hI:(X.filter fun p=>decide (p∈Z))∈ay ps:=(cy G.nd).mpr ⟨List.filter_sublist.trans sX,fun e=>by
    have:=(memI _).mpr ⟨e3,z1⟩
    rw [e] at this;cases this⟩
   have hU:(ps.filter fun p=>decide (p∈X\/p∈Z))∈ay ps:=(cy G.nd).mpr ⟨List.filter_sublist,fun e=>by
    have:=(memU _).mpr (.inl e3)
    rw [e] at this;cases this⟩
   have sm:=mU memI memU rem
   have nm:=lw memI memU rts
   have gI:=G.ge _ hI
   have gU:=G.ge _ hU
   have hI0:spr rem rts (X.filter fun p=>decide (p∈Z))=0:=by
    unfold spr at *
    omega
   have hm:=hmin _ ⟨hI,hI0,r.2.2.2,(memI _).mpr ⟨e3,z1⟩,e4⟩
   have hls:(X.filter fun p=>decide (p∈Z)).length < X.length:=List.length_filter_lt_length_iff_exists.mpr ⟨r.2.2.1,e5,by simpa using z2⟩
   omega
  ·omega
 ·obtain⟨x,hxp,hxf⟩:=hx
  have memW:∀z,z∈(ps.filter fun p=>!decide (p∈fs)) ↔ z∈ps/\z∉fs:=fun z=>by simp
  have hW:(ps.filter fun p=>!decide (p∈fs))∈ay ps:=(cy G.nd).mpr ⟨List.filter_sublist,fun e=>by
   have:=(memW x).mpr ⟨hxp,hxf⟩
   rw [e] at this;cases this⟩
  have gW:=G.gt _ hW fun z hz=>((memW z).mp hz).2
  have hpos:0 < cnt rem (ps.filter fun p=>!decide (p∈fs)):=by
   unfold spr at gW
   omega
  obtain⟨r,hr,h1⟩:=kW hpos
  obtain⟨e1,e2⟩:=dq.mp h1
  obtain⟨e3,e4⟩:=(memW _).mp e1
  have e6:r.2.2.1∈fs:=by
   by_cases c:r.2.2.1∈fs
   ·exact c
   ·exact absurd ((memW _).mpr ⟨(G.st r hr).1,c⟩) e2
  refine⟨r,hr,e6,e4,fun Z hZ hl=>?_⟩
  obtain⟨z1,z2⟩:=dq.mp hl
  have hZ0:=G.ge Z hZ
  by_cases c:spr rem rts Z=0
  ·exact absurd ⟨Z,hZ,c,r.2.2.2,z1,e4⟩ tight
  ·omega
theorem iR {rem:List T}{r:T}{rem':List T} (h:rem.Perm (r::rem')) (rts l:List Str):spr rem' rts l=spr rem rts l - (ind (lead l r):Nat):=by
 unfold spr
 rw [iP h,cnt_cons]
 omega
theorem cV.step {ps rts fs:List Str}{rem rem':List T}{r:T} (G:cV ps rts fs rem) (g:lY ps rts fs rem r) (h:rem.Perm (r::rem')):cV ps rts (fs++[r.2.2.2]) rem' where
 nd:=G.nd
 st:=fun q hq=>G.st q (h.mem_iff.mpr (List.mem_cons_of_mem _ hq))
 ge:=fun l hl=>by
  rw [iR h]
  have:=G.ge l hl
  unfold ind
  cases c:lead l r with
  | true=>have:=g.2.2 l hl c;simp;omega
  | false=>simp;omega
 gt:=fun l hl hd=>by
  rw [iR h]
  have h1:=G.gt l hl fun x hx hf=>hd x hx (List.mem_append_left _ hf)
  have c:lead l r=false:=by
   cases c:lead l r with
   | false=>rfl
   | true=>exact absurd (List.mem_append_right _ (by simp)) (hd _ (dq.mp c).1)
  rw [c]
  unfold ind
  simp
  omega
theorem cV.start {ps rts:List Str}{root:Str}{rs:List T} (nd:ps.Nodup) (st:∀r∈rs,r.2.2.1∈ps/\r.2.2.2∈ps) (h:∀l∈ay ps,0<=spr rs (root::rts) l):cV ps rts [root] rs where
 nd:=nd
 st:=st
 ge:=fun l hl=>by
  have:=h l hl
  unfold spr at this ⊢
  rw [dk] at this
  omega
 gt:=fun l hl hd=>by
  have:=h l hl
  unfold spr at this ⊢
  have c:root∉l:=fun z=>hd root z (by simp)
  rw [dk,decide_eq_false c] at this
  unfold ind at this
  simp at this
  omega
noncomputable abbrev kvF (f:List Str->Int) (ls:List (List Str)):List (List Key×V):=ls.map fun l=>(aR l,V.int (f l))
theorem eM {f:List Str->Int}:∀{ls:List (List Str)}{l:List Str},l∈ls->aU (kvF f ls) (aR l)=some (.int (f l))
 | m::r,l,h=>by
  show aU ((aR m,V.int (f m))::kvF f r) (aR l)=_
  by_cases e:m=l
  ·subst e;exact ce rfl
  ·rw [bM (fun z=>e (eO z))]
   exact eM ((List.mem_cons.mp h).resolve_left fun z=>e z.symm)
noncomputable def eY (f:List Str->Int) (ls:List (List Str)) (fs:List Str) (r:T):Bool:=decide (r.2.2.1∈fs) && !decide (r.2.2.2∈fs) && ls.all fun l=>!lead l r || decide (0 < f l)
noncomputable def cK (f:List Str->Int) (ls:List (List Str)) (fs:List Str) (r:T):Prop:=r.2.2.1∈fs/\r.2.2.2∉fs/\∀l∈ls,lead l r=true->0 < f l
theorem j7 {f:List Str->Int}{ls:List (List Str)}{fs:List Str}{r:T}:eY f ls fs r=true ↔ cK f ls fs r:=by
 unfold eY cK
 rw [Bool.and_eq_true,Bool.and_eq_true,List.all_eq_true,decide_eq_true_iff]
 constructor
 ·rintro⟨⟨h1,h2⟩,h3⟩
  refine⟨h1,by simpa using h2,fun l hl hle=>?_⟩
  have:=h3 l hl
  rw [hle] at this
  simpa using this
 ·rintro⟨h1,h2,h3⟩
  refine⟨⟨h1,by simpa using h2⟩,fun l hl=>?_⟩
  cases c:lead l r with
  | false=>rfl
  | true=>simpa using h3 l hl c
theorem ua {f:List Str->Int}{ls:List (List Str)}{fs:List Str}{rs:List T}{i:Nat}{r:T} (hi:rs[i]?=some r) (hno:∀q∈rs.take i,¬ cK f ls fs q) (hg:cK f ls fs r):rs.find? (eY f ls fs)=some r:=by
 obtain⟨hlt,e⟩:=List.getElem?_eq_some_iff.mp hi
 have es:rs=rs.take i++r::rs.drop (i + 1):=by
  conv=>lhs;rw [<- List.take_append_drop i rs,List.drop_eq_getElem_cons hlt,e]
 rw [es,List.find?_append,List.find?_eq_none.mpr fun q hq c=>hno q hq (j7.mp c),List.find?_cons_of_pos (j7.mpr hg)]
 rfl
section
variable {P:Program}{w:World}{K:PySem.W.Frag}{mg:Str->Option Value}{base:Heap}
noncomputable def mT:Sp:=fun vs H Q _=>∃(ra fo sd:Addr) (rs:List T) (fs:List Str) (f:List Str->Int) (ls:List (List Str)),vs=[.ref ra,.ref fo,.ref sd]/\(H ra=some (.lst (ar rs))\/H ra=some (.tup (ar rs)))/\(∀r∈rs,cB H r.1 r.2) /\
 H fo=some (.lst (fs.map V.str))/\H sd=some (.dT (kvF f ls))/\ls.length<=255/\(∃r∈rs,cK f ls fs r) /\
 ∀(r:T) (t en:Addr) (lts:List (Addr×List Str)) (H':Hp),af H H'->r∈rs->cK f ls fs r->rs.find? (eY f ls fs)=some r->H' t=some (.tup [.ref r.1,.ref en])->H' en=some (.lst (ak lts))->aO H' lts->lts.map (·.2)=ls.filter (fun l=>lead l r)->H en=none->Q (.ref t) H'
noncomputable abbrev N26:List Str:=["rows","found","spare","row","entered"]
theorem jK:aP N26 ["rows","found","spare"] (aC (top 26)):=⟨rfl,rfl,rfl,by decide +kernel,rfl,by decide +kernel,by decide +kernel⟩
theorem tH {f:Addr}{fd:FuncData} (F:Fun K "next_row" "next_row" (top 26) f fd) (B:Bl mg) (F1:Fn P w K mg base 1 "leads_into" ["row","lot"] jf):aG P w K mg base CX0 2 f fd ["rows","found","spare"] mT:=by
 refine F.ok jK (fun vs H Q E h=>?_) (fun cdv A outer s H vs Q E hr h=>?_)
 ·obtain⟨ra,fo,sd,rs,fs,f,ls,rfl,_⟩:=h
  rfl
 ·obtain⟨ra,fo,sd,rs,fs,f,ls,rfl,hra,hrow,hfo,hsd,hl255,hex,k⟩:=h
  have hr1:aN 1 _:=hr.mono (by decide)
  refine⟨_,ao (bP PassesOwn.never rfl (gM (bg (pv 0)) (bW (pv 0))) (aX (i:=3) jK.nd rfl (Or.inr rfl))
    (ax (bh (PW.pt (gG (aZ fY (aD aW (pv 3) ai (fun _ _=>rfl)) (pv 1) (by with_unfolding_all rfl)) (gD (aZ ij (aD aW (pv 3) ai (fun _ _=>rfl)) (pv 1) (by with_unfolding_all rfl)))))
     (ao (mi (cX (i:=4) (N:=["lot","row"]) (ix:=[none,some 3]) jK.nd rfl (Or.inl rfl) ⟨rfl,rfl,rfl,by decide⟩ rfl (iV (pv 2)) (fun _ _ _ _=>aQ 0 (by decide) rfl rfl) (fun _ _ _ _=>cu (bE (aw F1 hr1 (aa (pv 1) (aa (pv 0) ae))))) (fun _ _ _ _=>pv 0)))
     (ax (bh (bE (aA (dn rfl) rfl B.all dG (aa (bp (N:=["lot","spare"]) (ix:=[none,some 2]) ⟨rfl,rfl,rfl,by decide⟩ rfl (bg (pv 4)) (fun _ _ _ _=>aQ 0 (by decide) rfl rfl) (fun _ _ _ _=>bc)
      (fun _ _ _ _=>b4 fc (cZ (cC hr) (pv 1) (pv 0) (fun _ _=>rfl)) ai (ba _))) ae)))
      (ax (aI (bV (aa (pv 3) (aa (pv 4) ae))))) bf))) bf)))
   (ax (aI u6)),?_⟩
  refine iO (K:=K) (Hb:=H) (a:=ra) (xs:=ar rs) (fun Q q=>⟨_,rfl,q⟩) hra (af.refl H) (fun i σ H1=>af H H1/\(∃g1 g2,σ=[some (.ref ra),some (.ref fo),some (.ref sd),g1,g2])/\∀r∈rs.take i,¬ cK f ls fs r)
   ⟨af.refl _,⟨_,_,rfl⟩,by simp⟩ (fun i σ H1 _ q=>q.1) ?_ ?_
  ·rintro i x σ H1 hx ⟨s1,⟨g1,g2,rfl⟩,hno⟩
   obtain⟨r,hri,rfl⟩:=dm hx
   have hrm:=List.mem_of_getElem? hri
   have hrr:=s1 _ _ (hrow r hrm)
   have f1:=s1 _ _ hfo
   have step:¬ cK f ls fs r->∀q∈rs.take (i + 1),¬ cK f ls fs q:=fun hn q hq=>by
    rw [List.take_add_one,hri] at hq
    rcases List.mem_append.mp hq with z | z
    ·exact hno q z
    ·have e:q=r:=by simpa using z
     rw [e];exact hn
   refine⟨_,rfl,aH (j:=1) (.inr (SqT.of hrr)) rfl rfl ⟨_,rfl,fo,_,rfl,.inl (SqL.of f1),rfl,b9 _,_,rfl,?_⟩⟩
   rw [cf]
   show if decide (r.2.2.1∈fs)=true then _ else _
   by_cases c1:r.2.2.1∈fs
   ·rw [decide_eq_true c1]
    refine bJ ⟨_,rfl,aH (j:=2) (.inr (SqT.of hrr)) rfl rfl ⟨_,rfl,fo,_,rfl,.inl (SqL.of f1),rfl,b9 _,_,rfl,?_⟩⟩
    rw [cf]
    show if (!decide (r.2.2.2∈fs))=true then _ else _
    by_cases c2:r.2.2.2∈fs
    ·rw [decide_eq_true c2]
     exact bb ⟨s1,⟨_,_,rfl⟩,step fun g=>g.2.1 c2⟩
    ·rw [decide_eq_false c2]
     refine bJ ⟨_,rfl,sd,_,rfl,s1 _ _ hsd,fun o=>?_⟩
     have hd1:=s1 _ _ hsd
     have e1:upd H1 sd (.frz o (.dT (kvF f ls))) sd=some (.frz o (.dT (kvF f ls))):=ag
     have row1:upd H1 sd (.frz o (.dT (kvF f ls))) r.1=some (.tup [.str r.2.1,.str r.2.2.1,.str r.2.2.2]):=by
      rw [aj (fun z=>by rw [z,hd1] at hrr;cases hrr)];exact hrr
     refine k4 (a:=sd) (o:=o) (kvs:=kvF f ls) (fits (by rw [List.length_map];omega)) (fun j ys σ H2=>H2=upd H1 sd (.frz o (.dT (kvF f ls)))/\(∃x,σ=[x,some (.ref r.1)])/\∃lts:List (Addr×List Str),ys=ak lts/\lts.length<=j/\aO H1 lts/\lts.map (·.2)=(ls.take j).filter (fun l=>lead l r))
      ⟨rfl,⟨_,rfl⟩,[],rfl,Nat.le_refl _,(fun x hx=>nomatch hx),rfl⟩ (fun j ys σ H2 _ p=>by obtain⟨rfl,_,lts,rfl,hz,_⟩:=p;exact⟨by simpa using hz,e1⟩) ?_ ?_
     ·rintro j p b ys σ H2 hp hb ⟨rfl,⟨x,rfl⟩,lts,rfl,hz,hA,hm⟩
      rw [List.getElem?_map] at hp
      cases hc:ls[j]? with
      | none=>rw [hc] at hp;cases hp
      | some l =>
       rw [hc] at hp
       cases hp
       have hb':upd H1 sd (.frz o (.dT (kvF f ls))) b=some (.tup (l.map V.str)):=by rw [<- b6];exact hb
       have hb1:H1 b=some (.tup (l.map V.str)):=by
        rw [aj (fun z=>by rw [z,ag] at hb';cases hb')] at hb';exact hb'
       have tf:=ck (fun l:List Str=>lead l r) ls j l hc
       refine⟨_,rfl,_,rfl,b,r,l,rfl,row1,hb',_,rfl,be (fun c=>⟨_,rfl,rfl,⟨_,rfl⟩,lts++[(b,l)],?_,?_,?_,?_⟩) (fun c=>⟨rfl,⟨_,rfl⟩,lts,rfl,by omega,hA,?_⟩)⟩
       ·simp
       ·rw [List.length_append];simp;omega
       ·intro x hx
        rcases List.mem_append.mp hx with z | z
        ·exact hA x z
        ·have e:x=(b,l):=by simpa using z
         subst e;exact hb1
       ·rw [List.map_append,hm,tf,c];simp
       ·rw [hm,tf];simp only [Bool.not_eq_true] at c;rw [c];simp
     rintro ys σ H2 ⟨rfl,⟨x,rfl⟩,lts,rfl,hz,hA,hm⟩ en hen
     rw [take_all ls (by simp)] at hm
     have nen:en≠sd:=fun z=>by rw [z,ag] at hen;cases hen
     have hen1:H1 en=none:=by rw [aj nen] at hen;exact hen
     refine⟨sd,o,_,by rw [aj nen.symm];exact ag,fun o' u' (z:H sd=_)=>(by rw [hsd] at z;cases z),?_⟩
     have s2:af H1 (upd (upd (upd H1 sd (.frz o (.dT (kvF f ls)))) en (.lst (ak lts))) sd (.dT (kvF f ls))):=fun b ob e=>by
      by_cases z:b=sd
      ·subst z;rw [ag,<- e,hd1]
      ·rw [aj z,aj (aV e hen1),aj z];exact e
     have en2:(upd (upd (upd H1 sd (.frz o (.dT (kvF f ls)))) en (.lst (ak lts))) sd (.dT (kvF f ls))) en=some (.lst (ak lts)):=by rw [aj nen,ag]
     generalize upd (upd (upd H1 sd (.frz o (.dT (kvF f ls)))) en (.lst (ak lts))) sd (.dT (kvF f ls))=H3 at s2 en2 ⊢
     have hd3:=s2 _ _ hd1
     have hz':lts.length<=255:=by
      have e2:=congrArg List.length hm
      rw [List.length_map] at e2
      have:=List.length_filter_le (fun l:List Str=>lead l r) ls
      omega
     have hmem:∀x∈lts,x.2∈ls/\lead x.2 r=true:=fun x hx=>by
      have:x.2∈lts.map (·.2):=List.mem_map_of_mem hx
      rw [hm] at this
      exact List.mem_filter.mp this
     refine⟨_,rfl,en,rfl,⟨_,SqL.of en2⟩,eI (xs:=ak lts) (fits (by rw [List.length_map];omega)) (fun j ys σ H4=>ys=((lts.take j).map fun x=>decide (0 < f x.2)).map V.bl/\H4=H3/\∃x,σ=[x,some (.ref sd)]) ⟨rfl,rfl,_,rfl⟩
      (fun j ys σ H4 _ p=>⟨by rw [p.1];simp;omega,by rw [p.2.1];exact SqL.of en2⟩) ?_ ?_⟩
     ·rintro j y ys σ H4 hy ⟨rfl,rfl,x,rfl⟩
      obtain⟨lt,hlt,rfl⟩:=bZ hy
      have hm':=List.mem_of_getElem? hlt
      have gd:bu H4 sd (.ref lt.1) (some (.int (f lt.2))):=by
       rw [<- eM (f:=f) (hmem lt hm').1];exact bu.t hd3 (by rw [b6];exact s2 _ _ (hA lt hm'))
      refine⟨_,rfl,_,rfl,sd,_,rfl,gd,_,_,rfl,rfl,?_,rfl,_,rfl⟩
      rw [List.take_add_one,hlt];simp
     ·rintro ys σ H4 ⟨rfl,rfl,x,rfl⟩ al hal
      rw [take_all lts (by simp)]
      refine⟨al,_,rfl,SqL.of ag,_,rfl,?_⟩
      have s4:=am (o:=.lst ((lts.map fun x=>decide (0 < f x.2)).map V.bl)) (af.refl H4) hal
      generalize upd H4 al (.lst ((lts.map fun x=>decide (0 < f x.2)).map V.bl))=H5 at s4 ⊢
      have s05:=s1.trans (s2.trans s4)
      refine be (fun c=>?_) (fun c=>⟨s05,⟨_,_,rfl⟩,step fun g=>c ?_⟩)
      ·refine⟨_,rfl,_,rfl,by show 2<=sizeLine;decide,fun t ht=>?_⟩
       have s6:=am (o:=.tup [.ref r.1,.ref en]) (af.refl H5) ht
       have hgood:cK f ls fs r:=⟨c1,c2,fun l hl hle=>by
        have hin:l∈lts.map (·.2):=by rw [hm];exact List.mem_filter.mpr ⟨hl,hle⟩
        obtain⟨x,hx,rfl⟩:=List.mem_map.mp hin
        have:=List.all_eq_true.mp c (decide (0 < f x.2)) (List.mem_map_of_mem (f:=fun x:Addr×List Str=>decide (0 < f x.2)) hx)
        exact of_decide_eq_true this⟩
       exact k r t en lts _ (s05.trans s6) hrm hgood (ua hri hno hgood) ag (s6 _ _ (s4 _ _ en2)) (fun x hx=>s6 _ _ (s4 _ _ (s2 _ _ (hA x hx)))) hm (s1.free hen1)
      ·refine List.all_eq_true.mpr fun b hb=>?_
       obtain⟨x,hx,rfl⟩:=List.mem_map.mp hb
       obtain⟨h1,h2⟩:=hmem x hx
       exact decide_eq_true (g.2.2 _ h1 h2)
   ·rw [decide_eq_false c1]
    exact bb (bb ⟨s1,⟨_,_,rfl⟩,step fun g=>c1 g.1⟩)
  ·rintro σ H1 ⟨s1,⟨g1,g2,rfl⟩,hno⟩
   rw [take_all rs (by simp)] at hno
   obtain⟨r,hr',hg⟩:=hex
   exact absurd hg (hno r hr')
end
theorem rV {f:List Str->Int}{ls:List (List Str)}{l:List Str}{z:Int} (h:l∈ls):putK (kvF f ls) (aR l) (.int z)=kvF (fun m=>if m=l then z else f m) ls:=by
 unfold putK
 have ha:((kvF f ls).any fun kv=>decide (kv.1=aR l))=true:=by rw [dt,eM h];rfl
 rw [if_pos ha]
 unfold kvF
 rw [List.map_map]
 refine List.map_congr_left fun m _=>?_
 show (if aR m=aR l then (aR m,V.int z) else (aR m,V.int (f m)))=_
 by_cases e:m=l
 ·subst e;simp
 ·rw [if_neg (fun q=>e (eO q))]
  show _=(aR m,V.int (if m=l then z else f m))
  rw [if_neg e]
theorem iA {f g:List Str->Int}{ls:List (List Str)} (h:∀l∈ls,f l=g l):kvF f ls=kvF g ls:=List.map_congr_left fun l hl=>by rw [h l hl]
noncomputable abbrev ends (tr:List T):List Str:=tr.map fun r=>r.2.2.2
structure SpT (root:Str) (ps:List Str) (tr:List T):Prop where
 nd:(root::ends tr).Nodup
 sub:∀x∈root::ends tr,x∈ps
 ord:∀i r,tr[i]?=some r->r.2.2.1∈root::ends (tr.take i)
theorem SpT.start {root:Str}{ps:List Str} (h:root∈ps):SpT root ps []:=⟨by simp,by simpa using h,fun i r e=>by simp at e⟩
theorem SpT.add {root:Str}{ps:List Str}{tr:List T}{r:T} (S:SpT root ps tr) (h1:r.2.2.1∈root::ends tr) (h2:r.2.2.2∉root::ends tr) (h3:r.2.2.2∈ps):SpT root ps (tr++[r]) where
 nd:=by
  have e:root::ends (tr++[r])=(root::ends tr)++[r.2.2.2]:=by simp [ends]
  rw [e]
  exact List.nodup_append.mpr ⟨S.nd,by simp,fun a ha b hb=>by
   have:b=r.2.2.2:=by simpa using hb
   rw [this]
   exact fun z=>h2 (z ▸ ha)⟩
 sub:=fun x hx=>by
  have e:root::ends (tr++[r])=(root::ends tr)++[r.2.2.2]:=by simp [ends]
  rw [e] at hx
  rcases List.mem_append.mp hx with z | z
  ·exact S.sub x z
  ·have:x=r.2.2.2:=by simpa using z
   rw [this];exact h3
 ord:=fun i q hq=>by
  by_cases hi:i < tr.length
  ·rw [List.getElem?_append_left hi] at hq
   rw [List.take_append_of_le_length (by omega)]
   exact S.ord i q hq
  ·rw [List.getElem?_append_right (by omega)] at hq
   have hz:i - tr.length=0:=by
    cases hc:i - tr.length with
    | zero=>rfl
    | succ n=>rw [hc] at hq;simp at hq
   rw [hz] at hq
   have e:q=r:=by simpa using hq.symm
   subst e
   have:i=tr.length:=by omega
   subst this
   rw [List.take_left']
   ·exact h1
   ·rfl
theorem dX:∀{a b:List Str},a.Nodup->(∀x∈a,x∈b)->a.length<=b.length
 | [],_,_,_=>Nat.zero_le _
 | x::a,b,hn,hs=>by
  obtain⟨h1,h2⟩:=List.nodup_cons.mp hn
  have hx:=hs x List.mem_cons_self
  have ih:=dX (a:=a) (b:=b.erase x) h2 (fun y hy=>(List.mem_erase_of_ne (a:=y) (b:=x) (fun z:y=x=>h1 (z ▸ hy))).mpr (hs y (List.mem_cons_of_mem _ hy)))
  rw [List.length_erase_of_mem hx] at ih
  have:=List.length_pos_of_mem hx
  simp
  omega
theorem ux {a b:List Str} (hb:b.Nodup) (hl:a.length < b.length):∃x∈b,x∉a:=by
 by_cases c:∃x∈b,x∉a
 ·exact c
 ·have:∀x∈b,x∈a:=fun x hx=>by
   by_cases d:x∈a
   ·exact d
   ·exact absurd ⟨x,hx,d⟩ c
  have:=dX hb this
  omega
noncomputable def cj (ps later:List Str) (rs:List T) (root:Str):Nat->List T×List T
 | 0=>([],rs)
 | n + 1=>match rs.find? (eY (spr (cj ps later rs root n).2 later) (ay ps) (root::ends (cj ps later rs root n).1)) with
  | some r=>((cj ps later rs root n).1++[r],(cj ps later rs root n).2.erase r)
  | none=>cj ps later rs root n
theorem o9 {ps later:List Str}{rs tr rem:List T}{root:Str}{n:Nat}{r:T} (h:cj ps later rs root n=(tr,rem)) (hf:rs.find? (eY (spr rem later) (ay ps) (root::ends tr))=some r):cj ps later rs root (n + 1)=(tr++[r],rem.erase r):=by
 unfold cj
 rw [h]
 dsimp only
 rw [hf]
section
variable {P:Program}{w:World}{K:PySem.W.Frag}{mg:Str->Option Value}{base:Heap}
noncomputable def lW:Sp:=fun vs H Q _=>∃(pa ra la:Addr) (root:Str) (ps later:List Str) (rs:List T),vs=[.ref pa,.ref ra,.str root,.ref la]/\H pa=some (.tup (ps.map V.str))/\(H ra=some (.lst (ar rs))\/H ra=some (.tup (ar rs)))/\(∀r∈rs,cB H r.1 r.2)/\rs.length<=60 /\
 ps.Nodup/\ps.length<=8/\root∈ps/\(∀r∈rs,r.2.2.1∈ps/\r.2.2.2∈ps)/\H la=some (.tup (later.map V.str))/\later.length<=100/\(∀l∈ay ps,0<=spr rs (root::later) l) /\
 ∀(q:Addr) (tr rem:List T) (H':Hp),af H H'->H q=none->H' q=some (.lst (ar tr))->rs.Perm (tr++rem)->(∀l∈ay ps,0<=spr rem later l)->SpT root ps tr->tr.length + 1=ps.length->cj ps later rs root (ps.length - 1)=(tr,rem)->Q (.ref q) H'
noncomputable abbrev N27:List Str:=["places","rows","root","later","spare","found","tree","row","entered","lot"]
theorem eD:aP N27 ["places","rows","root","later"] (aC (top 27)):=⟨rfl,rfl,rfl,by decide +kernel,rfl,by decide +kernel,by decide +kernel⟩
theorem rK {f:Addr}{fd:FuncData} (F:Fun K "grown" "grown" (top 27) f fd) (B:Bl mg) (F1:Fn P w K mg base 3 "spare_into" ["rows","lots","roots"] i4) (F2:Fn P w K mg base 1 "lots_among" ["places"] gb) (F3:Fn P w K mg base 2 "next_row" ["rows","found","spare"] mT):aG P w K mg base CX0 4 f fd ["places","rows","root","later"] lW:=by
 refine F.ok eD (fun vs H Q E h=>?_) (fun cdv A outer s H vs Q E hr h=>?_)
 ·obtain⟨pa,ra,la,root,ps,later,rs,rfl,_⟩:=h
  rfl
 ·obtain⟨pa,ra,la,root,ps,later,rs,rfl,hpa,hra,hrow,hrz,hnd,h8,hroot,hst,hla,hl100,hge,k⟩:=h
  have hr1:aN 1 _:=hr.mono (by decide)
  have hr2:aN 2 _:=hr.mono (by decide)
  refine⟨_,ao (aL (i:=4) eD.nd rfl (Or.inl rfl) (aw F1 hr (aa (pv 1) (aa (aw F2 hr1 (aa (pv 0) ae)) (aa (pv 3) ae)))))
   (ao (aL (i:=5) eD.nd rfl (Or.inl rfl) (bD (aa (pv 2) ae)))
   (ao (aL (i:=6) eD.nd rfl (Or.inl rfl) (bD ae))
   (ao (rT PassesOwn.never (aZ fg (aA bA rfl B.len PySem.boot_len (aa (pv 5) ae)) (aA bA rfl B.len PySem.boot_len (aa (pv 0) ae)) (ba _))
    (ao (dA (aw F3 hr2 (aa (pv 1) (aa (pv 5) (aa (pv 4) ae)))) (c9 rfl (n:=2) (bB (aX (i:=7) eD.nd rfl (Or.inl rfl)) (bB (aX (i:=8) eD.nd rfl (Or.inl rfl)) cI))))
    (ao (bT (cT PySem.F.plainAttrs_list PySem.F.slot_list_append PySem.F.type_list_append dP (pv 5) (aa (aD aW (pv 7) ai (fun _ _=>rfl)) ae)))
    (ao (bT (cT PySem.F.plainAttrs_list PySem.F.slot_list_append PySem.F.type_list_append dP (pv 6) (aa (pv 7) ae)))
    (ax (bP PassesOwn.never rfl (bg (pv 8)) (aX (i:=9) eD.nd rfl (Or.inl rfl)) (ax (lL (cC hr) (pv 4) (pv 9) ai uy (fun _ _ _=>rfl)))))))))
   (ax (aI (pv 6)))))),?_⟩
  refine⟨_,rfl,_,rfl,pa,ps,rfl,.inr hpa,h8,fun q lts H1 s1 q1 A1 e1=>?_⟩
  have hll:lts.length<=255:=by
   have e2:=congrArg List.length e1
   rw [List.length_map] at e2
   have e3:=gu ps
   have e4:=eW h8
   omega
  refine⟨_,rfl,ra,q,la,rs,lts,later,rfl,hra.imp (s1 _ _) (s1 _ _),fun r hr=>s1 _ _ (hrow r hr),hrz,q1,A1,by rw [e1];exact fD hnd,hll,s1 _ _ hla,hl100,fun sd H2 s2 hsd0 d2=>?_⟩
  rw [e1] at d2
  have hl256:(ay ps).length<=255:=by rw [<- e1,List.length_map];exact hll
  have s02:=s1.trans s2
  have hsd:H sd=none:=s1.free hsd0
  refine⟨_,rfl,by show 1<=sizeLine;decide,fun fo hfo=>?_⟩
  have s3:=am (o:=.lst [.str root]) s02 hfo
  have f3:upd H2 fo (.lst [.str root]) fo=some (.lst ((root::ends []).map V.str)):=ag
  have nsf:sd≠fo:=aV d2 hfo
  have d3:upd H2 fo (.lst [.str root]) sd=some (.dT (kvF (spr rs later) (ay ps))):=by rw [aj nsf];exact d2
  generalize upd H2 fo (.lst [.str root])=H3 at s3 f3 d3 ⊢
  refine⟨Nat.zero_le _,fun tk htk=>?_⟩
  have hfo0:H fo=none:=s02.free hfo
  have htk0:H tk=none:=s3.free htk
  have nst:sd≠tk:=aV d3 htk
  have nft:fo≠tk:=aV f3 htk
  have s4:=am (o:=.lst []) s3 htk
  have d4:upd H3 tk (.lst []) sd=some (.dT (kvF (spr rs later) (ay ps))):=by rw [aj nst];exact d3
  have f4:upd H3 tk (.lst []) fo=some (.lst ((root::ends []).map V.str)):=by rw [aj nft];exact f3
  have t4:upd H3 tk (.lst []) tk=some (.lst (ar [])):=ag
  generalize upd H3 tk (.lst [])=H4 at s4 d4 f4 t4 ⊢
  refine⟨fun m σ H5=>∃(tr rem:List T) (g1 g2 g3:Option V),σ=[some (.ref pa),some (.ref ra),some (.str root),some (.ref la),some (.ref sd),some (.ref fo),some (.ref tk),g1,g2,g3]/\m=100 - tr.length/\rs.Perm (tr++rem)/\cV ps later (root::ends tr) rem/\SpT root ps tr/\cj ps later rs root tr.length=(tr,rem)/\af H H5/\H5 sd=some (.dT (kvF (spr rem later) (ay ps)))/\H5 fo=some (.lst ((root::ends tr).map V.str))/\H5 tk=some (.lst (ar tr)),
   ⟨_,[],rs,none,none,none,rfl,rfl,List.Perm.refl _,cV.start hnd hst hge,SpT.start hroot,rfl,s4,d4,f4,t4⟩,?_⟩
  rintro m σ H5 ⟨tr,rem,g1,g2,g3,rfl,rfl,hp,G,S,gF,s5,d5,f5,t5⟩
  have htl:tr.length + 1<=ps.length:=by
   have:=dX S.nd S.sub
   simpa using this
  refine⟨_,rfl,fo,_,rfl,.inl (SqL.of f5),_,rfl,pa,_,rfl,.inr (SqT.of (s5 _ _ hpa)),_,_,rfl,rfl,_,rfl,be (fun c=>?_) (fun c=>?_)⟩
  ·have hlt:tr.length + 1 < ps.length:=by
    have:=of_decide_eq_true c
    simp at this
    omega
   refine⟨fun σ' H'=>∃m',m' < 100 - tr.length/\∃(tr rem:List T) (g1 g2 g3:Option V),σ'=[some (.ref pa),some (.ref ra),some (.str root),some (.ref la),some (.ref sd),some (.ref fo),some (.ref tk),g1,g2,g3]/\m'=100 - tr.length/\rs.Perm (tr++rem)/\cV ps later (root::ends tr) rem/\SpT root ps tr/\cj ps later rs root tr.length=(tr,rem)/\af H H'/\H' sd=some (.dT (kvF (spr rem later) (ay ps)))/\H' fo=some (.lst ((root::ends tr).map V.str))/\H' tk=some (.lst (ar tr)),fun σ' H' q=>q,?_⟩
   have hex:∃r∈rs,cK (spr rem later) (ay ps) (root::ends tr) r:=by
    obtain⟨r,hr,hg⟩:=G.ex (ux hnd (by simpa using hlt))
    exact⟨r,hp.mem_iff.mpr (List.mem_append_right _ hr),hg⟩
   refine⟨_,rfl,_,rfl,_,rfl,ra,fo,sd,rs,root::ends tr,spr rem later,ay ps,rfl,hra.imp (s5 _ _) (s5 _ _),fun r hr=>s5 _ _ (hrow r hr),f5,d5,hl256,hex,fun r t en lts H6 s6 hr hg hfind t6 en6 A6 m6 hen=>?_⟩
   have s06:=s5.trans s6
   have hrow6:=s06 _ _ (hrow r hr)
   have hrem:r∈rem:=by
    rcases List.mem_append.mp (hp.mem_iff.mp hr) with z | z
    ·exact absurd (List.mem_cons_of_mem _ (List.mem_map_of_mem (f:=fun r:T=>r.2.2.2) z)) hg.2.1
    ·exact z
   have hpr:=List.perm_cons_erase hrem
   have G':=G.step hg hpr
   have S':=S.add hg.1 hg.2.1 (hst r hr).2
   have hp':rs.Perm ((tr++[r])++rem.erase r):=by
    rw [List.append_assoc]
    exact hp.trans (hpr.append_left tr)
   have ee:(root::ends tr)++[r.2.2.2]=root::ends (tr++[r]):=by simp [ends]
   rw [ee] at G'
   have d6:=s6 _ _ d5
   have f6:=s6 _ _ f5
   have t6':=s6 _ _ t5
   have nen1:en≠sd:=fun z=>by rw [z,d5] at hen;cases hen
   have nen2:en≠fo:=fun z=>by rw [z,f5] at hen;cases hen
   have nen3:en≠tk:=fun z=>by rw [z,t5] at hen;cases hen
   refine⟨t,_,rfl,SqT.of t6,rfl,_,_,rfl,_,_,rfl,rfl,?_⟩
   have hel:(root::ends tr).length<=8:=by simp;omega
   refine⟨_,rfl,.inl ⟨rfl,_,SqL.of f6⟩,_,rfl,aH (j:=2) (.inr (SqT.of hrow6)) rfl rfl ⟨fo,_,_,rfl,rfl,f6,fits (by rw [List.length_map];omega),?_⟩⟩
   have s7:=cm (o:=.lst ((root::ends tr).map V.str++[V.str r.2.2.2])) s06 hfo0
   have f7:upd H6 fo (.lst ((root::ends tr).map V.str++[V.str r.2.2.2])) fo=some (.lst ((root::ends (tr++[r])).map V.str)):=by rw [ag];simp [ends]
   have d7:upd H6 fo (.lst ((root::ends tr).map V.str++[V.str r.2.2.2])) sd=some (.dT (kvF (spr rem later) (ay ps))):=by rw [aj nsf];exact d6
   have t7:upd H6 fo (.lst ((root::ends tr).map V.str++[V.str r.2.2.2])) tk=some (.lst (ar tr)):=by rw [aj nft.symm];exact t6'
   have en7:upd H6 fo (.lst ((root::ends tr).map V.str++[V.str r.2.2.2])) en=some (.lst (ak lts)):=by rw [aj nen2];exact en6
   have A7:aO (upd H6 fo (.lst ((root::ends tr).map V.str++[V.str r.2.2.2]))) lts:=fun x hx=>by
    have:=A6 x hx
    rw [aj (fun z=>by rw [z,f6] at this;cases this)];exact this
   generalize upd H6 fo (.lst ((root::ends tr).map V.str++[V.str r.2.2.2]))=H7 at s7 f7 d7 t7 en7 A7 ⊢
   refine⟨_,rfl,.inl ⟨rfl,_,SqL.of t7⟩,_,rfl,tk,_,_,rfl,rfl,t7,fits (by rw [List.length_map];omega),?_⟩
   have s8:=cm (o:=.lst (ar tr++[V.ref r.1])) s7 htk0
   have t8:upd H7 tk (.lst (ar tr++[V.ref r.1])) tk=some (.lst (ar (tr++[r]))):=by rw [ag];simp [ar]
   have d8:upd H7 tk (.lst (ar tr++[V.ref r.1])) sd=some (.dT (kvF (spr rem later) (ay ps))):=by rw [aj nst];exact d7
   have f8:upd H7 tk (.lst (ar tr++[V.ref r.1])) fo=some (.lst ((root::ends (tr++[r])).map V.str)):=by rw [aj nft];exact f7
   have en8:upd H7 tk (.lst (ar tr++[V.ref r.1])) en=some (.lst (ak lts)):=by rw [aj nen3];exact en7
   have A8:aO (upd H7 tk (.lst (ar tr++[V.ref r.1]))) lts:=fun x hx=>by
    have:=A7 x hx
    rw [aj (fun z=>by rw [z,t7] at this;cases this)];exact this
   generalize upd H7 tk (.lst (ar tr++[V.ref r.1]))=H8 at s8 t8 d8 f8 en8 A8 ⊢
   have lnd:(lts.map (·.2)).Nodup:=by rw [m6];exact (fD hnd).filter _
   have hmem:∀x∈lts,x.2∈ay ps/\lead x.2 r=true:=fun x hx=>by
    have:x.2∈lts.map (·.2):=List.mem_map_of_mem hx
    rw [m6] at this
    exact List.mem_filter.mp this
   refine⟨_,rfl,en,rfl,⟨_,SqL.of en8⟩,dr (K:=K) (a:=en) (xs:=ak lts) (fun j σ H9=>(∃g3,σ=[some (.ref pa),some (.ref ra),some (.str root),some (.ref la),some (.ref sd),some (.ref fo),some (.ref tk),some (.ref r.1),some (.ref en),g3])/\af H H9/\H9 sd=some (.dT (kvF (fun l=>spr rem later l - (if l∈(lts.take j).map (·.2) then 1 else 0)) (ay ps)))/\H9 fo=some (.lst ((root::ends (tr++[r])).map V.str))/\H9 tk=some (.lst (ar (tr++[r])))/\H9 en=some (.lst (ak lts))/\aO H9 lts)
    ⟨⟨_,rfl⟩,s8,?_,f8,t8,en8,A8⟩ (fun j σ H9 _ p=>SqL.of p.2.2.2.2.2.1) ?_ ?_⟩
   ·rw [d8]
    refine congrArg (fun x=>some (HO.dT x)) (iA fun l _=>?_)
    simp
   ·rintro j x σ H9 hx ⟨⟨g3,rfl⟩,s9,d9,f9,t9,en9,A9⟩
    obtain⟨lt,hlt,rfl⟩:=bZ hx
    have hm:=List.mem_of_getElem? hlt
    have hnew:lt.2∉(lts.take j).map (·.2):=fun hmm=>by
     have nd:=lnd.sublist ((List.take_sublist (j + 1) lts).map (fun x:Addr×List Str=>x.2))
     rw [List.take_add_one,hlt,List.map_append] at nd
     exact (List.nodup_append.mp nd).2.2 _ hmm lt.2 (by simp) rfl
    have hA9:=A9 lt hm
    have gd:bu H9 sd (.ref lt.1) (some (.int (spr rem later lt.2))):=by
     have g:=bu.t (k:=aR lt.2) (b:=lt.1) d9 (by rw [b6];exact hA9)
     rw [eM (hmem lt hm).1] at g
     simp only [hnew,if_false,Int.sub_zero] at g
     exact g
    refine⟨_,rfl,_,rfl,sd,_,rfl,gd,_,_,rfl,rfl,_,cU.t d9 (by rw [b6];exact hA9) (fits (by rw [List.length_map];omega)),⟨_,rfl⟩,cm s9 hsd,?_,?_,?_,?_,?_⟩
    ·rw [ag,rV (hmem lt hm).1]
     refine congrArg (fun x=>some (HO.dT x)) (iA fun l _=>?_)
     rw [List.take_add_one,hlt]
     by_cases e:l=lt.2
     ·subst e
      simp
     ·simp [e]
    ·rw [aj nsf.symm];exact f9
    ·rw [aj nst.symm];exact t9
    ·rw [aj nen1];exact en9
    ·intro x hx
     have:=A9 x hx
     rw [aj (fun z=>by rw [z,d9] at this;cases this)];exact this
   ·rintro σ H9 ⟨⟨g3,rfl⟩,s9,d9,f9,t9,en9,A9⟩
    refine⟨_,?_,tr++[r],rem.erase r,_,_,_,rfl,rfl,hp',G',S',by rw [List.length_append];exact o9 gF hfind,s9,?_,f9,t9⟩
    ·rw [List.length_append];simp;omega
    ·rw [d9]
     refine congrArg (fun x=>some (HO.dT x)) (iA fun l hl=>?_)
     rw [take_all lts (by simp),m6,iR hpr]
     unfold ind
     cases hc:lead l r with
     | true =>
      have:l∈(ay ps).filter fun l=>lead l r:=List.mem_filter.mpr ⟨hl,hc⟩
      simp [this]
     | false =>
      have:l∉(ay ps).filter fun l=>lead l r:=fun z=>by
       have:=(List.mem_filter.mp z).2
       rw [hc] at this;cases this
      simp [this]
  ·have hle:ps.length<=tr.length + 1:=by
    have:¬ (((root::ends tr).map V.str).length:Int) < ((ps.map V.str).length:Int):=fun z=>c (decide_eq_true z)
    simp at this
    omega
   exact⟨_,rfl,k tk tr rem H5 s5 htk0 t5 hp G.ge S (by omega) (by rw [show ps.length - 1=tr.length by omega];exact gF)⟩
end
end K44
namespace L2
open PySem
theorem qQ {K:PySem.W.Frag}{tl:TE}{g:TG}{tt:TT}{te:TE}{ix:List (Option Nat)}{n:Nat}{D:Ends}{σ:St}{H Hb:Hp}{a:Addr}{xs:List V} (hn:xs.length < sizeLine) (htl:∀Q:VK,Q (.ref a) H->tl σ H Q) (hb:Hb a=some (.lst xs)\/Hb a=some (.tup xs)) (s0:af Hb H) (Pv:Nat->List V->St->Hp->Prop) (h0:Pv 0 [] (emb ix σ) H)
  (hl:∀i ys σ' H',i<=xs.length->Pv i ys σ' H'->ys.length<=i/\af Hb H')
  (hs:∀i x ys σ H,xs[i]?=some x->Pv i ys σ H->g x σ H fun σ2 H2=>tt σ2 H2 fun b H3=>if b=true then te σ2 H3 (fun v H4=>Pv (i + 1) (ys++[v]) σ2 H4) else Pv (i + 1) ys σ2 H3)
  (hd:∀ys σ' H,Pv xs.length ys σ' H->∀p,H p=none->D.nx (σ.set n (some (.ref p))) (upd H p (.lst ys))):jg n (iOr (jw K tl) (gR K tl)) g tt te ix D σ H:=by
 rcases hb with hb | hb
 ·exact .inl (htl _ ⟨a,rfl,⟨xs,SqL.of (s0 _ _ hb)⟩,iN hn Pv h0 (fun i ys σ H' hi p=>⟨(hl i ys σ H' hi p).1,SqL.of ((hl i ys σ H' hi p).2 _ _ hb)⟩) hs hd⟩)
 ·exact .inr (htl _ ⟨a,rfl,⟨xs,SqT.of (s0 _ _ hb)⟩,iY hn Pv h0 (fun i ys σ H' hi p=>⟨(hl i ys σ H' hi p).1,SqT.of ((hl i ys σ H' hi p).2 _ _ hb)⟩) hs hd⟩)
end L2
namespace K44
open PySem L2
theorem tu (K:PySem.W.Frag) {X:Cx}{k:Nat} (hr:aN k X.A) (h:X.K=K:=by rfl):OpR X (compareOp .NotIn) (lB K):=by subst h;exact qd hr
noncomputable abbrev tri (r:T):List Str:=[r.2.1,r.2.2.1,r.2.2.2]
noncomputable abbrev tna (tr:List T):List Str:=tr.map fun r=>r.2.1
theorem qy {cur tr rem:List T} (hp:cur.Perm (tr++rem)) (hn:(tna cur).Nodup):(cur.filter fun r=>!decide (tri r∈tr.map tri)).Perm rem:=by
 have h1:=hp.filter (fun r=>!decide (tri r∈tr.map tri))
 rw [List.filter_append] at h1
 have hn':(tna (tr++rem)).Nodup:=(hp.map _).nodup_iff.mp hn
 have e1:tr.filter (fun r=>!decide (tri r∈tr.map tri))=[]:=List.filter_eq_nil_iff.mpr fun r hr=>by
  have:tri r∈tr.map tri:=List.mem_map_of_mem hr
  simp [this]
 have e2:rem.filter (fun r=>!decide (tri r∈tr.map tri))=rem:=List.filter_eq_self.mpr fun r hr=>by
  have:tri r∉tr.map tri:=fun z=>by
   obtain⟨q,hq,e⟩:=List.mem_map.mp z
   have e':q.2.1=r.2.1:=(List.cons.inj e).1
   have hn2:(tna tr++tna rem).Nodup:=by rw [<- List.map_append];exact hn'
   exact (List.nodup_append.mp hn2).2.2 q.2.1 (List.mem_map_of_mem (f:=fun r:T=>r.2.1) hq) r.2.1 (List.mem_map_of_mem (f:=fun r:T=>r.2.1) hr) e'
  simp [this]
 rw [e1,e2,List.nil_append] at h1
 exact h1
theorem rW {a b:List T} (h:a.Perm b) (rts l:List Str):spr a rts l=spr b rts l:=by unfold spr;rw [iP h]
noncomputable def de (ps rts:List Str) (rs:List T):Nat->List (List T)×List T
 | 0=>([],rs)
 | n + 1=>match rts[n]? with
  | some root=>((de ps rts rs n).1++[(cj ps (rts.drop (n + 1)) (de ps rts rs n).2 root (ps.length - 1)).1],(de ps rts rs n).2.filter fun r=>!decide (tri r∈((cj ps (rts.drop (n + 1)) (de ps rts rs n).2 root (ps.length - 1)).1).map tri))
  | none=>de ps rts rs n
theorem oR {ps rts:List Str}{rs cur tr rem:List T}{trs:List (List T)}{n:Nat}{root:Str} (h:de ps rts rs n=(trs,cur)) (hn:rts[n]?=some root) (hg:cj ps (rts.drop (n + 1)) cur root (ps.length - 1)=(tr,rem)):de ps rts rs (n + 1)=(trs++[tr],cur.filter fun r=>!decide (tri r∈tr.map tri)):=by
 show (match rts[n]? with | some root=>_ | none=>_)=_
 rw [hn]
 dsimp only
 rw [h]
 dsimp only
 rw [hg]
structure Trs (ps rts:List Str) (rs:List T) (n:Nat) (trs:List (List T)) (tls:List (Addr×List Str)) (cur:List T):Prop where
 l1:trs.length=n
 l2:tls.length=n
 pm:rs.Perm (trs.flatten++cur)
 fn:de ps rts rs n=(trs,cur)
 tr:∀(i:Nat) (root:Str) (tr:List T) (x:Addr×List Str),rts[i]?=some root->trs[i]?=some tr->tls[i]?=some x->SpT root ps tr/\tr.length + 1=ps.length/\x.2.Perm (tna tr)/\PyProof.Rows.sortedS x.2=true
theorem Trs.add {ps rts:List Str}{rs:List T}{n:Nat}{trs:List (List T)}{tls:List (Addr×List Str)}{cur:List T} (h:Trs ps rts rs n trs tls cur) {root:Str}{tr cur':List T}{x:Addr×List Str} (hn:rts[n]?=some root) (hp:cur.Perm (tr++cur')) (S:SpT root ps tr) (hl:tr.length + 1=ps.length) (hx:x.2.Perm (tna tr)) (hso:PyProof.Rows.sortedS x.2=true) (hfn:de ps rts rs (n + 1)=(trs++[tr],cur')):Trs ps rts rs (n + 1) (trs++[tr]) (tls++[x]) cur' where
 l1:=by rw [List.length_append,h.l1];rfl
 l2:=by rw [List.length_append,h.l2];rfl
 pm:=by
  rw [List.flatten_append,List.append_assoc]
  refine h.pm.trans (List.Perm.append_left _ ?_)
  simpa using hp
 fn:=hfn
 tr:=fun i rt t y hr ht hy=>by
  by_cases hi:i < n
  ·rw [List.getElem?_append_left (by rw [h.l1];exact hi)] at ht
   rw [List.getElem?_append_left (by rw [h.l2];exact hi)] at hy
   exact h.tr i rt t y hr ht hy
  ·have hlt:i < (trs++[tr]).length:=(List.getElem?_eq_some_iff.mp ht).1
   rw [List.length_append,h.l1] at hlt
   have e:i=n:=by simp at hlt;omega
   subst e
   rw [List.getElem?_append_right (by rw [h.l1];exact Nat.le_refl _),h.l1,Nat.sub_self] at ht
   rw [List.getElem?_append_right (by rw [h.l2];exact Nat.le_refl _),h.l2,Nat.sub_self] at hy
   rw [hn] at hr
   cases hr
   have e1:t=tr:=by simpa using ht.symm
   have e2:y=x:=by simpa using hy.symm
   subst e1 e2
   exact⟨S,hl,hx,hso⟩
section
variable {P:Program}{w:World}{K:PySem.W.Frag}{mg:Str->Option Value}{base:Heap}
noncomputable def me:Sp:=fun vs H Q _=>∃(v pa ra a:Addr) (ps rts:List Str) (rs:List T),vs=[.ref v,.ref a]/\bv H v pa ra ps rs/\Good ps (rs.map (·.2))/\ps.length<=8/\H a=some (.tup (rts.map V.str))/\rts.length<=100/\(∀x∈rts,x∈ps)/\(∀l∈ay ps,0<=spr rs rts l) /\
 ∀H',af H H'->∀(q:Addr) (trs:List (List T)) (tls:List (Addr×List Str)) (cur:List T),H q=none->H' q=some (.lst (ak tls))->aO H' tls->Trs ps rts rs rts.length trs tls cur->Q (.ref q) H'
noncomputable abbrev N29:List Str:=["web","roots","places","rows","trees","at","root","tree"]
theorem dJ:aP N29 ["web","roots"] (aC (top 29)):=⟨rfl,rfl,rfl,by decide +kernel,rfl,by decide +kernel,by decide +kernel⟩
theorem qI {f:Addr}{fd:FuncData} (F:Fun K "trees_from" "trees_from" (top 29) f fd) (B:Bl mg) (F1:Fn P w K mg base 4 "need_enough" ["web","roots"] lg) (F2:Fn P w K mg base 4 "grown" ["places","rows","root","later"] lW):aG P w K mg base CX0 5 f fd ["web","roots"] me:=by
 refine F.ok dJ (fun vs H Q E h=>?_) (fun cdv A outer s H vs Q E hr h=>?_)
 ·obtain⟨v,pa,ra,a,ps,rts,rs,rfl,_⟩:=h
  rfl
 ·obtain⟨v,pa,ra,a,ps,rts,rs,rfl,W,G,h8,ha,hr100,hin,hge,k⟩:=h
  refine⟨_,ao (bT (aw F1 hr (aa (pv 0) (aa (pv 1) ae))))
   (ao (dA (pv 0) (c9 rfl (n:=2) (bB (aX (i:=2) dJ.nd rfl (Or.inl rfl)) (bB (aX (i:=3) dJ.nd rfl (Or.inl rfl)) cI))))
   (ao (aL (i:=4) dJ.nd rfl (Or.inl rfl) (bD ae))
   (ao (bP PassesOwn.never rfl (uH rfl B.enumerate (aa (pv 1) ae)) (c9 rfl (n:=2) (bB (aX (i:=5) dJ.nd rfl (Or.inl rfl)) (bB (aX (i:=6) dJ.nd rfl (Or.inl rfl)) cI)))
    (ao (aL (i:=7) dJ.nd rfl (Or.inr rfl) (aw F2 hr (aa (pv 2) (aa (pv 3) (aa (pv 6) (aa (eN tK (pv 1) (eQ (aB bU (pv 5) ai)) eR) ae))))))
    (ao (cX (i:=3) (N:=["row","tree"]) (ix:=[none,some 7]) dJ.nd rfl (Or.inl rfl) ⟨rfl,rfl,rfl,by decide⟩ rfl (gM (bg (pv 3)) (bW (pv 3))) (fun _ _ _ _=>aQ 0 (by decide) rfl rfl) (fun _ _ _ _=>cu (aZ (tu K hr) (pv 0) (pv 1) (by with_unfolding_all rfl))) (fun _ _ _ _=>pv 0))
    (ax (bT (cT PySem.F.plainAttrs_list PySem.F.slot_list_append PySem.F.type_list_append dP (pv 4) (aa (cb eG rfl B.tuple cz (aa (aA jR rfl B.sorted fK (aa (PE.nox (bp (N:=["row"]) (ix:=[none]) ⟨rfl,rfl,rfl,by decide⟩ rfl (bg (pv 7)) (fun _ _ _ _=>aQ 0 (by decide) rfl rfl) (fun _ _ _ _=>bc) (fun _ _ _ _=>aD (b7 K) (pv 0) ai (fun _ _=>rfl)))) ae)) ae)) ae)))))))
   (ax (aI (pv 4)))))),?_⟩
  have hnd:=dR G.so
  have hrz:rs.length<=60:=by have:=G.rz;simpa using this
  have hst:∀r∈rs,aE r.2.1/\r.2.2.1∈ps/\r.2.2.2∈ps:=fun r hr=>by
   obtain⟨h1,h2,h3,_⟩:=G.rn r.2 (List.mem_map_of_mem hr)
   exact⟨h1,h2,h3⟩
  have htn:(tna rs).Nodup:=by
   have:=dR G.rso
   rw [List.map_map] at this
   exact this
  refine⟨_,rfl,_,rfl,v,pa,ra,a,ps,rts,rs,rfl,W,hnd,h8,hrz,ha,hr100,hge,fun H1 s1=>?_⟩
  have W1:=W.same s1
  have a1:=s1 _ _ ha
  refine⟨_,rfl,v,_,rfl,SqT.of W1.tp,rfl,_,_,rfl,_,_,rfl,rfl,Nat.zero_le _,fun tk htk=>?_⟩
  have s2:=am (o:=.lst []) s1 htk
  have htk0:=s1.free htk
  have t2:upd H1 tk (.lst []) tk=some (.lst (ak [])):=ag
  generalize upd H1 tk (.lst [])=H2 at s2 t2 ⊢
  refine⟨_,rfl,a,_,rfl,SqT.of (s2 _ _ ha),sM (K:=K) (a:=a) (xs:=rts.map V.str) (fun i σ H3=>∃(rc:Addr) (trs:List (List T)) (tls:List (Addr×List Str)) (cur:List T) (g1 g2 g3:Option V),σ=[some (.ref v),some (.ref a),some (.ref pa),some (.ref rc),some (.ref tk),g1,g2,g3]/\af H H3/\H3 tk=some (.lst (ak tls))/\aO H3 tls/\(H3 rc=some (.lst (ar cur))\/H3 rc=some (.tup (ar cur)))/\rc≠tk/\cur.Sublist rs/\Trs ps rts rs i trs tls cur/\∀l∈ay ps,0<=spr cur (rts.drop i) l)
   ⟨ra,[],[],rs,none,none,none,rfl,s2,t2,(fun x hx=>nomatch hx),.inr (s2 _ _ W.rl),(fun z=>by have:=W.rl;rw [z,htk0] at this;cases this),List.Sublist.refl _,⟨rfl,rfl,by simp,rfl,fun i rt t x _ ht=>by simp at ht⟩,hge⟩
   (fun i σ H3 _ p=>by obtain⟨_,_,_,_,_,_,_,_,s3,_⟩:=p;exact SqT.of (s3 _ _ ha)) ?_ ?_⟩
  ·rintro i x σ H3 T0 hx ⟨rc,trs,tls,cur,g1,g2,g3,rfl,s3,t3,A3,c3,nct,hsub,R3,hge3⟩ hT0
   rw [List.getElem?_map] at hx
   cases hc:rts[i]? with
   | none=>rw [hc] at hx;cases hx
   | some root =>
    rw [hc] at hx
    cases hx
    have hi:i < rts.length:=(List.getElem?_eq_some_iff.mp hc).1
    have s4:=am (o:=.tup [.int i,.str root]) (af.refl H3) hT0
    have T4:upd H3 T0 (.tup [.int i,.str root]) T0=some (.tup [.int i,.str root]):=ag
    generalize upd H3 T0 (.tup [.int i,.str root])=H4 at s4 T4 ⊢
    have s04:=s3.trans s4
    refine⟨T0,_,rfl,SqT.of T4,rfl,_,_,rfl,_,_,rfl,rfl,?_⟩
    have hdrop:rts.drop i=root::rts.drop (i + 1):=by
     rw [List.drop_eq_getElem_cons hi]
     have:=(List.getElem?_eq_some_iff.mp hc).2
     rw [this]
    have hcut:bR (rts.map V.str) (some ((i:Int) + 1)) none=(rts.drop (i + 1)).map V.str:=by
     have:=k8 (rts.map V.str) (n:=i + 1) (by rw [List.length_map];omega)
     rw [List.map_drop]
     exact this
    refine⟨_,rfl,_,rfl,_,rfl,_,rfl,_,rfl,_,_,rfl,rfl,_,rfl,a,_,rfl,SqT.of (s04 _ _ ha),fun e=>?_,fun la hla=>?_⟩
    ·rw [hcut] at e
     have:=congrArg List.length e
     simp at this
     omega
    rw [hcut]
    have s5:=am (o:=.tup ((rts.drop (i + 1)).map V.str)) (af.refl H4) hla
    have l5:upd H4 la (.tup ((rts.drop (i + 1)).map V.str)) la=some (.tup ((rts.drop (i + 1)).map V.str)):=ag
    generalize upd H4 la (.tup ((rts.drop (i + 1)).map V.str))=H5 at s5 l5 ⊢
    have s05:=s04.trans s5
    have s35:=s4.trans s5
    have hcl:cur.length<=60:=Nat.le_trans hsub.length_le hrz
    have hcn:(tna cur).Nodup:=htn.sublist (hsub.map _)
    refine⟨pa,rc,la,root,ps,rts.drop (i + 1),cur,rfl,s05 _ _ W.pl,c3.imp (s35 _ _) (s35 _ _),fun r hr=>s05 _ _ (W.rows r (hsub.subset hr)),hcl,hnd,h8,hin root (List.mem_of_getElem? hc),fun r hr=>(hst r (hsub.subset hr)).2,l5,by rw [List.length_drop];omega,by rw [<- hdrop];exact hge3,fun q tr rem H6 s6 hq q6 hp hge6 S hl hgF=>?_⟩
    have s36:=s35.trans s6
    have s06:=s3.trans s36
    have htr:∀r∈tr,r∈rs:=fun r hr=>hsub.subset (hp.mem_iff.mpr (List.mem_append_left _ hr))
    have hnm3:∀r∈rs,∀z∈tri r,aE z:=fun r hr z hz=>by
     obtain⟨h1,h2,h3⟩:=hst r hr
     simp [tri] at hz
     rcases hz with e | e | e
     ·rw [e];exact h1
     ·rw [e];exact G.nm _ h2
     ·rw [e];exact G.nm _ h3
    have htrl:tr.length<=8:=by omega
    refine qQ (K:=K) (Hb:=H6) (a:=rc) (xs:=ar cur) (fits (by rw [List.length_map];omega)) (fun Q q=>⟨_,rfl,q⟩) (c3.imp (s36 _ _) (s36 _ _)) (af.refl H6) (fun j ys σ H7=>ys=ar ((cur.take j).filter fun r=>!decide (tri r∈tr.map tri))/\H7=H6/\∃x,σ=[x,some (.ref q)]) ⟨rfl,rfl,_,rfl⟩
     (fun j ys σ H7 _ p=>⟨by rw [p.1,List.length_map];exact Nat.le_trans (List.length_filter_le _ _) (by rw [List.length_take];omega),by rw [p.2.1];exact af.refl H6⟩) ?_ ?_
    ·rintro j y ys σ H7 hy ⟨rfl,rfl,x,rfl⟩
     obtain⟨r,hrj,rfl⟩:=dm hy
     have hrm:=hsub.subset (List.mem_of_getElem? hrj)
     have tf:=ck (fun r:T=>!decide (tri r∈tr.map tri)) cur j r hrj
     refine⟨_,rfl,_,rfl,r.1,q,tri r,tr.map (fun r=>(r.1,tri r)),rfl,rfl,s06 _ _ (W.rows r hrm),hnm3 r hrm,SqL.of (by rw [q6];simp [ak,ar]),?_,?_,_,rfl,?_⟩
     ·intro x hx
      obtain⟨t,ht,rfl⟩:=List.mem_map.mp hx
      exact s06 _ _ (W.rows t (htr t ht))
     ·intro x hx z hz
      obtain⟨t,ht,rfl⟩:=List.mem_map.mp hx
      exact hnm3 t (htr t ht) z hz
     ·have e:(tr.map fun r=>(r.1,tri r)).map (·.2)=tr.map tri:=by rw [List.map_map];rfl
      rw [e]
      refine be (fun c=>⟨_,rfl,?_,rfl,_,rfl⟩) (fun c=>⟨?_,rfl,_,rfl⟩)
      ·rw [tf,if_pos c];simp [ar]
      ·rw [tf,if_neg c];simp
    rintro ys σ' H7 ⟨rfl,rfl,x,rfl⟩ rn hrn
    rw [take_all cur (by simp)]
    have hlp:=qy hp hcn
    have hsub':=(List.filter_sublist (l:=cur) (p:=fun r=>!decide (tri r∈tr.map tri))).trans hsub
    generalize hcur':(cur.filter fun r=>!decide (tri r∈tr.map tri))=cur' at hlp hsub' ⊢
    have s8:=am (o:=.lst (ar cur')) (af.refl H7) hrn
    have n8:upd H7 rn (.lst (ar cur')) rn=some (.lst (ar cur')):=ag
    generalize upd H7 rn (.lst (ar cur'))=H8 at s8 n8 ⊢
    have s38:=s36.trans s8
    have s08:=s3.trans s38
    have t8:=s38 _ _ t3
    have q8:=s8 _ _ q6
    have nrt:rn≠tk:=fun z=>by rw [z,s36 _ _ t3] at hrn;cases hrn
    refine⟨_,rfl,.inl ⟨rfl,_,SqL.of t8⟩,_,rfl,q,rfl,⟨_,SqL.of q8⟩,eI (xs:=ar tr) (fits (by rw [List.length_map];omega)) (fun j ys σ H9=>ys=(tna (tr.take j)).map V.str/\H9=H8/\∃x,σ=[x]) ⟨rfl,rfl,_,rfl⟩
     (fun j ys σ H9 _ p=>⟨by rw [p.1];simp;omega,by rw [p.2.1];exact SqL.of q8⟩) ?_ ?_⟩
    ·rintro j y ys σ H9 hy ⟨rfl,rfl,x,rfl⟩
     obtain⟨r,hrj,rfl⟩:=dm hy
     refine⟨_,rfl,aH (j:=0) (.inr (SqT.of (s08 _ _ (W.rows r (htr r (List.mem_of_getElem? hrj)))))) rfl rfl ⟨?_,rfl,_,rfl⟩⟩
     rw [List.take_add_one,hrj];simp
    rintro ys σ H9 ⟨rfl,rfl,x,rfl⟩ l9 hl9
    rw [take_all tr (by simp)]
    have s10:=am (o:=.lst ((tna tr).map V.str)) (af.refl H9) hl9
    have l10:upd H9 l9 (.lst ((tna tr).map V.str)) l9=some (.lst ((tna tr).map V.str)):=ag
    generalize upd H9 l9 (.lst ((tna tr).map V.str))=H10 at s10 l10 ⊢
    refine⟨l9,tna tr,rfl,SqL.of l10,by simp;omega,fun ss q11 hpm hso hq11=>?_⟩
    have s11:=am (o:=.lst (ss.map V.str)) (af.refl H10) hq11
    have q11':upd H10 q11 (.lst (ss.map V.str)) q11=some (.lst (ss.map V.str)):=ag
    generalize upd H10 q11 (.lst (ss.map V.str))=H11 at s11 q11' ⊢
    refine⟨q11,_,rfl,.inl ⟨SqL.of q11',fun tt htt=>?_⟩⟩
    have s12:=am (o:=.tup (ss.map V.str)) (af.refl H11) htt
    have t12:upd H11 tt (.tup (ss.map V.str)) tt=some (.tup (ss.map V.str)):=ag
    generalize upd H11 tt (.tup (ss.map V.str))=H12 at s12 t12 ⊢
    have s812:=s10.trans (s11.trans s12)
    have s312:=s38.trans s812
    have hti:tls.length<=100:=by rw [R3.l2];omega
    refine⟨tk,_,_,rfl,rfl,s312 _ _ t3,fits (by rw [List.length_map];omega),?_⟩
    refine⟨rn,trs++[tr],tls++[(tt,ss)],cur',_,_,_,rfl,cm (s3.trans s312) htk0,?_,?_,.inl ?_,nrt,hsub',R3.add hc (hp.trans (hlp.symm.append_left tr)) S hl hpm hso (by rw [<- hcur'];exact oR R3.fn hc hgF),fun l hl=>?_⟩
    ·rw [ag];simp [ak]
    ·intro y hy
     rcases List.mem_append.mp hy with z | z
     ·have:=s312 _ _ (A3 y z)
      rw [aj (fun e=>by rw [e,s312 _ _ t3] at this;cases this)];exact this
     ·have e:y=(tt,ss):=by simpa using z
      subst e
      rw [aj (fun e:tt=tk=>by rw [e,s312 _ _ t3] at t12;cases t12)];exact t12
    ·rw [aj nrt];exact s812 _ _ n8
    ·rw [rW hlp];exact hge6 l hl
  ·rintro σ H3 ⟨rc,trs,tls,cur,g1,g2,g3,rfl,s3,t3,A3,c3,nct,hsub,R3,hge3⟩
   rw [List.length_map] at R3
   exact⟨_,rfl,k H3 s3 tk trs tls cur htk0 t3 A3 R3⟩
end
mutual
theorem kM:∀d:PyData,d.canLay0=true->PyData.eqv d d=true
 | .none,_=>by simp [PyData.eqv]
 | .bool b,_=>by simp [PyData.eqv]
 | .int i,_=>by simp [PyData.eqv]
 | .str x,_=>by simp [PyData.eqv]
 | .list xs,h=>by rw [PyData.eqv];exact ik xs (by simpa [PyData.canLay0] using h)
 | .tuple xs,h=>by rw [PyData.eqv];exact ik xs (by simpa [PyData.canLay0] using h)
 | .dict _,h=>by simp [PyData.canLay0] at h
theorem ik:∀ds:List PyData,PyData.canLayAll0 ds=true->PyData.eqvAll ds ds=true
 | [],_=>by simp [PyData.eqvAll]
 | d::ds,h=>by
  simp only [PyData.canLayAll0,Bool.and_eq_true] at h
  rw [PyData.eqvAll,kM d h.1,ik ds h.2]
  rfl
end
noncomputable abbrev cM (ts:List Str):PyData:=.tuple (ts.map PyData.str)
noncomputable abbrev tlD (tl:List (List Str)):PyData:=.list (tl.map cM)
theorem jt {H:Hp}:∀{tss:List (Addr×List Str)},aO H tss->DVs H (ak tss) ((tss.map (·.2)).map cM)
 | [],_=>.nil
 | r::t,h=>.cons (.tup (h r List.mem_cons_self) (DVs.strs _)) (jt fun x hx=>h x (List.mem_cons_of_mem _ hx))
theorem lT:∀{tl:List (List Str)},(∀ts∈tl,∀y∈ts,aE y)->PyData.canLayAll0 (tl.map cM)=true/\PyData.depthAll (tl.map cM)<=1
 | [],_=>⟨rfl,Nat.zero_le _⟩
 | ts::t,h=>by
  have ih:=lT (tl:=t) fun x hx=>h x (List.mem_cons_of_mem _ hx)
  have q:=iJ (h ts List.mem_cons_self)
  rw [List.map_cons]
  have i2:=ih.2
  simp only [PyData.canLayAll0,PyData.canLay0,PyData.depthAll,PyData.depth,q.1,q.2,ih.1]
  exact⟨rfl,by omega⟩
section
variable {P:Program}{w:World}{K:PySem.W.Frag}{mg:Str->Option Value}{base:Heap}
end
section
variable {P:Program}{w:World}{K:PySem.W.Frag}{mg:Str->Option Value}{base:Heap}
noncomputable def lx:Sp:=fun vs H Q _=>∃(v pa ra:Addr) (ps:List Str) (rs:List T) (root:Str) (m:Nat),vs=[.ref v,.str root,.int m]/\bv H v pa ra ps rs/\Good ps (rs.map (·.2))/\ps.length<=8/\root∈ps/\m<=6/\(∀l∈ay (others ps root),m<=cnt rs l) /\
 ∀H',af H H'->∀(q:Addr) (trs:List (List T)) (tls:List (Addr×List Str)) (cur:List T),H q=none->H' q=some (.lst (ak tls))->aO H' tls->Trs ps (List.replicate m root) rs m trs tls cur->Q (.ref q) H'
theorem wC:aP ["web","root","many"] ["web","root","many"] (aC (top 30)):=⟨rfl,rfl,rfl,by decide +kernel,rfl,by decide +kernel,by decide +kernel⟩
theorem pV {f:Addr}{fd:FuncData} (F:Fun K "shares" "shares" (top 30) f fd) (B:Bl mg)
  (F1:Fn P w K mg base 4 "need_web" ["thing"] (fS .non)) (F2:Fn P w K mg base 2 "need_place" ["web","thing"] iq) (F3:Fn P w K mg base 2 "need_number" ["thing","low","high"] iM) (F4:Fn P w K mg base 5 "trees_from" ["web","roots"] me):aG P w K mg base CX0 6 f fd ["web","root","many"] lx:=by
 refine F.ok wC (fun vs H Q E h=>?_) (fun cdv A outer s H vs Q E hr h=>?_)
 ·obtain⟨v,pa,ra,ps,rs,root,m,rfl,_⟩:=h
  rfl
 ·obtain⟨v,pa,ra,ps,rs,root,m,rfl,W,G,h8,hroot,hm6,hall,k⟩:=h
  have hr4:aN 4 _:=hr.mono (by decide)
  have hr2:aN 2 _:=hr.mono (by decide)
  obtain⟨tm,hmost⟩:=B.most
  refine⟨_,ao (bT (aw F1 hr4 (aa (pv 0) ae))) (ao (bT (aw F2 hr2 (aa (pv 0) (aa (pv 1) ae))))
   (ao (bT (aw F3 hr2 (aa (pv 2) (aa ai (aa (iX (v:=.int 6) rfl hmost ⟨_,rfl⟩) ae)))))
   (ax (aI (aw F4 hr (aa (pv 0) (aa (aB ud (bV (aa (pv 1) ae)) (pv 2)) ae))))))),?_⟩
  have hnd:=dR G.so
  refine⟨_,rfl,v,pa,ra,ps,rs,rfl,W,G,fun H1 s1=>?_⟩
  have W1:=W.same s1
  refine⟨_,rfl,_,rfl,v,pa,ra,ps,rs,root,rfl,W1,hroot,?_⟩
  refine⟨_,rfl,(m:Int),0,6,rfl,by omega,by omega,?_⟩
  refine⟨_,rfl,_,rfl,by show 1<=sizeLine;decide,fun t0 ht0=>?_⟩
  have s1':=am (o:=.tup [.str root]) (af.refl H1) ht0
  have t1:upd H1 t0 (.tup [.str root]) t0=some (.tup [.str root]):=ag
  generalize upd H1 t0 (.tup [.str root])=H1b at s1' t1 ⊢
  refine⟨_,rfl,t0,(m:Int),[.str root],rfl,rfl,t1,by simp,by show 1<=1000;decide,by omega,by omega,fun a H2 s2 a2=>?_⟩
  have ea:(List.replicate ((m:Int)).toNat [V.str root]).flatten=(List.replicate m root).map V.str:=by
   rw [Int.toNat_natCast,List.map_replicate]
   exact lq _ _
  rw [ea] at a2
  have s02:=s1.trans (s1'.trans s2)
  have W2:=W.same s02
  refine⟨v,pa,ra,a,ps,List.replicate m root,rs,rfl,W2,G,h8,a2,by rw [List.length_replicate];omega,fun x hx=>by rw [List.eq_of_mem_replicate hx];exact hroot,fun l hl=>?_,fun H3 s3 q trs tls cur hq q3 A3 R3=>?_⟩
  ·rw [sQ]
   by_cases z:root∈l
   ·rw [if_pos z];omega
   ·rw [if_neg z]
    have:=hall l ((oQ hnd).mpr ⟨hl,z⟩)
    omega
  ·rw [List.length_replicate] at R3
   exact k H3 (s02.trans s3) q trs tls cur (s02.free hq) q3 A3 R3
end
theorem uC (xs:List V) {n:Nat} (h:n<=xs.length):bR xs none (some (n:Int))=xs.take n:=by
 unfold bR
 have h0:¬ ((n:Int) < 0):=by omega
 have h1:min n xs.length=n:=by omega
 simp [HT.sIx,h0]
 first | done | (rw [h1]) | skip
theorem wL {c:Const}{k:Nat}{p:Pos}{es:List Expr}{env:Env}:starEach (.Constant c k p::es) env=(false,eval (.Constant c k p) env)::starEach es env:=rfl
theorem cA {X:Cx}{x:Str}{j:Nat}{p:Pos}{es:List Expr}{t:TA} (h:PA X es t):PA X (.Constant (.str x) j p::es) (nr (tC (.str x)) t):=aa ef h wL
noncomputable def bO:List Str:=["root","source","sink","new","extra","start","end","tie","place","point","from","super"].map Str.ofString
theorem pK:∀x∈bO,aE x:=by
 intro x hx
 simp only [bO,List.map_cons,List.map_nil,List.mem_cons,List.not_mem_nil,or_false] at hx
 rcases hx with rfl | rfl | rfl | rfl | rfl | rfl | rfl | rfl | rfl | rfl | rfl | rfl
 all_goals exact aE.of_codes rfl (by decide) (by decide) (by decide)
theorem oN:bO.Nodup:=by decide
noncomputable def rot (b n:Nat):List Str:=(List.range n).filterMap fun k=>bO[(b + k) % 12]?
theorem iy:bO.length=12:=rfl
theorem lN (b k:Nat):bO[(b + k) % 12]?=some (bO[(b + k) % 12]'(by rw [iy];exact Nat.mod_lt _ (by decide))):=List.getElem?_eq_getElem _
theorem iI (b n:Nat):rot b (n + 1)=rot b n++[bO[(b + n) % 12]'(by rw [iy];exact Nat.mod_lt _ (by decide))]:=by
 unfold rot
 rw [List.range_succ,List.filterMap_append]
 simp [lN]
theorem i6 (b:Nat):∀n,(rot b n).length=n
 | 0=>rfl
 | n + 1=>by rw [iI,List.length_append,i6 b n];rfl
theorem lG {b:Nat}:∀{n:Nat}{x:Str},x∈rot b n->∃k,k < n/\bO[(b + k) % 12]?=some x
 | n,x,h=>by
  unfold rot at h
  obtain⟨k,hk,e⟩:=List.mem_filterMap.mp h
  exact⟨k,List.mem_range.mp hk,e⟩
theorem ki (b:Nat):∀{n:Nat},n<=12->(rot b n).Nodup
 | 0,_=>List.nodup_nil
 | n + 1,h=>by
  rw [iI]
  refine List.nodup_append.mpr ⟨ki b (by omega),by simp,fun x hx y hy=>?_⟩
  have ey:y=bO[(b + n) % 12]'(by rw [iy];exact Nat.mod_lt _ (by decide)):=by simpa using hy
  obtain⟨k,hk,e⟩:=lG hx
  obtain⟨h1,e'⟩:=List.getElem?_eq_some_iff.mp e
  intro z
  rw [ey,<- e'] at z
  have hp:=List.pairwise_iff_getElem.mp oN
  have hne:(b + k) % 12≠(b + n) % 12:=by omega
  rcases Nat.lt_or_gt_of_ne hne with q | q
  ·exact hp _ _ _ _ q z
  ·exact hp _ _ _ _ q z.symm
theorem rU (b n:Nat):∀x∈rot b n,aE x:=fun x hx=>by
 obtain⟨k,_,e⟩:=lG hx
 exact pK x (List.mem_of_getElem? e)
noncomputable def di (fo ns:List Str):List Str:=(fo++ns.filter fun x=>!decide (x∈fo)).take ns.length
theorem qY {fo ns:List Str} (hf:fo.length<=ns.length) (hn:ns.Nodup):(di fo ns).length=ns.length:=by
 unfold di
 rw [List.length_take,List.length_append]
 have h1:ns.length=(ns.filter fun x=>decide (x∈fo)).length + (ns.filter fun x=>!decide (x∈fo)).length:=by
  have:=List.length_eq_countP_add_countP (l:=ns) (fun x=>decide (x∈fo))
  rw [List.countP_eq_length_filter,List.countP_eq_length_filter] at this
  simpa using this
 have h2:(ns.filter fun x=>decide (x∈fo)).length<=fo.length:=dX (hn.filter _) fun x hx=>by simpa using (List.mem_filter.mp hx).2
 omega
theorem pJ {fo ns:List Str} (hf:fo.Nodup) (hn:ns.Nodup):(di fo ns).Nodup:=by
 unfold di
 refine List.Nodup.sublist (List.take_sublist _ _) (List.nodup_append.mpr ⟨hf,hn.filter _,fun x hx y hy z=>?_⟩)
 have:=(List.mem_filter.mp hy).2
 rw [<- z] at this
 simp [hx] at this
theorem p3 {fo ns:List Str} (hf:∀x∈fo,aE x) (hn:∀x∈ns,aE x):∀x∈di fo ns,aE x:=fun x hx=>by
 rcases List.mem_append.mp (List.mem_of_mem_take hx) with z | z
 ·exact hf x z
 ·exact hn x (List.mem_filter.mp z).1
section
variable {P:Program}{w:World}{K:PySem.W.Frag}{mg:Str->Option Value}{base:Heap}
noncomputable def lE:Sp:=fun vs H Q _=>∃(p na:Addr) (ns:List Str),vs=[.ref p,.ref na]/\Pot H p/\H na=some (.lst (ns.map V.str))/\ns.length<=40/\ns.Nodup/\(∀x∈ns,aE x) /\
 ∀(q:Addr) (ms:List Str) (H':Hp),Pot H' p->H' q=some (.lst (ms.map V.str))->(∀x∈ms,aE x)->ms.Nodup->ms.length=ns.length->Kp [p] H H'->Q (.ref q) H'
noncomputable abbrev N41:List Str:=["_law_pot_here","_law_names_here","_law_words","_law_begin","_law_found"]
theorem gQ:aP N41 ["_law_pot_here","_law_names_here"] (aC (top 41)):=⟨rfl,rfl,rfl,by decide +kernel,rfl,by decide +kernel,by decide +kernel⟩
theorem rJ {f:Addr}{fd:FuncData} (F:Fun K "_law_named" "_law_named" (top 41) f fd) (B:Bl mg) (Ft:Fn P w K mg base 1 "_law_take" ["_law_pot_here","_law_many"] dz):aG P w K mg base CX0 2 f fd ["_law_pot_here","_law_names_here"] lE:=by
 refine F.ok gQ (fun vs H Q E h=>?_) (fun cdv A outer s H vs Q E hr h=>?_)
 ·obtain⟨p,na,ns,rfl,_⟩:=h
  rfl
 ·obtain⟨p,na,ns,rfl,hp,hna,hn40,hnd,hnm,k⟩:=h
  refine' ⟨_,ao ?s1 ?r1,?main⟩
  case s1 =>
   refine' aL (i:=2) ?nd ?x ?y ?z ?hs ?hf
   case nd=>exact gQ.nd
   case x=>exact rfl
   case y=>exact Or.inr rfl
   case hf=>first | exact .inl rfl | exact .inr rfl
   case' z=>refine' bD ?l0
   case l0=>exact cA (cA (cA (cA (cA (cA (cA (cA (cA (cA (cA (cA ae)))))))))))
   case hs=>kernel_rfl
  case r1=>exact (ao (bh (aZ fc (aw Ft hr (aa (pv 0) (aa ai ae))) ai (ba _)) (ax (aI (pv 1))) bf)
   (ao (aL (i:=3) gQ.nd rfl (Or.inr rfl) (aw Ft hr (aa (pv 0) (aa ai ae))))
   (ao (aL (i:=4) gQ.nd rfl (Or.inr rfl) (bp (N:=["_law_k","_law_words","_law_begin"]) (ix:=[none,some 2,some 3]) ⟨rfl,rfl,rfl,by decide⟩ rfl
    (cW rfl B.range (aa (aA (iD rfl) rfl B.min jm (aa (aA bA rfl B.len PySem.boot_len (aa (pv 1) ae)) (aa (aB bU ai (aw Ft hr (aa (pv 0) (aa ai ae)))) ae))) ae)) (fun _ _ _ _=>aQ 0 (by decide) rfl rfl) (fun _ _ _ _=>bc)
    (fun _ _ _ _=>aD (b7 K) (pv 1) (aB da (aB bU (pv 2) (pv 0)) ai) (fun _ _=>rfl))))
   (ax (aI (eN gw (aB ez (pv 4) (bp (N:=["_law_name","_law_found"]) (ix:=[none,some 4]) ⟨rfl,rfl,rfl,by decide⟩ rfl (bg (pv 1)) (fun _ _ _ _=>aQ 0 (by decide) rfl rfl) (fun _ _ _ _=>cu (aZ (fC K) (pv 0) (pv 1) (by with_unfolding_all rfl))) (fun _ _ _ _=>pv 0))) eR (eQ (aA bA rfl B.len PySem.boot_len (aa (pv 1) ae)))))))))
  case main =>
   refine⟨by show 12<=sizeLine;decide,fun wd hwd=>?_⟩
   have nwp:=hp.ne_new hwd
   have P1:=hp.new (o:=.lst (bO.map V.str)) hwd
   have K1:=(Kp.refl [p] H).new (o:=.lst (bO.map V.str)) hwd
   have w1:upd H wd (.lst (bO.map V.str)) wd=some (.lst (bO.map V.str)):=ag
   have nnp:=fQ hp hna
   have n1:upd H wd (.lst (bO.map V.str)) na=some (.lst (ns.map V.str)):=by rw [aj (aV hna hwd)];exact hna
   change jG _ _ _ _ (upd H wd (.lst (bO.map V.str)))
   generalize upd H wd (.lst (bO.map V.str))=H1 at P1 K1 w1 n1 ⊢
   refine⟨_,rfl,p,4,rfl,P1,by decide,by decide,fun r H2 r0 r1 P2 K2=>⟨_,_,rfl,rfl,_,rfl,?_⟩⟩
   have K12:=K1.trans K2
   have n2:=K2.at nnp n1
   have w2:=K2.at nwp w1
   refine be (fun c=>⟨_,rfl,k na ns H2 P2 n2 hnm hnd rfl K12⟩) (fun c=>?_)
   refine⟨_,rfl,p,12,rfl,P2,by decide,by decide,fun b H3 b0 b1 P3 K3=>?_⟩
   have K13:=K12.trans K3
   have n3:=K3.at nnp n2
   have w3:=K3.at nwp w2
   refine⟨_,rfl,na,_,rfl,.inl (SqL.of n3),_,rfl,p,6,rfl,P3,by decide,by decide,fun r6 H4 q0 q1 P4 K4=>⟨_,_,rfl,rfl,_,_,rfl,_,rfl,?_,?_,?_⟩⟩
   ·split <;> omega
   ·rw [List.length_map];split <;> omega
   have K14:=K13.trans K4
   have n4:=K4.at nnp n3
   have w4:=K4.at nwp w3
   obtain⟨bn,rfl⟩:=Int.eq_ofNat_of_zero_le b0
   have hcn:∃c:Nat,(if (1 + r6:Int) < ((ns.map V.str).length:Int) then 1 + r6 else ((ns.map V.str).length:Int)).toNat=c/\c<=ns.length/\c<=12:=⟨_,rfl,by rw [List.length_map];split <;> omega,by rw [List.length_map];split <;> omega⟩
   obtain⟨cn,ecn,hc1,hc2⟩:=hcn
   rw [ecn]
   refine fB (fits (by omega)) (fun i ys σ H5=>ys=(rot bn i).map V.str/\H5=H4/\∃x,σ=[x,some (.ref wd),some (.int bn)]) ⟨rfl,rfl,_,rfl⟩ (fun i ys σ H5 _ z=>by rw [z.1,List.length_map,i6];exact Nat.le_refl _) ?_ ?_
   ·rintro i ys σ H5 hi ⟨rfl,rfl,x,rfl⟩
    refine⟨_,rfl,_,rfl,_,rfl,_,_,rfl,rfl,_,_,rfl,rfl,by show (0:Int) < 12;decide,?_⟩
    refine aH (j:=(bn + i) % 12) (.inl (SqL.of w4)) (by push_cast;rw [Int.zero_add]) (by rw [List.getElem?_map,lN];rfl) ⟨?_,rfl,_,rfl⟩
    rw [iI];simp
   rintro ys σ H5 ⟨rfl,rfl,x,rfl⟩ fo hfo
   have nfp:=P4.ne_new hfo
   have P6:=P4.new (o:=.lst ((rot bn cn).map V.str)) hfo
   have K6:=K14.new (o:=.lst ((rot bn cn).map V.str)) hfo
   have f6:upd H5 fo (.lst ((rot bn cn).map V.str)) fo=some (.lst ((rot bn cn).map V.str)):=ag
   have n6:upd H5 fo (.lst ((rot bn cn).map V.str)) na=some (.lst (ns.map V.str)):=by rw [aj (aV n4 hfo)];exact n4
   generalize upd H5 fo (.lst ((rot bn cn).map V.str))=H6 at P6 K6 f6 n6 ⊢
   refine⟨_,rfl,_,rfl,na,rfl,⟨_,SqL.of n6⟩,fG (xs:=ns.map V.str) (fits (by rw [List.length_map];omega)) (fun i ys σ H7=>ys=((ns.take i).filter fun x=>!decide (x∈rot bn cn)).map V.str/\H7=H6/\∃x,σ=[x,some (.ref fo)]) ⟨rfl,rfl,_,rfl⟩
    (fun i ys σ H7 _ z=>⟨by rw [z.1,List.length_map];exact Nat.le_trans (List.length_filter_le _ _) (by rw [List.length_take];omega),by rw [z.2.1];exact SqL.of n6⟩) ?_ ?_⟩
   ·rintro i y ys σ H7 hy ⟨rfl,rfl,x,rfl⟩
    rw [List.getElem?_map] at hy
    cases hc:ns[i]? with
    | none=>rw [hc] at hy;cases hy
    | some z =>
     rw [hc] at hy
     cases hy
     have tf:=ck (fun x:Str=>!decide (x∈rot bn cn)) ns i z hc
     refine⟨_,rfl,_,rfl,fo,_,rfl,.inl (SqL.of f6),rfl,b9 _,_,rfl,?_⟩
     rw [cf]
     show if (!decide (z∈rot bn cn))=true then _ else _
     refine be (fun c=>⟨_,rfl,?_,rfl,_,rfl⟩) (fun c=>⟨?_,rfl,_,rfl⟩)
     ·rw [tf,c];simp
     ·rw [tf];simp only [Bool.not_eq_true] at c;rw [c];simp
   rintro ys σ H7 ⟨rfl,rfl,x,rfl⟩ l8 hl8
   rw [take_all ns (by simp)]
   have P8:=P6.new (o:=.lst ((ns.filter fun x=>!decide (x∈rot bn cn)).map V.str)) hl8
   have K8:=K6.new (o:=.lst ((ns.filter fun x=>!decide (x∈rot bn cn)).map V.str)) hl8
   have l9:upd H7 l8 (.lst ((ns.filter fun x=>!decide (x∈rot bn cn)).map V.str)) l8=some (.lst ((ns.filter fun x=>!decide (x∈rot bn cn)).map V.str)):=ag
   have f9:upd H7 l8 (.lst ((ns.filter fun x=>!decide (x∈rot bn cn)).map V.str)) fo=some (.lst ((rot bn cn).map V.str)):=by rw [aj (aV f6 hl8)];exact f6
   have n9:upd H7 l8 (.lst ((ns.filter fun x=>!decide (x∈rot bn cn)).map V.str)) na=some (.lst (ns.map V.str)):=by rw [aj (aV n6 hl8)];exact n6
   generalize upd H7 l8 (.lst ((ns.filter fun x=>!decide (x∈rot bn cn)).map V.str))=H9 at P8 K8 l9 f9 n9 ⊢
   have hfl:=List.length_filter_le (fun x=>!decide (x∈rot bn cn)) ns
   have hrl:=i6 bn cn
   refine⟨fo,l8,_,_,rfl,rfl,f9,l9,by rw [List.length_map,List.length_map,sizeLine_eq];omega,fun ct hct=>?_⟩
   have P10:=P8.new (o:=.lst ((rot bn cn).map V.str++(ns.filter fun x=>!decide (x∈rot bn cn)).map V.str)) hct
   have K10:=K8.new (o:=.lst ((rot bn cn).map V.str++(ns.filter fun x=>!decide (x∈rot bn cn)).map V.str)) hct
   have c10:upd H9 ct (.lst ((rot bn cn).map V.str++(ns.filter fun x=>!decide (x∈rot bn cn)).map V.str)) ct=some (.lst ((rot bn cn).map V.str++(ns.filter fun x=>!decide (x∈rot bn cn)).map V.str)):=ag
   have n10:upd H9 ct (.lst ((rot bn cn).map V.str++(ns.filter fun x=>!decide (x∈rot bn cn)).map V.str)) na=some (.lst (ns.map V.str)):=by rw [aj (aV n9 hct)];exact n9
   generalize upd H9 ct (.lst ((rot bn cn).map V.str++(ns.filter fun x=>!decide (x∈rot bn cn)).map V.str))=H10 at P10 K10 c10 n10 ⊢
   refine⟨_,rfl,na,_,rfl,.inl (SqL.of n10),_,rfl,ct,_,rfl,SqL.of c10,fun q hq=>?_⟩
   have hlen:(di (rot bn cn) ns).length=ns.length:=qY (by rw [hrl];exact hc1) hnd
   have hle:(ns.map V.str).length<=((rot bn cn).map V.str++(ns.filter fun x=>!decide (x∈rot bn cn)).map V.str).length:=by
    unfold di at hlen
    rw [List.length_take] at hlen
    rw [List.length_map,<- List.map_append,List.length_map]
    omega
   have ec:bR ((rot bn cn).map V.str++(ns.filter fun x=>!decide (x∈rot bn cn)).map V.str) none (some ((ns.map V.str).length:Int))=(di (rot bn cn) ns).map V.str:=by
    rw [uC _ hle,<- List.map_append,<- List.map_take,List.length_map]
    rfl
   rw [ec]
   exact k q (di (rot bn cn) ns) _ (P10.new hq) ag (p3 (rU bn cn) hnm) (pJ (ki bn hc2) hnd) hlen (K10.new hq)
end
theorem rh {prs:List Pr}{i:Nat}{x:V} (h:(bj prs)[i]?=some x):∃r,prs[i]?=some r/\x=.ref r.1:=by
 unfold bj at h
 rw [List.getElem?_map] at h
 cases e:prs[i]? with
 | none=>rw [e] at h;cases h
 | some r=>rw [e] at h;exact⟨r,rfl,(Option.some.inj h).symm⟩
theorem rA {H:Hp}{p t:Addr}{prs:List Pr} (h1:Pot H p) (h2:H t=some (.lst (bj prs))):t≠p:=by
 rintro rfl
 obtain⟨a,b,e,_⟩:=h1
 rw [e] at h2
 have h3:=HO.lst.inj (Option.some.inj h2)
 cases prs with
 | nil=>cases h3
 | cons x r=>cases (List.cons.inj h3).1
noncomputable def fU (S:Str->Bool) (r:Row):Bool:=S r.2.2 && !S r.2.1
noncomputable def Fed (ps:List Str) (rs:List Row):Prop:=∃(t:Nat) (a:Str),t<=6/\t * (ps.length - 1)<=30/\rs.length<=t * (ps.length - 1) + 10/\∀S:Str->Bool,S a=false->(∃x∈ps,S x=true)->t<=(rs.filter (fU S)).length
noncomputable def dO (ns:List Str) (z:Int):Str:=(ns[z.toNat]?).getD ⟨#[]⟩
noncomputable def nsP (ns:List Str) (pr:Pr):Str×Str:=(dO ns pr.2.1,dO ns pr.2.2)
theorem i3 {ns:List Str}{z:Int} (h:z.toNat < ns.length):dO ns z=ns[z.toNat]:=by
 unfold dO
 rw [List.getElem?_eq_getElem h];rfl
theorem my (S:Str->Bool) (ns:List Str):∀(rr:List (Addr×Row)) (prs:List Pr),rr.map (fun r=>r.2.2)=prs.map (nsP ns)->((rr.map (·.2)).filter (fU S)).length=(prs.filter (fj fun z=>S (dO ns z))).length
 | [],[],_=>rfl
 | [],_::_,h=>by cases h
 | _::_,[],h=>by cases h
 | r::rr,p::prs,h=>by
  rw [List.map_cons,List.map_cons] at h
  obtain⟨h1,h2⟩:=List.cons.inj h
  have ih:=my S ns rr prs h2
  have e:fU S r.2=fj (fun z=>S (dO ns z)) p:=by
   unfold fU fj
   rw [show r.2.2=nsP ns p from h1]
   rfl
  rw [List.map_cons,List.filter_cons,List.filter_cons,e]
  split
  ·rw [List.length_cons,List.length_cons,ih]
  ·exact ih
section
variable {P:Program}{w:World}{K:PySem.W.Frag}{mg:Str->Option Value}{base:Heap}
noncomputable def mE:Sp:=fun vs H Q _=>∃(p:Addr),vs=[.ref p]/\Pot H p /\
 ∀(v u pl pa ra:Addr) (ns ps:List Str) (rs:List (Addr×Row)) (H':Hp),Pot H' p->H' v=some (.tup [.ref u,.ref pl])->bv H' u pa ra ps rs->Good ps (rs.map (·.2))->ps.length<=8->rs.length<=40->Fed ps (rs.map (·.2))->H' pl=some (.lst (ns.map V.str))->(∀x∈ns,x∈ps)->1<=ns.length->ns.length<=8->Kp [p] H H'->Q (.ref v) H'
noncomputable abbrev N43:List Str:=["_law_pot_here","_law_many","_law_places","_law_pairs_here","_law_ties","_law_rows"]
theorem fk:aP N43 ["_law_pot_here"] (aC (top 43)):=⟨rfl,rfl,rfl,by decide +kernel,rfl,by decide +kernel,by decide +kernel⟩
theorem uS {f:Addr}{fd:FuncData} (F:Fun K "_law_web" "_law_web" (top 43) f fd) (B:Bl mg) (Ft:Fn P w K mg base 1 "_law_take" ["_law_pot_here","_law_many"] dz) (Fn':Fn P w K mg base 2 "_law_names" ["_law_pot_here","_law_many"] lK)
  (Fd:Fn P w K mg base 2 "_law_named" ["_law_pot_here","_law_names_here"] lE) (Fp:Fn P w K mg base 2 "_law_pairs" ["_law_pot_here","_law_many"] lZ) (Fc:Fn P w K mg base 2 "_law_called" ["_law_pot_here","_law_ties","_law_places"] lp):aG P w K mg base CX0 3 f fd ["_law_pot_here"] mE:=by
 refine F.ok fk (fun vs H Q E h=>?_) (fun cdv A outer s H vs Q E hr h=>?_)
 ·obtain⟨p,rfl,_⟩:=h
  rfl
 ·obtain⟨p,rfl,hp,k⟩:=h
  have hr1:aN 1 _:=hr.mono (by decide)
  refine⟨_,ao (aL (i:=1) fk.nd rfl (Or.inl rfl) (aD aW (bD (aa (aB bU ai (aw Ft hr1 (aa (pv 0) (aa ai ae)))) (aa (aB bU ai (aw Ft hr1 (aa (pv 0) (aa ai ae)))) ae)))
    (cb ko rfl B.int jn (aa (b4 dE (aw Ft hr1 (aa (pv 0) (aa ai ae))) ai (ba _)) ae)) (fun _ _=>rfl)))
   (ao (aL (i:=2) fk.nd rfl (Or.inr rfl) (aw Fd hr (aa (pv 0) (aa (aw Fn' hr (aa (pv 0) (aa (pv 1) ae))) ae))))
   (ao (aL (i:=3) fk.nd rfl (Or.inl rfl) (aw Fp hr (aa (pv 0) (aa (pv 1) ae))))
   (ao (aL (i:=4) fk.nd rfl (Or.inl rfl) (aw Fc hr (aa (pv 0) (aa (aw Fd hr (aa (pv 0) (aa (aw Fn' hr (aa (pv 0) (aa (aA bA rfl B.len PySem.boot_len (aa (pv 3) ae)) ae))) ae))) (aa (pv 2) ae)))))
   (ao (cX (i:=5) (N:=["_law_tie","_law_pair","_law_places"]) (ix:=[none,none,some 2]) fk.nd rfl (Or.inl rfl) ⟨rfl,rfl,rfl,by decide⟩ rfl (mP rfl B.zip (aa (pv 4) (aa (pv 3) ae)))
    (fun _ _ _ _=>i5 K rfl (n:=2) (bB (aQ 0 (by decide) rfl rfl) (bB (aQ 1 (by decide) rfl rfl) cI))) (fun _ _ _ _=>bc)
    (fun _ _ _ _=>bV (aa (pv 0) (aa (aD (b7 K) (pv 2) (aD (b7 K) (pv 1) ai (fun _ _=>rfl)) (fun _ _=>rfl)) (aa (aD (b7 K) (pv 2) (aD (b7 K) (pv 1) ai (fun _ _=>rfl)) (fun _ _=>rfl)) ae)))))
   (ax (aI (bV (aa (bV (aa (cb eG rfl B.tuple cz (aa (aA jR rfl B.sorted fK (aa (pv 2) ae)) ae)) (aa (cb eG rfl B.tuple cz (aa (aA jP rfl B.sorted fK (aa (pv 5) ae)) ae)) ae))) (aa (pv 2) ae))))))))),?_⟩
  refine⟨_,rfl,p,6,rfl,hp,by decide,by decide,fun r1 H1 a0 a1 P1 K1=>⟨_,_,rfl,rfl,_,rfl,p,2,rfl,P1,by decide,by decide,fun r2 H2 b0 b1 P2 K2'=>⟨_,_,rfl,rfl,by show 2<=sizeLine;decide,fun l2 hl2=>?_⟩⟩⟩
  have nl2:=P2.ne_new hl2
  have P3:=P2.new (o:=.lst [.int (1 + r1),.int (7 + r2)]) hl2
  have K3:=(K1.trans K2').new (o:=.lst [.int (1 + r1),.int (7 + r2)]) hl2
  have L3:upd H2 l2 (.lst [.int (1 + r1),.int (7 + r2)]) l2=some (.lst [.int (1 + r1),.int (7 + r2)]):=ag
  generalize upd H2 l2 (.lst [.int (1 + r1),.int (7 + r2)])=H3 at P3 K3 L3 ⊢
  refine⟨_,rfl,p,8,rfl,P3,by decide,by decide,fun r3 H4 c0 c1 P4 K4'=>⟨rfl,.inr ⟨_,rfl,?_⟩⟩⟩
  have L4:=K4'.at nl2 L3
  have K4:=K3.trans K4'
  have hn:∀b:Bool,∃m:Nat,([V.int (1 + r1),V.int (7 + r2)]:List V)[((if b=true then 1 else 0:Int)).toNat]?=some (.int m)/\1<=m/\m<=8:=fun b=>by
   cases b
   ·exact⟨(1 + r1).toNat,by show some (V.int (1 + r1))=_;rw [Int.toNat_of_nonneg (by omega)],by omega,by omega⟩
   ·exact⟨(7 + r2).toNat,by show some (V.int (7 + r2))=_;rw [Int.toNat_of_nonneg (by omega)],by omega,by omega⟩
  obtain⟨m,hm,m1,m8⟩:=hn (decide (V.int r3=V.int 0))
  refine aH (j:=((if decide (V.int r3=V.int 0)=true then 1 else 0:Int)).toNat) (.inl (SqL.of L4)) (by split <;> rfl) hm ?_
  refine⟨_,rfl,_,rfl,_,rfl,p,m,rfl,P4,by omega,fun pl0 ns0 H5a P5a n5a _ nnm0 nnd0 nlen0 K5a=>⟨p,pl0,ns0,rfl,P5a,n5a,by omega,nnd0,nnm0,fun pl ns H5 P5 n5 nnm nnd nlen' K5b=>?_⟩⟩
  have nlen:ns.length=m:=by omega
  have K5':=K5a.trans K5b
  have K5:=K4.trans K5'
  have npl:=fQ P5 n5
  refine⟨_,rfl,_,rfl,p,m,rfl,P5,m1,m8,fun pq prs H6 P6 q6 _ A6 O6 z6 TP6 K6'=>?_⟩
  have K6:=K5.trans K6'
  have n6:=K6'.at npl n5
  have npq:=rA P6 q6
  have hpz:(bj prs).length=prs.length:=by simp
  refine⟨_,rfl,_,rfl,_,rfl,_,rfl,pq,_,rfl,.inl (SqL.of q6),p,(bj prs).length,rfl,P6,by omega,fun ta0 ts0 H7a P7a t7a _ tnm0 tnd0 tlen0 K7a=>⟨p,ta0,ts0,rfl,P7a,t7a,by omega,tnd0,tnm0,fun ta ts H7 P7 t7 tnm tnd tlen' K7b=>?_⟩⟩
  have tlen:ts.length=(bj prs).length:=by omega
  have K7':=K7a.trans K7b
  have K7:=K6.trans K7'
  have n7:=K7'.at npl n6
  have q7:=K7'.at npq q6
  have A7:=A6.kp K7' P6
  refine⟨_,rfl,p,ta,pl,ts,ns,rfl,P7,t7,n7,by omega,by omega,tnd,nnd,tnm,nnm,fun tc tn H8 P8 c8 cnm cnd clen K8'=>?_⟩
  have K8:=K7.trans K8'
  have n8:=K8'.at npl n7
  have q8:=K8'.at npq q7
  have A8:=A7.kp K8' P7
  have hcl:tn.length=prs.length:=by omega
  refine⟨_,rfl,_,rfl,tc,pq,_,_,rfl,SqL.of c8,SqL.of q8,?_⟩
  refine kU (xs:=tn.map V.str) (ys:=bj prs) (fits (by simp;omega)) (fun i zs σ H2=>(∃rr:List (Addr×Row),zs=ar rr/\(∀r∈rr,cB H2 r.1 r.2)/\nms rr=tn.take i/\(∀r∈rr,r.2.2.1∈ns/\r.2.2.2∈ns/\r.2.2.1≠r.2.2.2)/\rr.map (fun r=>r.2.2)=(prs.take i).map (nsP ns))/\af H8 H2/\∃g1 g2,σ=[g1,g2,some (.ref pl)])
   ⟨⟨[],rfl,by simp,rfl,by simp,by simp⟩,af.refl _,_,_,rfl⟩ (fun i zs σ H2 hi q=>?_) ?_ ?_
  ·obtain⟨⟨rr,rfl,_,e,_,_⟩,s2,_⟩:=q
   have:=congrArg List.length e
   rw [nms,List.length_map,List.length_take] at this
   exact⟨by simp [this];omega,SqL.of (s2 _ _ c8),SqL.of (s2 _ _ q8)⟩
  ·rintro i x y zs σ H2 T hx hy ⟨⟨rr,rfl,Ra,e,Ro,Rp⟩,s2,g1,g2,rfl⟩ hT
   rw [List.getElem?_map] at hx
   obtain⟨pr,hpr,rfl⟩:=rh hy
   cases hc:tn[i]? with
   | none=>rw [hc] at hx;cases hx
   | some t =>
    rw [hc] at hx
    cases hx
    have hpm:=List.mem_of_getElem? hpr
    obtain⟨o1,o2,o3,o4,o5⟩:=O6 pr hpm
    have s3:=am (o:=.tup [.str t,.ref pr.1]) s2 hT
    have pr3:=s3 _ _ (A8 pr hpm)
    have n3:=s3 _ _ n8
    have ia:pr.2.1.toNat < ns.length:=by omega
    have ib:pr.2.2.toNat < ns.length:=by omega
    refine⟨T,_,rfl,SqT.of ag,rfl,_,_,rfl,_,_,rfl,rfl,?_⟩
    refine⟨_,rfl,_,rfl,_,rfl,aH (j:=0) (.inr (SqT.of pr3)) rfl rfl (aH (j:=pr.2.1.toNat) (.inl (SqL.of n3)) (by omega) (strAt ia) ?_)⟩
    refine⟨_,rfl,_,rfl,aH (j:=1) (.inr (SqT.of pr3)) rfl rfl (aH (j:=pr.2.2.toNat) (.inl (SqL.of n3)) (by omega) (strAt ib) ?_)⟩
    refine⟨by show 3<=sizeLine;decide,fun n hn=>?_⟩
    have hab:ns[pr.2.1.toNat]≠ns[pr.2.2.toNat]:=by
     have hne:pr.2.1.toNat≠pr.2.2.toNat:=by omega
     rcases Nat.lt_or_gt_of_ne hne with y | y
     ·exact List.pairwise_iff_getElem.mp nnd _ _ ia ib y
     ·exact fun z=>List.pairwise_iff_getElem.mp nnd _ _ ib ia y z.symm
    have s4:=am (o:=.tup [.str t,.str ns[pr.2.1.toNat],.str ns[pr.2.2.toNat]]) s3 hn
    have s24:=am (o:=.tup [.str t,.str ns[pr.2.1.toNat],.str ns[pr.2.2.toNat]]) (am (o:=.tup [.str t,.ref pr.1]) (af.refl H2) hT) hn
    refine⟨⟨rr++[(n,(t,ns[pr.2.1.toNat],ns[pr.2.2.toNat]))],by simp [ar],fun r hr=>?_,?_,fun r hr=>?_,by rw [List.map_append,Rp,List.take_add_one,hpr,List.map_append];show _++[(ns[pr.2.1.toNat],ns[pr.2.2.toNat])]=_++[nsP ns pr];unfold nsP;rw [i3 ia,i3 ib]⟩,s4,_,_,rfl⟩
    ·rcases List.mem_append.mp hr with z | z
     ·exact s24 _ _ (Ra r z)
     ·have e':r=(n,(t,ns[pr.2.1.toNat],ns[pr.2.2.toNat])):=by simpa using z
      subst e';exact ag
    ·rw [nms,List.map_append]
     show nms rr++[t]=_
     rw [e,List.take_add_one,hc]
     rfl
    ·rcases List.mem_append.mp hr with z | z
     ·exact Ro r z
     ·have e':r=(n,(t,ns[pr.2.1.toNat],ns[pr.2.2.toNat])):=by simpa using z
      subst e';exact⟨List.getElem_mem ia,List.getElem_mem ib,hab⟩
  rintro zs σ H9 ⟨⟨rr,rfl,Ra,e,Ro,Rp⟩,s9,g1,g2,rfl⟩ rw hrw
  have en:nms rr=tn:=by rw [e,take_all tn (by simp;omega)]
  have hrl:rr.length=tn.length:=by rw [<- en];simp
  rw [take_all prs (by simp;omega)] at Rp
  have s10:=am (o:=.lst (ar rr)) s9 hrw
  have Ra10:∀r∈rr,cB (upd H9 rw (.lst (ar rr))) r.1 r.2:=fun r hr=>am (af.refl H9) hrw _ _ (Ra r hr)
  have w10:upd H9 rw (.lst (ar rr)) rw=some (.lst (ar rr)):=ag
  generalize upd H9 rw (.lst (ar rr))=H10 at s10 Ra10 w10 ⊢
  have n10:=s10 _ _ n8
  refine⟨_,rfl,pl,ns,rfl,SqL.of n10,by omega,fun ps q hpm hso hq=>?_⟩
  have pnd:ps.Nodup:=hpm.nodup_iff.mpr nnd
  have hpl:ps.length=ns.length:=hpm.length_eq
  have t1:=am (o:=.lst (ps.map V.str)) (af.refl H10) hq
  refine⟨q,_,rfl,.inl ⟨SqL.of ag,fun pa hpa=>?_⟩⟩
  have t2:=am (o:=.tup (ps.map V.str)) t1 hpa
  have a11:upd (upd H10 q (.lst (ps.map V.str))) pa (.tup (ps.map V.str)) pa=some (.tup (ps.map V.str)):=ag
  generalize upd (upd H10 q (.lst (ps.map V.str))) pa (.tup (ps.map V.str))=H11 at t2 a11 ⊢
  refine⟨_,rfl,rw,rr.map fun r=>(r.1,r.2.1),rfl,.inl (SqL.of (by rw [gg];exact t2 _ _ w10)),fun y hy=>?_,by rw [List.length_map];omega,?_,fun rs1 q2 hpm2 hpw hq2=>?_⟩
  ·obtain⟨x,hx,rfl⟩:=List.mem_map.mp hy
   exact⟨_,t2 _ _ (Ra10 x hx)⟩
  ·rw [List.map_map]
   show (nms rr).Nodup
   rw [en];exact cnd
  obtain⟨rs',hp2,e2'⟩:=iz (fun r:Addr×Row=>(r.1,r.2.1)) rs1 _ hpm2
  subst e2'
  rw [gg]
  have u1:=am (o:=.lst (ar rs')) (af.refl H11) hq2
  refine⟨q2,_,rfl,.inl ⟨SqL.of ag,fun ra hra=>?_⟩⟩
  have u2:=am (o:=.tup (ar rs')) u1 hra
  refine⟨by show 2<=sizeLine;decide,fun u hu=>?_⟩
  have u3:=am (o:=.tup [.ref pa,.ref ra]) u2 hu
  refine⟨_,rfl,by show 2<=sizeLine;decide,fun v hv=>?_⟩
  have u4:=am (o:=.tup [.ref u,.ref pl]) u3 hv
  have hur:ra≠u:=fun z=>by rw [<- z,ag] at hu;cases hu
  have hvu:u≠v:=fun z=>by rw [<- z,ag] at hv;cases hv
  have hvr:ra≠v:=fun z=>by rw [<- z,aj hur,ag] at hv;cases hv
  have s8v:=s10.trans (t2.trans u4)
  have hin:∀x∈ns,x∈ps:=fun x hx=>hpm.mem_iff.mpr hx
  refine k v u pl pa ra ns ps rs' _ (P8.keep fun o e=>s8v _ _ e) ag ⟨?_,u4 _ _ a11,?_,fun x hx=>u4 _ _ (t2 _ _ (Ra10 x (hp2.mem_iff.mp hx)))⟩ ⟨?_,fun x hx=>nnm x (hpm.mem_iff.mp hx),qv hso pnd,fun r hr=>?_,?_,by omega,?_⟩ (by omega) (by rw [hp2.length_eq];omega) ?fed (s8v _ _ n8) hin (by omega) (by omega) (K8.of_same s8v)
  case fed =>
   obtain⟨t,t6,t30,tl,tE⟩:=TP6
   have em:ps.length=m:=by omega
   refine⟨t,dO ns 0,t6,by rw [em];exact t30,by rw [em,List.length_map,hp2.length_eq];omega,fun S h0 hx=>?_⟩
   rw [((hp2.map (fun r:Addr×Row=>r.2)).filter (fU S)).length_eq,my S ns rr prs Rp]
   refine tE _ h0 ?_
   obtain⟨x,hx1,hx2⟩:=hx
   obtain⟨j,hj,rfl⟩:=List.mem_iff_getElem.mp (hpm.mem_iff.mp hx1)
   refine⟨j,by omega,?_⟩
   show S (dO ns (j:Int))=true
   rw [i3 (by simpa using hj)]
   exact hx2
  ·rw [aj hvu,ag]
  ·rw [aj hvr,aj hur,ag]
  ·intro z;rw [z] at hpl;simp at hpl;omega
  ·obtain⟨x,hx,rfl⟩:=List.mem_map.mp hr
   have hxr:=hp2.mem_iff.mp hx
   obtain⟨y1,y2,y3⟩:=Ro x hxr
   exact⟨cnm _ (by rw [<- en];exact List.mem_map_of_mem (f:=fun z:Addr×Row=>z.2.1) hxr),hin _ y1,hin _ y2,y3⟩
  ·rw [List.map_map] at hpw ⊢;exact hpw
  ·rw [List.length_map,hp2.length_eq];omega
end
end K44
namespace K44
open PySem L2 PySem.Spec PyProof.Rows
section
variable {P:Program}{w:World}{K:PySem.W.Frag}{mg:Str->Option Value}{base:Heap}
noncomputable def lU:Sp:=fun vs H Q _=>∃(pa:Addr) (ps:List Str),vs=[.ref pa]/\H pa=some (.lst (ps.map V.str))/\ps.length<=8 /\
 ∀(q:Addr) (lts:List (Addr×List Str)) (H':Hp),af H H'->H' q=some (.lst (ak lts))->aO H' lts->lts.map (·.2)=ay ps->Q (.ref q) H'
theorem g9:aP ["_law_places","_law_found","_law_place"] ["_law_places"] (aC (top 44)):=⟨rfl,rfl,rfl,by decide +kernel,rfl,by decide +kernel,by decide +kernel⟩
theorem rX {f:Addr}{fd:FuncData} (F:Fun K "_law_lots" "_law_lots" (top 44) f fd) (B:Bl mg):aG P w K mg base CX0 1 f fd ["_law_places"] lU:=by
 refine F.ok g9 (fun vs H Q E h=>?_) (fun cdv A outer s H vs Q E hr h=>?_)
 ·obtain⟨pa,ps,rfl,_⟩:=h
  rfl
 ·obtain⟨pa,ps,rfl,hp,p8,k⟩:=h
  refine⟨_,ao (aL (i:=1) g9.nd rfl (Or.inl rfl) (bD (aa (bV ae) ae)))
   (ao (bP PassesOwn.never rfl (bg (pv 0)) (aX (i:=2) g9.nd rfl (Or.inr rfl))
    (ax (aL (i:=1) g9.nd rfl (Or.inl rfl) (aB ez (pv 1) (bp (N:=["_law_lot","_law_place"]) (ix:=[none,some 2]) ⟨rfl,rfl,rfl,by decide⟩ rfl (bg (pv 1)) (fun _ _ _ _=>aQ 0 (by decide) rfl rfl) (fun _ _ _ _=>bc)
     (fun _ _ _ _=>aB (ll K) (pv 0) (bV (aa (pv 1) ae))))))))
   (ax (aI (eN gw (pv 1) (eQ ai) eR)))),?_⟩
  refine⟨Nat.zero_le _,fun e0 he0=>⟨by show 1<=sizeLine;decide,fun f0 hf0=>?_⟩⟩
  have s0:=am (o:=.lst [.ref e0]) (am (o:=.tup []) (af.refl H) he0) hf0
  have E0:upd (upd H e0 (.tup [])) f0 (.lst [.ref e0]) e0=some (.tup ((([]:List Str)).map V.str)):=by
   rw [aj (fun z=>by rw [<- z,ag] at hf0;cases hf0),ag];rfl
  have F0:upd (upd H e0 (.tup [])) f0 (.lst [.ref e0]) f0=some (.lst (ak [(e0,[])])):=ag
  generalize upd (upd H e0 (.tup [])) f0 (.lst [.ref e0])=H0 at s0 E0 F0 ⊢
  refine⟨_,rfl,pa,rfl,⟨_,SqL.of (s0 _ _ hp)⟩,dr (K:=K) (a:=pa) (xs:=ps.map V.str) (fun i σ H1=>af H H1/\∃(fo:Addr) (lts:List (Addr×List Str)) (g:Option V),σ=[some (.ref pa),some (.ref fo),g]/\H1 fo=some (.lst (ak lts))/\aO H1 lts/\lts.map (·.2)=subs (ps.take i))
   ⟨s0,f0,[(e0,[])],none,rfl,F0,aO.one E0,rfl⟩ (fun i σ H1 _ q=>SqL.of (q.1 _ _ hp)) ?_ ?_⟩
  ·rintro i x σ H1 hx ⟨s1,fo,lts,g,rfl,F1,A1,e1⟩
   rw [List.getElem?_map] at hx
   cases hc:ps[i]? with
   | none=>rw [hc] at hx;cases hx
   | some pl =>
    rw [hc] at hx
    cases hx
    have hi:i < ps.length:=(List.getElem?_eq_some_iff.mp hc).1
    have hlen:lts.length<=256:=by
     have q:=congrArg List.length e1
     rw [List.length_map,iQ] at q
     rw [q]
     exact eW (by rw [List.length_take];omega)
    have hz8:∀x∈lts,x.2.length<=8:=fun x hx=>by
     have q:=(gi (ps.take i) x.2 (by rw [<- e1];exact List.mem_map_of_mem hx)).length_le
     rw [List.length_take] at q
     omega
    refine⟨_,rfl,_,rfl,fo,rfl,⟨_,SqL.of F1⟩,eI (xs:=ak lts) (fits (by rw [List.length_map];omega)) (fun j ys σ H2=>(∃qs:List (Addr×List Str),ys=ak qs/\aO H2 qs/\qs.map (·.2)=((lts.take j).map (·.2)).map fun l=>l++[pl])/\af H1 H2/\∃v,σ=[v,some (.str pl)])
     ⟨⟨[],rfl,by simp [aO],rfl⟩,af.refl _,_,rfl⟩ (fun j ys σ H2 _ q=>?_) ?_ ?_⟩
    ·obtain⟨⟨qs,rfl,_,e⟩,s2,_⟩:=q
     have q:=congrArg List.length e
     simp only [List.length_map,List.length_take] at q
     exact⟨by rw [List.length_map];omega,SqL.of (s2 _ _ F1)⟩
    ·rintro j y ys σ H2 hy ⟨⟨qs,rfl,A2,e2⟩,s2,v,rfl⟩
     obtain⟨lt,hlt,rfl⟩:=bZ hy
     have hm:=List.mem_of_getElem? hlt
     refine⟨_,rfl,_,rfl,by show 1<=sizeLine;decide,fun t ht=>?_⟩
     have s3:=am (o:=.tup [.str pl]) s2 ht
     have s3':=am (o:=.tup [.str pl]) (af.refl H2) ht
     have t3:upd H2 t (.tup [.str pl]) t=some (.tup ([pl].map V.str)):=ag
     generalize upd H2 t (.tup [.str pl])=H3 at s3 s3' t3 ⊢
     have hz:=hz8 lt hm
     have est:∀z,qs.map (·.2)++[z]=((lts.take j).map (·.2)).map (fun l=>l++[pl])++[z]:=fun z=>by rw [e2]
     have etk:((lts.take (j + 1)).map (·.2)).map (fun l=>l++[pl])=((lts.take j).map (·.2)).map (fun l=>l++[pl])++[lt.2++[pl]]:=by
      rw [List.take_add_one,hlt,List.map_append,List.map_append];rfl
     refine⟨lt.1,t,lt.2.map V.str,[.str pl],rfl,rfl,SqT.of (s3 _ _ (A1 lt hm)),SqT.of t3,by rw [sizeLine_eq];simp;omega,fun e=>?_,fun e=>(by cases e),fun p hp=>?_⟩
     ·have e':lt.2=[]:=by simpa using e
      exact⟨⟨qs++[(t,lt.2++[pl])],by simp [ak],(A2.same s3').app (aO.one (by rw [e'];exact t3)),by rw [List.map_append,etk];exact est _⟩,s3,_,rfl⟩
     ·have s4':=am (o:=.tup (lt.2.map V.str++[.str pl])) s3' hp
      exact⟨⟨qs++[(p,lt.2++[pl])],by simp [ak],(A2.same s4').app (aO.one (by rw [ag,List.map_append];rfl)),by rw [List.map_append,etk];exact est _⟩,am s3 hp,_,rfl⟩
    ·rintro ys σ H2 ⟨⟨qs,rfl,A2,e2⟩,s2,v,rfl⟩ q hq
     rw [take_all lts (by simp)] at e2
     have hql:qs.length=lts.length:=by
      have q:=congrArg List.length e2
      simpa using q
     have s3':=am (o:=.lst (ak qs)) (af.refl H2) hq
     refine⟨fo,q,_,_,rfl,rfl,s3' _ _ (s2 _ _ F1),ag,by rw [sizeLine_eq,List.length_map,List.length_map];omega,fun q2 hq2'=>?_⟩
     have s4':=am (o:=.lst (ak lts++ak qs)) s3' hq2'
     refine⟨s1.trans (s2.trans s4'),q2,lts++qs,_,rfl,by rw [ag];simp [ak],(A1.same (s2.trans s4')).app (A2.same s4'),?_⟩
     have ets:ps.take (i + 1)=ps.take i++[pl]:=by rw [List.take_add_one,hc];rfl
     rw [List.map_append,e2,e1,ets,dQ]
  ·rintro σ H1 ⟨s1,fo,lts,g,rfl,F1,A1,e1⟩
   rw [take_all ps (by simp),eP] at e1
   cases lts with
   | nil=>cases e1
   | cons h0 rest =>
    obtain⟨eh,er⟩:=List.cons.inj (show h0.2::rest.map (·.2)=[]::ay ps from e1)
    refine⟨_,rfl,_,rfl,fo,_,rfl,SqL.of F1,fun q hq=>?_⟩
    rw [show ak (h0::rest)=V.ref h0.1::ak rest from rfl,j3]
    have s2:=am (o:=.lst (ak rest)) (af.refl H1) hq
    exact k q rest _ (s1.trans s2) ag (fun x hx=>s2 _ _ (A1 x (List.mem_cons_of_mem _ hx))) er
noncomputable abbrev N45:List Str:=["_law_web_here","_law_lot"]
theorem vQ:aP N45 ["_law_web_here","_law_lot"] (aC (top 45)):=⟨rfl,rfl,rfl,by decide +kernel,rfl,by decide +kernel,by decide +kernel⟩
theorem sJ {f:Addr}{fd:FuncData} (F:Fun K "_law_into" "_law_into" (top 45) f fd) (B:Bl mg):aG P w K mg base CX0 1 f fd ["_law_web_here","_law_lot"] iU:=by
 refine F.ok vQ (fun vs H Q E h=>?_) (fun cdv A outer s H vs Q E hr h=>?_)
 ·obtain⟨v,l,pa,ra,ps,ls,rs,rfl,_⟩:=h
  rfl
 ·obtain⟨v,l,pa,ra,ps,ls,rs,rfl,W,hz,hl,k⟩:=h
  refine⟨_,ax (aI (aA bA rfl B.len PySem.boot_len (aa (bp (N:=["_law_row","_law_lot"]) (ix:=[none,some 1]) ⟨rfl,rfl,rfl,by decide⟩ rfl (bW (aD aW (pv 0) ai (fun _ _=>rfl))) (fun _ _ _ _=>aQ 0 (by decide) rfl rfl)
    (fun _ _ _ _=>cu (PW.pt (gG (aZ (gE K) (aD (b7 K) (pv 0) ai (fun _ _=>rfl)) (pv 1) (by with_unfolding_all rfl)) (gD (aZ (fC K) (aD (b7 K) (pv 0) ai (fun _ _=>rfl)) (pv 1) (by with_unfolding_all rfl))))))
    (fun _ _ _ _=>pv 0)) ae))),?_⟩
  refine⟨_,rfl,aH (j:=1) (.inr (SqT.of W.tp)) rfl rfl ⟨ra,rfl,⟨_,SqT.of W.rl⟩,fN (xs:=ar rs) (fits (by simp;omega)) (fun i ys σ H3=>ys=ar ((rs.take i).filter (lead ls))/\H3=H/\∃x,σ=[x,some (.ref l)]) ⟨rfl,rfl,_,rfl⟩
    (fun i ys σ H3 _ q=>⟨by rw [q.1];simp only [ar,List.length_map];exact Nat.le_trans (List.length_filter_le _ _) (by simp;omega),by rw [q.2.1];exact SqT.of W.rl⟩) ?_ ?_⟩⟩
  ·rintro i x ys σ H3 hx ⟨rfl,rfl,z,rfl⟩
   obtain⟨r,hr',rfl⟩:=dm hx
   have hm:=List.mem_of_getElem? hr'
   have hrow:=W.rows r hm
   have tf:=ck (lead ls) rs i r hr'
   have hS:Sq K H3 l (ls.map V.str):=.inr (SqT.of hl)
   refine⟨_,rfl,aH (j:=2) (.inr (SqT.of hrow)) rfl rfl ⟨_,rfl,l,ls.map V.str,rfl,hS,rfl,b9 ls,_,rfl,?_⟩⟩
   show if inV (.str r.2.2.2) (ls.map V.str)=true then _ else _
   rw [cf]
   refine be (fun c=>⟨_,rfl,aH (j:=1) (.inr (SqT.of hrow)) rfl rfl ⟨_,rfl,l,ls.map V.str,rfl,hS,rfl,b9 ls,_,rfl,?_⟩⟩) (fun c=>bb ⟨?_,rfl,_,rfl⟩)
   ·show if (!inV (.str r.2.2.1) (ls.map V.str))=true then _ else _
    rw [cf]
    refine be (fun d=>⟨_,rfl,?_,rfl,_,rfl⟩) (fun d=>⟨?_,rfl,_,rfl⟩)
    ·rw [tf];unfold lead;rw [c,d];simp [ar]
    ·rw [tf];simp only [Bool.not_eq_true] at d;unfold lead;rw [c,d];simp [ar]
   ·rw [tf];simp only [Bool.not_eq_true] at c;unfold lead;rw [c];simp [ar]
  ·rintro ys σ H3 ⟨rfl,rfl,z,rfl⟩ q hq
   rw [take_all rs (by simp)]
   refine⟨q,_,rfl,.inl (SqL.of ag),?_⟩
   have e:((ar (rs.filter (lead ls))).length:Int)=((rs.filter (lead ls)).length:Int):=by simp [ar]
   rw [e]
   exact k _ (am (af.refl _) hq)
end
end K44
namespace K44
open PySem L2
section
variable {P:Program}{w:World}{K:PySem.W.Frag}{mg:Str->Option Value}{base:Heap}
noncomputable def lJ:Sp:=fun vs H Q _=>∃(v pa ra:Addr) (ps:List Str) (rs:List (Addr×Row)) (root:Str),vs=[.ref v,.str root]/\bv H v pa ra ps rs/\ps.length<=8 /\
 ∀(q:Addr) (lts:List (Addr×List Str)) (H':Hp),af H H'->H' q=some (.lst (ak lts))->aO H' lts->lts.map (·.2)=ay (others ps root)->Q (.ref q) H'
theorem vY:aP ["web","root"] ["web","root"] (aC (top 22)):=⟨rfl,rfl,rfl,by decide +kernel,rfl,by decide +kernel,by decide +kernel⟩
theorem oi {f:Addr}{fd:FuncData} (F:Fun K "lots_without" "lots_without" (top 22) f fd) (F1:Fn P w K mg base 1 "lots_among" ["places"] gb):aG P w K mg base CX0 2 f fd ["web","root"] lJ:=by
 refine F.ok vY (fun vs H Q E h=>?_) (fun cdv A outer s H vs Q E hr h=>?_)
 ·obtain⟨v,pa,ra,ps,rs,root,rfl,_⟩:=h
  rfl
 ·obtain⟨v,pa,ra,ps,rs,root,rfl,W,p8,k⟩:=h
  refine⟨_,ax (aI (aw F1 hr (aa (bp (N:=["place","root"]) (ix:=[none,some 1]) ⟨rfl,rfl,rfl,by decide⟩ rfl (bW (aD aW (pv 0) ai (fun _ _=>rfl))) (fun _ _ _ _=>aQ 0 (by decide) rfl rfl) (fun _ _ _ _=>cu (aZ dH (pv 0) (pv 1) (ba _))) (fun _ _ _ _=>pv 0)) ae))),?_⟩
  refine⟨_,rfl,aH (j:=0) (.inr (SqT.of W.tp)) rfl rfl ⟨pa,rfl,⟨_,SqT.of W.pl⟩,fN (xs:=ps.map V.str) (fits (by simp;omega)) (fun i ys σ H2=>ys=((ps.take i).filter fun y=>!decide (y=root)).map V.str/\H2=H/\∃v,σ=[v,some (.str root)]) ⟨rfl,rfl,_,rfl⟩
   (fun i ys σ H2 _ q=>⟨by rw [q.1,List.length_map];exact Nat.le_trans (List.length_filter_le _ _) (by simp;omega),by rw [q.2.1];exact SqT.of W.pl⟩) ?_ ?_⟩⟩
  ·rintro i y ys σ H2 hy ⟨rfl,rfl,v,rfl⟩
   rw [List.getElem?_map] at hy
   cases hc:ps[i]? with
   | none=>rw [hc] at hy;cases hy
   | some z =>
    rw [hc] at hy
    cases hy
    have tf:=ck (fun z:Str=>!decide (z=root)) ps i z hc
    refine⟨_,rfl,_,rfl,rfl,_,rfl,?_⟩
    have e:(!decide (V.str z=V.str root))=!decide (z=root):=by simp
    rw [e]
    refine be (fun c=>⟨_,rfl,?_,rfl,_,rfl⟩) (fun c=>⟨?_,rfl,_,rfl⟩)
    ·rw [tf,c];simp
    ·rw [tf];simp only [Bool.not_eq_true] at c;rw [c];simp
  ·rintro ys σ H2 ⟨rfl,rfl,v,rfl⟩ t ht
   rw [take_all ps (by simp)]
   have s1:=am (o:=.lst ((others ps root).map V.str)) (af.refl H2) ht
   exact⟨t,others ps root,rfl,.inl ag,by have:=fF ps root;omega,fun q lts H' s' q' A' e'=>k q lts H' (s1.trans s') q' A' e'⟩
end
end K44
namespace K44
open PySem L2 PySem.Spec PyProof.Rows
noncomputable def cE (ns:List Int):Int:=ns.getD (argBest (fun i j=>decide (ns.getD i 0 > ns.getD j 0)) (ns.length - 1)) 0
theorem r8 {ns:List Int} (h:ns≠[]):cE ns∈ns:=by
 have hp:0 < ns.length:=by cases ns with | nil=>exact absurd rfl h | cons _ _=>simp
 have hb:=mz (fun i j=>decide (ns.getD i 0 > ns.getD j 0)) (ns.length - 1)
 unfold cE
 rw [List.getD_eq_getElem?_getD,List.getElem?_eq_getElem (by omega)]
 exact List.getElem_mem _
theorem sY {ns:List Int}{x:Int} (h:x∈ns):x<=cE ns:=by
 obtain⟨j,hj,rfl⟩:=List.mem_iff_getElem.mp h
 have q:=kL (fun i j=>decide (ns.getD i 0 > ns.getD j 0)) (fun i=>- ns.getD i 0) (fun i j h=>by have:=of_decide_eq_true h;omega) (fun i j h=>by have:=of_decide_eq_false h;omega) (ns.length - 1) j (by omega)
 have e:ns.getD j 0=ns[j]:=by rw [List.getD_eq_getElem?_getD,List.getElem?_eq_getElem hj];rfl
 unfold cE
 simp only [e] at q
 omega
theorem qp {X:Cx} (hc:X.calm=true):bC X (.builtin "max") (fun xs H Q=>∃(p:Addr) (ns:List Int),xs=[.ref p]/\SqL X.K H p (ns.map V.int)/\ns≠[]/\Q (.int (cE ns)) H):=by
 intro pins s σ H xs us Q I r h
 obtain⟨p,ns,rfl,hq,hne,q⟩:=h
 obtain⟨u,rfl,rx⟩:=vals1 r
 cases rx
 obtain⟨its,rv,pl,hz⟩:=I.list hq
 have hlen:=rv.length
 rw [List.length_map] at hlen
 have hpos:0 < ns.length:=by cases ns with | nil=>exact absurd rfl hne | cons _ _=>simp
 have hitem:∀(i:Nat) (v:Value),its.toArray[i]?=some v->∃t,v=Value.int (ns.getD i 0) t:=fun i v hv=>by
  obtain⟨t,e⟩:=ints_get rv (i:=i) (by simpa using hv)
  exact⟨t,by rw [e,List.getD_eq_getElem?_getD]⟩
 have il:=pl.isList
 have hlt:p < s.heap.objs.size:=by obtain⟨_,e,_⟩:=il;exact Heap.lt_size e
 refine call_max_walk (wpAny_pyIter_list il ⟨s.heap.objs.size,[s.heap.objs.size,p],[s.heap.objs.size],its.toArray.size,_,_,_,rfl,Walks.list (A:=X.A.in1) (I.ok.hd hc) _ p (Nat.ne_of_lt hlt) its.toArray,
  ⟨⟨_,Heap.get?_push_size _ rfl,rfl,rfl⟩,il.push _⟩,fun b hb=>?_,by rw [List.size_toArray];omega,CmpOf.ints_gt (fun i=>ns.getD i 0) hitem,fun v h' tk hv hk=>?_⟩)
 ·show b < (s.heap.push _).objs.size
  rw [Heap.size_push]
  simp only [List.mem_cons,List.not_mem_nil,or_false] at hb
  rcases hb with rfl | rfl
  ·exact Nat.lt_succ_self _
  ·exact Nat.lt_succ_of_lt hlt
 ·obtain⟨t,rfl⟩:=hitem _ v hv
  rw [List.size_toArray,<- hlen]
  exact⟨.int (cE ns),H,I.kept (t':=tk) fun b o e=>hk b o (fun z=>absurd (Heap.lt_size e) (by rw [List.mem_singleton.mp z];exact Nat.lt_irrefl _)) (Heap.get?_push_of_some _ e),⟨t,rfl⟩,q⟩
theorem pw {K:PySem.W.Frag}{a D:Addr}{xs:List V}{tk tv:TE}{j:Nat}{σ':L2.St}{fin:Hp->Prop}{H1:Hp} (Pv:Nat->L2.St->Hp->Prop) (h0:Pv 0 σ' H1) (hl:∀i σ H,i<=xs.length->Pv i σ H->SqL K H a xs)
  (hs:∀i x σ H,xs[i]?=some x->Pv i σ H->tk (σ.set j (some x)) H (fun y H4=>tv (σ.set j (some x)) H4 fun v H5=>∃H6,jx H5 D y v H6/\Pv (i + 1) (σ.set j (some x)) H6)) (hd:∀σ H,Pv xs.length σ H->fin H):jB D (Itl K a) (bH j) bQ tk tv σ' fin H1:=by
 refine⟨fun i m σ H=>m=xs.length - i/\i<=xs.length/\Pv i σ H,⟨xs.length,by simp,Nat.zero_le _,h0⟩,?_⟩
 rintro i m σ H ⟨rfl,hi,p⟩
 have q:=hl i σ H hi p
 by_cases hlt:i < xs.length
 ·refine .inr ⟨⟨xs,xs[i],q,by simp [hlt]⟩,Pv (i + 1),fun σ' H' p'=>⟨xs.length - (i + 1),by omega,rfl,hlt,p'⟩,fun x H' y=>?_⟩
  obtain⟨e,y⟩:=y
  subst e
  unfold bH bQ
  exact bJ (hs i x σ _ (y xs q) p)
 ·have e:i=xs.length:=by omega
  subst e
  exact .inl ⟨⟨xs,q,Nat.le_refl _⟩,hd σ H p⟩
theorem kO {f:List Str->Int}:∀{ls:List (List Str)}{l:List Str},l∉ls->aU (kvF f ls) (aR l)=none
 | [],l,_=>rfl
 | m::r,l,h=>by
  have h':l≠m/\l∉r:=by simpa using h
  show aU ((aR m,V.int (f m))::kvF f r) (aR l)=none
  rw [bM (fun e=>h'.1 (eO e).symm)]
  exact kO h'.2
section
variable {P:Program}{w:World}{K:PySem.W.Frag}{mg:Str->Option Value}{base:Heap}
theorem nE:bootBuiltins "sum"=some (.builtin "sum"):=by decide +kernel
theorem vT:aP ["put","lot"] ["put","lot"] (aC (top 32)):=⟨rfl,rfl,rfl,by decide +kernel,rfl,by decide +kernel,by decide +kernel⟩
noncomputable abbrev N33:List Str:=["places","short","many","put","place","needed"]
theorem gZ:aP N33 ["places","short","many"] (aC (top 33)):=⟨rfl,rfl,rfl,by decide +kernel,rfl,by decide +kernel,by decide +kernel⟩
noncomputable abbrev N34:List Str:=["lots","told","lot","wider"]
theorem hV:aP N34 ["lots"] (aC (top 34)):=⟨rfl,rfl,rfl,by decide +kernel,rfl,by decide +kernel,by decide +kernel⟩
end
end K44
namespace K44
open PySem L2
noncomputable abbrev kvP (p:Str->Int) (ps:List Str):List (Key×V):=ps.map fun x=>((Sum.inr x:Key),V.int (p x))
theorem fM {p:Str->Int}:∀{ps:List Str}{x:Str},x∈ps->aU (kvP p ps) (Sum.inr x)=some (.int (p x))
 | y::r,x,h=>by
  show aU ((Sum.inr y,V.int (p y))::kvP p r) (Sum.inr x)=_
  by_cases e:y=x
  ·subst e;exact ce rfl
  ·rw [bM (fun z=>e (Sum.inr.inj z))]
   exact fM ((List.mem_cons.mp h).resolve_left fun z=>e z.symm)
theorem k9 {p:Str->Int}:∀{ps:List Str}{x:Str},x∉ps->aU (kvP p ps) (Sum.inr x)=none
 | [],_,_=>rfl
 | y::r,x,h=>by
  show aU ((Sum.inr y,V.int (p y))::kvP p r) (Sum.inr x)=_
  have h':x≠y/\x∉r:=by simpa using h
  rw [bM (fun z=>h'.1 (Sum.inr.inj z).symm)]
  exact k9 h'.2
section
variable {P:Program}{w:World}{K:PySem.W.Frag}{mg:Str->Option Value}{base:Heap}
noncomputable def jh:Sp:=fun vs H Q _=>∃(d l:Addr) (p:Str->Int) (ps ls:List Str),vs=[.ref d,.ref l]/\H d=some (.dK (kvP p ps))/\H l=some (.tup (ls.map V.str))/\(∀x∈ls,x∈ps)/\ls.length<=60/\∀H',af H H'->Q (.int (ls.map p).sum) H'
theorem su {f:Addr}{fd:FuncData} (F:Fun K "put_into" "put_into" (top 32) f fd) (hsum:mg "sum"=none):aG P w K mg base CX0 1 f fd ["put","lot"] jh:=by
 refine F.ok vT (fun vs H Q E h=>?_) (fun cdv A outer s H vs Q E hr h=>?_)
 ·obtain⟨d,l,p,ps,ls,rfl,_⟩:=h
  rfl
 ·obtain⟨d,l,p,ps,ls,rfl,hd,hl,hin,hz,k⟩:=h
  refine⟨_,ax (aI (aA (kn rfl) rfl hsum nE (aa (bp (N:=["place","put"]) (ix:=[none,some 0]) ⟨rfl,rfl,rfl,by decide⟩ rfl (bW (pv 1)) (fun _ _ _ _=>aQ 0 (by decide) rfl rfl) (fun _ _ _ _=>bc)
   (fun _ _ _ _=>cZ (cC hr) (pv 1) (pv 0) (fun _ _=>rfl))) ae))),?_⟩
  refine⟨_,rfl,l,rfl,⟨_,SqT.of hl⟩,dU (xs:=ls.map V.str) (fits (by rw [List.length_map];omega)) (fun i ys σ H1=>ys=((ls.take i).map p).map V.int/\H1=H/\∃g,σ=[g,some (.ref d)]) ⟨rfl,rfl,_,rfl⟩
   (fun i ys σ H1 _ q=>⟨by rw [q.1];simp;omega,by rw [q.2.1];exact SqT.of hl⟩) ?_ ?_⟩
  ·rintro i x ys σ H1 hx ⟨rfl,rfl,g,rfl⟩
   rw [List.getElem?_map] at hx
   cases hc:ls[i]? with
   | none=>rw [hc] at hx;cases hx
   | some z =>
    rw [hc] at hx
    cases hx
    refine⟨_,rfl,_,rfl,d,.int (p z),rfl,?_,?_,rfl,_,rfl⟩
    ·rw [<- fM (hin z (List.mem_of_getElem? hc))]
     exact bu.k (k:=Sum.inr z) hd
    ·rw [List.take_add_one,hc];simp
  ·rintro ys σ H1 ⟨rfl,rfl,g,rfl⟩ q hq
   refine⟨q,_,rfl,.inl (SqL.of ag),?_⟩
   rw [take_all ls (by simp)]
   exact k _ (am (af.refl _) hq)
theorem tX {p:Str->Int}{m:Int}{ps:List Str}{x:Str} (h:x∈ps):putK (kvP p ps) (Sum.inr x) (.int m)=kvP (fun y=>if y=x then m else p y) ps:=by
 unfold putK
 rw [dt,fM h]
 show (if true=true then _ else _)=_
 rw [if_pos rfl,List.map_map]
 refine List.map_congr_left fun y _=>?_
 show (if (Sum.inr y:Key)=Sum.inr x then ((Sum.inr y:Key),V.int m) else (Sum.inr y,V.int (p y)))=((Sum.inr y:Key),V.int (if y=x then m else p y))
 by_cases e:y=x
 ·rw [if_pos e,if_pos (by rw [e])]
 ·rw [if_neg e,if_neg fun z=>e (Sum.inr.inj z)]
noncomputable abbrev eC (f:List Str->Int) (ls:List (List Str)) (t:List Str) (m:Int):Str->Int:=Mend.eE cE f ls t fun _=>m
noncomputable def kI:Sp:=fun vs H Q _=>∃(pl sd:Addr) (ps:List Str) (f:List Str->Int) (ls:List (List Str)) (m:Int),vs=[.ref pl,.ref sd,.int m]/\H pl=some (.lst (ps.map V.str))/\ps.Nodup/\ps.length<=8/\H sd=some (.dT (kvF f ls))/\ls.length<=255/\(∀l∈ls,l.length<=60/\∀x∈l,x∈ps) /\
 ∀(d:Addr) (H':Hp),af H H'->H d=none->H' d=some (.dK (kvP (eC f ls ps m) ps))->Q (.ref d) H'
theorem pb {f:Addr}{fd:FuncData} (F:Fun K "fewest_put" "fewest_put" (top 33) f fd) (B:Bl mg) (F1:Fn P w K mg base 1 "put_into" ["put","lot"] jh):aG P w K mg base CX0 2 f fd ["places","short","many"] kI:=by
 refine F.ok gZ (fun vs H Q E h=>?_) (fun cdv A outer s H vs Q E hr h=>?_)
 ·obtain⟨pl,sd,ps,f,ls,m,rfl,_⟩:=h
  rfl
 ·obtain⟨pl,sd,ps,f,ls,m,rfl,hpl,hnd,h8,hsd,hl255,hle,k⟩:=h
  refine⟨_,ao (aL (i:=3) gZ.nd rfl (Or.inr rfl) (uQ (N:=["place","many"]) (ix:=[none,some 2]) ⟨rfl,rfl,rfl,by decide⟩ rfl (bg (pv 0)) (fun _ _ _ _=>aQ 0 (by decide) rfl rfl) (fun _ _ _ _=>bc) (fun _ _ _ _=>pv 0) (fun _ _ _ _=>pv 1)))
   (ao (bP PassesOwn.never rfl (bg (pv 0)) (aX (i:=4) gZ.nd rfl (Or.inr rfl))
    (ao (mi (cX (i:=5) (N:=["lot","short","put","place"]) (ix:=[none,some 1,some 3,some 4]) gZ.nd rfl (Or.inl rfl) ⟨rfl,rfl,rfl,by decide⟩ rfl (iV (pv 1)) (fun _ _ _ _=>aQ 0 (by decide) rfl rfl) (fun _ _ _ _=>cu (aZ (gE K) (pv 3) (pv 0) (by with_unfolding_all rfl)))
     (fun _ _ _ _=>aB bU (aB dw (cZ (cC hr) (pv 1) (pv 0) (fun _ _=>rfl)) (aw F1 hr (aa (pv 2) (aa (pv 0) ae)))) (cZ (cC hr) (pv 2) (pv 3) (fun _ _=>rfl)))))
    (ax (sf (cC hr) (pv 3) (pv 4) (aA (qp rfl) rfl B.max jq (aa (aB ez (bD (aa ai ae)) (pv 5)) ae)) rfl))))
   (ax (aI (pv 3)))),?_⟩
  refine⟨_,rfl,pl,rfl,⟨_,SqL.of hpl⟩,fun D hD=>?_⟩
  have s1:=am (o:=.dK []) (af.refl H) hD
  refine pw (K:=K) (a:=pl) (xs:=ps.map V.str) (fun i σ H2=>af H H2/\(∃x,σ=[x,some (.int m)])/\H2 D=some (.dK (kvP (fun _=>m) (ps.take i)))) ⟨s1,⟨_,rfl⟩,ag⟩
   (fun i σ H2 _ q=>SqL.of (q.1 _ _ hpl)) ?_ ?_
  ·rintro i x σ H2 hx ⟨s2,⟨g,rfl⟩,d2⟩
   rw [List.getElem?_map] at hx
   cases hc:ps[i]? with
   | none=>rw [hc] at hx;cases hx
   | some z =>
    rw [hc] at hx
    cases hx
    have hfresh:z∉ps.take i:=fun hmm=>by
     have nd:=hnd.sublist (List.take_sublist (i + 1) ps)
     rw [List.take_add_one,hc] at nd
     exact (List.nodup_append.mp nd).2.2 _ hmm z (by simp) rfl
    refine⟨_,rfl,_,rfl,_,⟨_,Sum.inr z,d2,rfl,fits (by rw [List.length_map,List.length_take];omega),rfl⟩,cm s2 hD,⟨_,rfl⟩,?_⟩
    rw [ag,iS _ (k9 hfresh),List.take_add_one,hc]
    simp [kvP]
  rintro σ H2 ⟨s2,⟨g,rfl⟩,d2⟩
  rw [take_all ps (by simp)] at d2
  refine⟨_,rfl,pl,rfl,⟨_,SqL.of (s2 _ _ hpl)⟩,dr (xs:=ps.map V.str) (fun i σ H3=>af H H3/\(∃g1 g2,σ=[some (.ref pl),some (.ref sd),some (.int m),some (.ref D),g1,g2])/\H3 D=some (.dK (kvP (eC f ls (ps.take i) m) ps))) ⟨s2,⟨_,_,rfl⟩,d2⟩ (fun i σ H3 _ q=>SqL.of (q.1 _ _ hpl)) ?_ ?_⟩
  ·rintro i x σ H3 hx ⟨s3,⟨g1,g2,rfl⟩,d3⟩
   rw [List.getElem?_map] at hx
   cases hc:ps[i]? with
   | none=>rw [hc] at hx;cases hx
   | some z =>
    rw [hc] at hx
    cases hx
    have hz:z∈ps:=List.mem_of_getElem? hc
    have hd3:=s3 _ _ hsd
    have nDs:D≠sd:=fun e=>by rw [e,hsd] at hD;cases hD
    have etk:ps.take (i + 1)=ps.take i++[z]:=by rw [List.take_add_one,hc];rfl
    have efw:eC f ls (ps.take (i + 1)) m=fun x=>if x=z then Mend.e8 cE f ls (eC f ls (ps.take i) m) z else eC f ls (ps.take i) m x:=by
     show Mend.eE cE f ls (ps.take (i + 1)) _=_
     rw [etk];exact Mend.pO _ _ _ _ _ _
    rw [efw]
    generalize eC f ls (ps.take i) m=pp at d3 ⊢
    refine⟨_,rfl,sd,_,rfl,hd3,fun o=>?_⟩
    have e1:upd H3 sd (.frz o (.dT (kvF f ls))) sd=some (.frz o (.dT (kvF f ls))):=ag
    refine k4 (a:=sd) (o:=o) (kvs:=kvF f ls) (fits (by rw [List.length_map];omega)) (fun j ys σ H4=>af (upd H3 sd (.frz o (.dT (kvF f ls)))) H4/\(∃x,σ=[x,some (.ref sd),some (.ref D),some (.str z)])/\ys=(((ls.take j).filter fun l=>decide (z∈l)).map fun l=>f l - (l.map pp).sum + pp z).map V.int)
     ⟨af.refl _,⟨_,rfl⟩,rfl⟩ (fun j ys σ H4 _ p=>by
      obtain⟨s4,_,rfl⟩:=p
      refine⟨?_,s4 _ _ e1⟩
      rw [List.length_map,List.length_map]
      exact Nat.le_trans (List.length_filter_le _ _) (by rw [List.length_take];omega)) ?_ ?_
    ·rintro j p b ys σ H4 hp hb ⟨s4,⟨x,rfl⟩,rfl⟩
     rw [List.getElem?_map] at hp
     cases hcl:ls[j]? with
     | none=>rw [hcl] at hp;cases hp
     | some l =>
      rw [hcl] at hp
      cases hp
      have hlm:=List.mem_of_getElem? hcl
      obtain⟨h60,hlin⟩:=hle l hlm
      have hb':H4 b=some (.tup (l.map V.str)):=by rw [<- b6];exact hb
      have dD:H4 D=some (.dK (kvP pp ps)):=s4 _ _ (by rw [aj nDs];exact d3)
      have tf:(ls.take (j + 1)).filter (fun l=>decide (z∈l))=(ls.take j).filter (fun l=>decide (z∈l))++(if decide (z∈l)=true then [l] else []):=by
       rw [List.take_add_one,hcl,List.filter_append]
       simp [List.filter_cons]
      refine⟨_,rfl,_,rfl,b,l.map V.str,rfl,.inr (SqT.of hb'),rfl,b9 l,_,rfl,?_⟩
      show if inV (.str z) (l.map V.str)=true then _ else _
      rw [cf]
      refine be (fun c=>?_) (fun c=>⟨s4,⟨_,rfl⟩,by rw [tf,if_neg c,List.append_nil]⟩)
      have gd:bu H4 sd (.ref b) (some (.int (f l))):=.inr ⟨_,aR l,b,.inr ⟨o,s4 _ _ e1⟩,rfl,by rw [b6];exact hb',(eM hlm).symm⟩
      refine⟨_,rfl,_,rfl,sd,_,rfl,gd,?_⟩
      refine⟨_,rfl,_,rfl,D,b,pp,ps,l,rfl,dD,hb',hlin,h60,fun H5 s5=>⟨_,_,rfl,rfl,?_⟩⟩
      have gz:bu H5 D (.str z) (some (.int (pp z))):=by
       rw [<- fM hz]
       exact bu.k (k:=Sum.inr z) (s5 _ _ dD)
      refine⟨_,rfl,_,rfl,D,_,rfl,gz,_,_,rfl,rfl,s4.trans s5,⟨_,rfl⟩,?_⟩
      rw [tf,if_pos c]
      simp
    rintro ys σ H4 ⟨s4,⟨x,rfl⟩,rfl⟩ en hen
    have elen:(kvF f ls).length=ls.length:=by simp
    rw [elen,List.take_length]
    have hn255:((ls.filter fun l=>decide (z∈l)).map fun l=>f l - (l.map pp).sum + pp z).length<=255:=by rw [List.length_map];exact Nat.le_trans (List.length_filter_le _ _) hl255
    have ekm:cE (0::(ls.filter fun l=>decide (z∈l)).map fun l=>f l - (l.map pp).sum + pp z)=Mend.e8 cE f ls pp z:=rfl
    generalize ((ls.filter fun l=>decide (z∈l)).map fun l=>f l - (l.map pp).sum + pp z)=ns at hn255 ekm ⊢
    have nen:en≠sd:=fun e=>by rw [e,s4 _ _ e1] at hen;cases hen
    refine⟨sd,o,_,by rw [aj nen.symm];exact s4 _ _ e1,fun o' u' (q:H sd=_)=>(by rw [hsd] at q;cases q),?_⟩
    have s5:af H3 (upd (upd H4 en (.lst (ns.map V.int))) sd (.dT (kvF f ls))):=fun b ob e=>by
     by_cases q:b=sd
     ·subst q;rw [ag,<- e,hd3]
     ·have e4:H4 b=some ob:=s4 _ _ (by rw [aj q];exact e)
      rw [aj q,aj (aV e4 hen)];exact e4
    have n5:upd (upd H4 en (.lst (ns.map V.int))) sd (.dT (kvF f ls)) en=some (.lst (ns.map V.int)):=by rw [aj nen,ag]
    generalize upd (upd H4 en (.lst (ns.map V.int))) sd (.dT (kvF f ls))=H5 at s5 n5 ⊢
    refine⟨by show 1<=sizeLine;decide,fun l1 hl1=>?_⟩
    have s6:=am (o:=.lst [V.int 0]) (af.refl H5) hl1
    have e6:upd H5 l1 (.lst [V.int 0]) l1=some (.lst [V.int 0]):=ag
    generalize upd H5 l1 (.lst [V.int 0])=H6 at s6 e6 ⊢
    refine⟨_,rfl,l1,en,[V.int 0],ns.map V.int,rfl,rfl,e6,s6 _ _ n5,Nat.le_of_lt (fits (by simp;omega)),fun l2 hl2=>?_⟩
    have s7:=am (o:=.lst ([V.int 0]++ns.map V.int)) (af.refl H6) hl2
    have e7:upd H6 l2 (.lst ([V.int 0]++ns.map V.int)) l2=some (.lst ((0::ns).map V.int)):=ag
    generalize upd H6 l2 (.lst ([V.int 0]++ns.map V.int))=H7 at s7 e7 ⊢
    refine⟨l2,0::ns,rfl,SqL.of e7,by simp,?_⟩
    rw [ekm]
    have t7:=s5.trans (s6.trans s7)
    have d7:=t7 _ _ d3
    refine⟨_,rfl,_,rfl,D,_,rfl,cU.k (k:=Sum.inr z) d7 (fits (by rw [List.length_map];omega)),?_⟩
    rw [tX hz]
    exact⟨cm (s3.trans t7) hD,⟨_,_,rfl⟩,ag⟩
  ·rintro σ H3 ⟨s3,⟨g1,g2,rfl⟩,d3⟩
   rw [take_all ps (by simp)] at d3
   exact⟨_,rfl,k D H3 s3 hD d3⟩
end
theorem tj (K:PySem.W.Frag) {X:Cx}{tg l:Expr}{tl:TE} (hl:PE X l tl) (h:X.K=K:=by rfl):PI X tg l (gR K tl):=by subst h;exact bW hl
theorem qk (K:PySem.W.Frag) {X:Cx} (hc:X.calm=true) (h:X.K=K:=by rfl):bC X (.builtin "all") (fun xs H Q=>∃(p:Addr) (bs:List Bool),xs=[.ref p]/\SqL K H p (bs.map V.bl)/\Q (.bl (bs.all id)) H):=by subst h;exact dn hc
theorem sO (a b:List Str):PyData.eqv (cM a) (cM b)=decide (a=b):=by
 show PyData.eqvAll (a.map PyData.str) (b.map PyData.str)=_
 exact fw a b
noncomputable def cv (l o:List Str):Bool:=!decide (o=l) && l.all fun x=>decide (x∈o)
noncomputable def grB (js:List (List Str)) (l:List Str):Bool:=decide ((js.filter (cv l)).length=0)
section
variable {P:Program}{w:World}{K:PySem.W.Frag}{mg:Str->Option Value}{base:Heap}
noncomputable def jX:Sp:=fun vs H Q _=>∃(l:Addr) (lts:List (Addr×List Str)),vs=[.ref l]/\H l=some (.lst (ak lts))/\aO H lts/\lts.length<=255/\(∀x∈lts,x.2.length<=60/\∀y∈x.2,aE y) /\
 ∀(q:Addr) (H':Hp),af H H'->H q=none->H' q=some (.lst (ak (lts.filter fun x=>grB (lts.map (·.2)) x.2)))->Q (.ref q) H'
theorem oX {f:Addr}{fd:FuncData} (F:Fun K "greatest" "greatest" (top 34) f fd) (B:Bl mg):aG P w K mg base CX0 1 f fd ["lots"] jX:=by
 refine F.ok hV (fun vs H Q E h=>?_) (fun cdv A outer s H vs Q E hr h=>?_)
 ·obtain⟨l,lts,rfl,_⟩:=h
  rfl
 ·obtain⟨l,lts,rfl,hl,A0,h255,hnm,k⟩:=h
  refine' ⟨_,?d0,?main⟩
  case' d0=>refine' ao (aL (i:=1) hV.nd rfl (Or.inl rfl) (bD ae)) ?d1
  case' d1=>refine' ao (bP PassesOwn.never rfl (bg (pv 0)) (aX (i:=2) hV.nd rfl (Or.inr rfl)) ?d3) ?d2
  case d2=>exact ax (aI (pv 1))
  case' d3=>refine' ao (qg (i:=3) (N:=["other","lot"]) (ix:=[none,some 2]) hV.nd rfl (Or.inl rfl) ⟨rfl,rfl,rfl,by decide⟩ rfl (bg (pv 0)) (fun _ _ _ _=>uZ 0 (by decide) rfl rfl)
   (fun _ _ _ _=>cu (PW.pt (gG (aZ (jc hr) (pv 0) (pv 1) (ba _)) (gD (bE (aA (qk K rfl) rfl B.all dG (aa (bp (N:=["place","other"]) (ix:=[none,some 0]) ⟨rfl,rfl,rfl,by decide⟩ rfl (tj K (pv 1)) (fun _ _ _ _=>aQ 0 (by decide) rfl rfl) (fun _ _ _ _=>bc) (fun _ _ _ _=>b4 (gE K) (pv 0) (pv 1) (by with_unfolding_all rfl))) ae)))))))
   (fun _ _ _ _=>pv 0)) ?d4
  case d4=>exact ax (bh (aZ dE (aA bA rfl B.len PySem.boot_len (aa (pv 3) ae)) ai (ba _)) (ax (bT (cT PySem.F.plainAttrs_list PySem.F.slot_list_append PySem.F.type_list_append dP (pv 1) (aa (pv 2) ae)))) bf)
  case main =>
  refine⟨Nat.zero_le _,fun q hq=>?_⟩
  have s1:=am (o:=.lst []) (af.refl H) hq
  have e1:upd H q (.lst []) q=some (.lst (ak [])):=ag
  generalize upd H q (.lst [])=H1 at s1 e1 ⊢
  have htl:(ak lts).length=lts.length:=by simp
  refine⟨_,rfl,l,rfl,⟨_,SqL.of (s1 _ _ hl)⟩,dr (K:=K) (xs:=ak lts) (fun i σ H3=>af H H3/\(∃g1 g2,σ=[some (.ref l),some (.ref q),g1,g2])/\H3 q=some (.lst (ak ((lts.take i).filter fun x=>grB (lts.map (·.2)) x.2))))
   ⟨s1,⟨_,_,rfl⟩,e1⟩ (fun i σ H3 _ p=>SqL.of (p.1 _ _ hl)) ?_ ?_⟩
  ·rintro i x σ H3 hx ⟨s3,⟨g1,g2,rfl⟩,t3⟩
   obtain⟨lt,hlt,rfl⟩:=bZ hx
   have hm:=List.mem_of_getElem? hlt
   have A3:=A0.same s3
   have l3:=s3 _ _ hl
   refine⟨_,rfl,l,rfl,⟨_,SqL.of l3⟩,fG (xs:=ak lts) (fits (by omega)) (fun j ys σ H4=>ys=ak ((lts.take j).filter fun x=>cv lt.2 x.2)/\af H3 H4/\∃x,σ=[x,some (.ref lt.1)]) ⟨rfl,af.refl _,_,rfl⟩
    (fun j ys σ H4 _ p=>⟨by rw [p.1,List.length_map];exact Nat.le_trans (List.length_filter_le _ _) (by rw [List.length_take];omega),SqL.of (p.2.1 _ _ l3)⟩) ?_ ?_⟩
   ·rintro j x ys σ H4 hx ⟨rfl,s4,g,rfl⟩
    obtain⟨o,ho,rfl⟩:=bZ hx
    have hom:=List.mem_of_getElem? ho
    have o4:=s4 _ _ (A3 o hom)
    have l4:=s4 _ _ (A3 lt hm)
    have tf:=ck (fun x:Addr×List Str=>cv lt.2 x.2) lts j o ho
    refine⟨_,rfl,_,rfl,cM o.2,cM lt.2,.tup o4 (DVs.strs _),.tup l4 (DVs.strs _),(cN (hnm o hom).2).2,(cN (hnm lt hm).2).2,_,rfl,?_⟩
    rw [sO]
    refine be (fun c=>?_) (fun c=>bb ⟨?_,s4,_,rfl⟩)
    ·refine⟨_,rfl,lt.1,rfl,⟨_,SqT.of l4⟩,dU (xs:=lt.2.map V.str) (fits (by rw [List.length_map];have:=(hnm lt hm).1;omega)) (fun n zs σ H5=>zs=((lt.2.take n).map fun x=>decide (x∈o.2)).map V.bl/\H5=H4/\∃g,σ=[g,some (.ref o.1)]) ⟨rfl,rfl,_,rfl⟩
      (fun n zs σ H5 _ p=>⟨by rw [p.1];simp;omega,by rw [p.2.1];exact SqT.of l4⟩) ?_ ?_⟩
     ·rintro n x zs σ H5 hx ⟨rfl,rfl,g',rfl⟩
      rw [List.getElem?_map] at hx
      cases hc:lt.2[n]? with
      | none=>rw [hc] at hx;cases hx
      | some z =>
       rw [hc] at hx
       cases hx
       refine⟨_,rfl,_,rfl,o.1,o.2.map V.str,rfl,.inr (SqT.of o4),rfl,b9 o.2,?_⟩
       show _/\_
       refine⟨?_,rfl,_,rfl⟩
       show _++[V.bl (inV (.str z) (o.2.map V.str))]=_
       rw [cf,List.take_add_one,hc]
       simp
     ·rintro zs σ H5 ⟨rfl,rfl,g',rfl⟩ aq haq
      rw [take_all lt.2 (by simp)]
      have s5:=am (o:=.lst ((lt.2.map fun x=>decide (x∈o.2)).map V.bl)) s4 haq
      refine⟨aq,_,rfl,SqL.of ag,_,rfl,?_⟩
      have ea:(lt.2.map fun x=>decide (x∈o.2)).all id=lt.2.all fun x=>decide (x∈o.2):=by rw [List.all_map];rfl
      rw [ea]
      refine be (fun d=>⟨_,rfl,?_,s5,_,rfl⟩) (fun d=>⟨?_,s5,_,rfl⟩)
      ·rw [tf];unfold cv;rw [c,d];simp
      ·rw [tf];unfold cv;simp only [Bool.not_eq_true] at d;rw [c,d];simp
    ·rw [tf];unfold cv;rw [Bool.eq_false_iff.mpr c];simp
   ·rintro ys σ H4 ⟨rfl,s4,g,rfl⟩ wq hwq
    have eT:lts.take (ak lts).length=lts:=take_all lts htl
    rw [eT]
    have s5:=am (o:=.lst (ak (lts.filter fun x=>cv lt.2 x.2))) s4 hwq
    have w5:upd H4 wq (.lst (ak (lts.filter fun x=>cv lt.2 x.2))) wq=some (.lst (ak (lts.filter fun x=>cv lt.2 x.2))):=ag
    generalize upd H4 wq (.lst (ak (lts.filter fun x=>cv lt.2 x.2)))=H5 at s5 w5 ⊢
    have t5:=s5 _ _ t3
    have s05:=s3.trans s5
    have tf:=ck (fun x:Addr×List Str=>grB (lts.map (·.2)) x.2) lts i lt hlt
    have eg:grB (lts.map (·.2)) lt.2=decide (V.int ((ak (lts.filter fun x=>cv lt.2 x.2)).length:Int)=V.int 0):=by
     unfold grB
     rw [List.filter_map,List.length_map]
     refine decide_eq_decide.mpr ⟨fun h=>?_,fun h=>?_⟩
     ·rw [List.length_map];congr 1;exact congrArg Int.ofNat h
     ·have:=V.int.inj h
      rw [List.length_map] at this
      exact Int.ofNat.inj this
    refine⟨_,rfl,wq,_,rfl,.inl (SqL.of w5),rfl,_,rfl,?_⟩
    rw [<- eg]
    refine be (fun c=>?_) (fun c=>?_)
    ·refine⟨_,rfl,.inl ⟨rfl,_,SqL.of t5⟩,_,rfl,q,_,_,rfl,rfl,t5,?_,?_⟩
     ·exact fits (by rw [List.length_map];exact Nat.le_trans (List.length_filter_le _ _) (by rw [List.length_take];omega))
     ·exact⟨cm s05 hq,⟨_,_,rfl⟩,by rw [ag,tf,if_pos c];simp⟩
    ·exact⟨s05,⟨_,_,rfl⟩,by rw [tf,if_neg c,List.append_nil];exact t5⟩
  ·rintro σ H3 ⟨s3,⟨g1,g2,rfl⟩,t3⟩
   rw [htl,take_all lts rfl] at t3
   exact⟨_,rfl,k q H3 s3 hq t3⟩
end
noncomputable abbrev bx (rs:List (Addr×Row)) (os:List Str) (m:Int):Str->Int:=eC (fun l=>m - (cnt rs l:Int)) (ay os) os m
noncomputable def bY (rs:List (Addr×Row)) (p:Str->Int) (m:Int) (l:List Str):Bool:=decide ((l.map p).sum=m - (cnt rs l:Int)) && decide (0 < m - (cnt rs l:Int))
noncomputable def mPl (p:Str->Int) (os:List Str):List Str:=(os.map fun x=>List.replicate (p x).toNat x).flatten
noncomputable def mJs (rs:List (Addr×Row)) (os:List Str) (m:Int):List (List Str):=(ay os).filter (bY rs (bx rs os m) m)
noncomputable def mGr (rs:List (Addr×Row)) (os:List Str) (m:Int):List (List Str):=(mJs rs os m).filter (grB (mJs rs os m))
theorem qP {p:Str->Int}{os:List Str}{i:Nat}{t:Str} (h:os[i]?=some t):mPl p (os.take (i + 1))=mPl p (os.take i)++List.replicate (p t).toNat t:=by
 unfold mPl
 rw [List.take_add_one,h]
 simp
theorem gB {p:Str->Int}:∀{os:List Str},(∀x∈os,p x<=6)->(mPl p os).length<=6 * os.length
 | [],_=>by simp [mPl]
 | x::r,h=>by
  have ih:=gB (p:=p) (os:=r) fun y hy=>h y (List.mem_cons_of_mem _ hy)
  have hx:=h x List.mem_cons_self
  unfold mPl at ih ⊢
  rw [List.map_cons,List.flatten_cons,List.length_append,List.length_replicate,List.length_cons]
  omega
section
variable {P:Program}{w:World}{K:PySem.W.Frag}{mg:Str->Option Value}{base:Heap}
noncomputable abbrev N35:List Str:=["web","root","many","lots","counts","short","put","just"]
theorem fh:aP N35 ["web","root","many"] (aC (top 35)):=⟨rfl,rfl,rfl,by decide +kernel,rfl,by decide +kernel,by decide +kernel⟩
noncomputable def ly:Sp:=fun vs H Q _=>∃(v pa ra:Addr) (ps:List Str) (rs:List (Addr×Row)) (root:Str) (m:Int),vs=[.ref v,.str root,.int m]/\bv H v pa ra ps rs/\Good ps (rs.map (·.2))/\ps.length<=8/\root∈ps/\0<=m/\m<=6/\(∀x∈others ps root,0<=bx rs (others ps root) m x/\bx rs (others ps root) m x<=6) /\
 ∀(q a b:Addr) (gts:List (Addr×List Str)) (H':Hp),af H H'->H' q=some (.tup [.ref a,.ref b])->H' a=some (.tup ((mPl (bx rs (others ps root) m) (others ps root)).map V.str))->H b=none->H' b=some (.lst (ak gts))->aO H' gts->gts.map (·.2)=mGr rs (others ps root) m->Q (.ref q) H'
theorem qj {f:Addr}{fd:FuncData} (F:Fun K "mended" "mended" (top 35) f fd) (B:Bl mg) (F1:Fn P w K mg base 4 "need_web" ["thing"] (fS .non)) (F2:Fn P w K mg base 2 "need_place" ["web","thing"] iq) (F3:Fn P w K mg base 2 "need_number" ["thing","low","high"] iM)
  (F4:Fn P w K mg base 2 "lots_without" ["web","root"] lJ) (F5:Fn P w K mg base 2 "counts_into" ["rows","lots"] iF) (F6:Fn P w K mg base 2 "fewest_put" ["places","short","many"] kI) (F7:Fn P w K mg base 1 "put_into" ["put","lot"] jh) (F8:Fn P w K mg base 1 "greatest" ["lots"] jX) :
  aG P w K mg base CX0 5 f fd ["web","root","many"] ly:=by
 refine F.ok fh (fun vs H Q E h=>?_) (fun cdv A outer s H vs Q E hr h=>?_)
 ·obtain⟨v,pa,ra,ps,rs,root,m,rfl,_⟩:=h
  rfl
 ·obtain⟨v,pa,ra,ps,rs,root,m,rfl,W,G,h8,hroot,hm0,hm6,hpp,k⟩:=h
  have hr4:aN 4 _:=hr.mono (by decide)
  have hr2:aN 2 _:=hr.mono (by decide)
  have hr1:aN 1 _:=hr.mono (by decide)
  obtain⟨tm,hmost⟩:=B.most
  refine' ⟨_,?d0,?main⟩
  case' d0=>refine' ao (bT (aw F1 hr4 (aa (pv 0) ae))) ?d1
  case' d1=>refine' ao (bT (aw F2 hr2 (aa (pv 0) (aa (pv 1) ae)))) ?d2
  case' d2=>refine' ao (bT (aw F3 hr2 (aa (pv 2) (aa ai (aa (iX (v:=.int 6) rfl hmost ⟨_,rfl⟩) ae))))) ?d3
  case' d3=>refine' ao (aL (i:=3) fh.nd rfl (Or.inl rfl) (aw F4 hr2 (aa (pv 0) (aa (pv 1) ae)))) ?d4
  case' d4=>refine' ao (aL (i:=4) fh.nd rfl (Or.inr rfl) (aw F5 hr2 (aa (aD aW (pv 0) ai (fun _ _=>rfl)) (aa (pv 3) ae)))) ?d5
  case' d5=>refine' ao (aL (i:=5) fh.nd rfl (Or.inr rfl) (nk (N:=["lot","many","counts"]) (ix:=[none,some 2,some 4]) (lt0 hr) ⟨rfl,rfl,rfl,by decide⟩ rfl (bg (pv 3)) (fun _ _ _ _=>aQ 0 (by decide) rfl rfl) (fun _ _ _ _=>bc) (fun _ _ _ _=>pv 0) (fun _ _ _ _=>aB dw (pv 1) (cZ (cC hr) (pv 2) (pv 0) (fun _ _=>rfl))))) ?d6
  case' d6=>refine' ao (aL (i:=6) fh.nd rfl (Or.inr rfl) (aw F6 hr2 (aa (bp (N:=["place","root"]) (ix:=[none,some 1]) ⟨rfl,rfl,rfl,by decide⟩ rfl (bW (aD aW (pv 0) ai (fun _ _=>rfl))) (fun _ _ _ _=>aQ 0 (by decide) rfl rfl) (fun _ _ _ _=>cu (aZ dH (pv 0) (pv 1) (ba _))) (fun _ _ _ _=>pv 0)) (aa (pv 5) (aa (pv 2) ae))))) ?d7
  case' d7=>refine' ao (cX (i:=7) (N:=["lot","put","short"]) (ix:=[none,some 6,some 5]) fh.nd rfl (Or.inl rfl) ⟨rfl,rfl,rfl,by decide⟩ rfl (bg (pv 3)) (fun _ _ _ _=>aQ 0 (by decide) rfl rfl) (fun _ _ _ _=>cu (iH dE fc (aw F7 hr1 (aa (pv 1) (aa (pv 0) ae))) (cZ (cC hr) (pv 2) (pv 0) (fun _ _=>rfl)) ai)) (fun _ _ _ _=>pv 0)) ?d8
  case d8=>exact ax (aI (bV (aa (cb eG rfl B.tuple cz (aa (um (N:=["place","step","put"]) (ix:=[none,none,some 6]) ⟨rfl,rfl,rfl,by decide⟩ rfl (qV (pv 6)) (fun _ _ _ _=>aQ 0 (by decide) rfl rfl) (fun _ _ _ _=>bc) (fun _ _ _ _=>cW rfl B.range (aa (cZ (cC hr) (pv 2) (pv 0) (fun _ _=>rfl)) ae)) (fun _ _ _ _=>aQ 1 (by decide) rfl rfl) (fun _ _ _ _=>bc) (fun _ _ _ _=>pv 0)) ae)) (aa (aw F8 hr1 (aa (pv 7) ae)) ae))))
  case main =>
  have hz:rs.length<=60:=by have:=G.rz;simpa using this
  have hnd0:ps.Nodup:=dR G.so
  refine⟨_,rfl,v,pa,ra,ps,rs,rfl,W,G,fun H1 s1=>⟨_,rfl,_,rfl,v,pa,ra,ps,rs,root,rfl,W.same s1,hroot,_,rfl,m,0,6,rfl,hm0,hm6,?_⟩⟩
  refine⟨_,rfl,_,rfl,v,pa,ra,ps,rs,root,rfl,W.same s1,h8,fun lo lts H2 s2 lo2 A2 e2=>?_⟩
  have s12:=s1.trans s2
  have W2:=W.same s12
  have hnd:(lts.map (·.2)).Nodup:=by rw [e2];exact fD (hnd0.filter _)
  have htl:(ak lts).length=lts.length:=by simp
  have hl255:lts.length<=255:=by
   have q:=gu (others ps root)
   have q2:=congrArg List.length e2
   rw [List.length_map] at q2
   have q3:=eW (Nat.le_trans (fF ps root) h8)
   omega
  have hsub:∀x∈lts,∀y∈x.2,y∈others ps root:=fun x hx y hy=>(cQ (by rw [<- e2];exact List.mem_map_of_mem (f:=fun z:Addr×List Str=>z.2) hx)).subset hy
  have hlen:∀x∈lts,x.2.length<=60:=fun x hx=>by
   have q:=(cQ (ps:=others ps root) (by rw [<- e2];exact List.mem_map_of_mem (f:=fun z:Addr×List Str=>z.2) hx)).length_le
   have:=fF ps root
   omega
  refine⟨_,rfl,aH (j:=1) (.inr (SqT.of W2.tp)) rfl rfl ⟨_,rfl,ra,lo,rs,lts,rfl,.inr W2.rl,W2.rows,hz,lo2,A2,hnd,hl255,fun c kvs H3 s3 c3 v3=>?_⟩⟩
  have s13:=s12.trans s3
  have lo3:=s3 _ _ lo2
  have A3:=A2.same s3
  refine⟨_,rfl,lo,rfl,⟨_,SqL.of lo3⟩,fun D hD=>?_⟩
  have sd:=am (o:=.dT []) (af.refl H3) hD
  refine iB (K:=K) (a:=lo) (xs:=ak lts) (fun i σ H4=>af H3 H4/\(∃x,σ=[x,some (.int m),some (.ref c)])/\H4 D=some (.dT (kvF (fun l=>m - (cnt rs l:Int)) ((lts.take i).map (·.2))))) ⟨sd,⟨_,rfl⟩,ag⟩
   (fun i σ H4 _ q=>SqL.of (q.1 _ _ lo3)) ?_ ?_
  ·rintro i x σ H4 hx ⟨s4,⟨g,rfl⟩,d4⟩
   obtain⟨lt,hlt,rfl⟩:=bZ hx
   have hm:=List.mem_of_getElem? hlt
   have hi:i < lts.length:=(List.getElem?_eq_some_iff.mp hlt).1
   have hlt4:=s4 _ _ (A3 lt hm)
   have gc:bu H4 c (.ref lt.1) (some (.int (cnt rs lt.2))):=by
    rw [<- v3 lt hm];exact bu.t (s4 _ _ c3) (by rw [b6];exact hlt4)
   have hfresh:lt.2∉(lts.take i).map (·.2):=fun hmm=>by
    have nd:=hnd.sublist ((List.take_sublist (i + 1) lts).map (fun x:Addr×List Str=>x.2))
    rw [List.take_add_one,hlt,List.map_append] at nd
    exact (List.nodup_append.mp nd).2.2 _ hmm lt.2 (by simp) rfl
   refine⟨_,rfl,_,rfl,_,rfl,_,rfl,c,_,rfl,gc,_,_,rfl,rfl,_,⟨_,aR lt.2,lt.1,d4,rfl,by rw [b6];exact hlt4,by rw [List.length_map,List.length_map,List.length_take,sizeLine_eq];omega,rfl⟩,cm s4 hD,⟨_,rfl⟩,?_⟩
   rw [ag,iS _ (kO hfresh),List.take_add_one,hlt]
   simp [kvF]
  rintro σ H4 ⟨s4,⟨g,rfl⟩,d4⟩
  rw [htl,take_all lts rfl,e2] at d4
  have s14:=s13.trans s4
  have W4:=W.same s14
  have lo4:=s4 _ _ lo3
  have A4:=A3.same s4
  refine⟨_,rfl,aH (j:=0) (.inr (SqT.of W4.tp)) rfl rfl ⟨pa,rfl,⟨_,SqT.of W4.pl⟩,fN (xs:=ps.map V.str) (fits (by rw [List.length_map];omega)) (fun i ys σ H5=>ys=((ps.take i).filter fun y=>!decide (y=root)).map V.str/\H5=H4/\∃x,σ=[x,some (.str root)]) ⟨rfl,rfl,_,rfl⟩
   (fun i ys σ H5 _ q=>⟨by rw [q.1,List.length_map];exact Nat.le_trans (List.length_filter_le _ _) (by rw [List.length_take];omega),by rw [q.2.1];exact SqT.of W4.pl⟩) ?_ ?_⟩⟩
  ·rintro i x ys σ H5 hx ⟨rfl,rfl,g,rfl⟩
   rw [List.getElem?_map] at hx
   cases hc:ps[i]? with
   | none=>rw [hc] at hx;cases hx
   | some z =>
    rw [hc] at hx
    cases hx
    have tf:=ck (fun y:Str=>!decide (y=root)) ps i z hc
    refine⟨_,rfl,_,rfl,rfl,_,rfl,?_⟩
    have e:(!decide (V.str z=V.str root))=!decide (z=root):=by congr 1;exact decide_eq_decide.mpr ⟨fun h=>V.str.inj h,fun h=>by rw [h]⟩
    rw [e]
    refine be (fun c=>⟨_,rfl,?_,rfl,_,rfl⟩) (fun c=>⟨?_,rfl,_,rfl⟩)
    ·rw [tf,c];simp
    ·rw [tf];simp only [Bool.not_eq_true] at c;rw [c];simp
  rintro ys σ H5 ⟨rfl,rfl,g,rfl⟩ pl hpl
  rw [take_all ps (by simp)]
  have s5:=am (o:=.lst ((ps.filter fun y=>!decide (y=root)).map V.str)) (af.refl H5) hpl
  have p5:upd H5 pl (.lst ((ps.filter fun y=>!decide (y=root)).map V.str)) pl=some (.lst ((others ps root).map V.str)):=ag
  generalize upd H5 pl (.lst ((ps.filter fun y=>!decide (y=root)).map V.str))=H6 at s5 p5 ⊢
  have d6:=s5 _ _ d4
  refine⟨_,rfl,_,rfl,pl,D,others ps root,_,ay (others ps root),m,rfl,p5,hnd0.filter _,Nat.le_trans (fF ps root) h8,d6,by rw [<- e2,List.length_map];exact hl255,fun l hl=>?_,fun d H7 s7 hd7 e7=>?_⟩
  ·rw [<- e2] at hl
   obtain⟨x,hx,rfl⟩:=List.mem_map.mp hl
   exact⟨hlen x hx,hsub x hx⟩
  have t57:=s5.trans s7
  have lo7:=t57 _ _ lo4
  have A7:=A4.same t57
  have d7:=t57 _ _ d4
  have e7:H7 d=some (.dK (kvP (bx rs (others ps root) m) (others ps root))):=e7
  generalize hpe:bx rs (others ps root) m=p at e7 hpp k
  have hhd:H d=none:=s14.free (s5.free hd7)
  refine⟨_,rfl,lo,rfl,⟨_,SqL.of lo7⟩,fG (xs:=ak lts) (fits (by omega)) (fun i ys σ H8=>ys=ak ((lts.take i).filter fun x=>bY rs p m x.2)/\af H7 H8/\∃x,σ=[x,some (.ref d),some (.ref D)]) ⟨rfl,af.refl _,_,rfl⟩
   (fun i ys σ H8 _ q=>⟨by rw [q.1,List.length_map];exact Nat.le_trans (List.length_filter_le _ _) (by rw [List.length_take];omega),SqL.of (q.2.1 _ _ lo7)⟩) ?_ ?_⟩
  ·rintro i x ys σ H8 hx ⟨rfl,s8,g,rfl⟩
   obtain⟨lt,hlt,rfl⟩:=bZ hx
   have hm:=List.mem_of_getElem? hlt
   have l8:=s8 _ _ (A7 lt hm)
   have tf:=ck (fun x:Addr×List Str=>bY rs p m x.2) lts i lt hlt
   refine⟨_,rfl,_,rfl,d,lt.1,p,others ps root,lt.2,rfl,s8 _ _ e7,l8,hsub lt hm,hlen lt hm,fun H9 s9=>?_⟩
   have gd:bu H9 D (.ref lt.1) (some (.int (m - (cnt rs lt.2:Int)))):=by
    rw [<- eM (f:=fun l=>m - (cnt rs l:Int)) (show lt.2∈ay (others ps root) by rw [<- e2];exact List.mem_map_of_mem (f:=fun z:Addr×List Str=>z.2) hm)]
    exact bu.t (s9 _ _ (s8 _ _ d7)) (by rw [b6];exact s9 _ _ l8)
   refine⟨_,rfl,_,rfl,D,_,rfl,gd,rfl,_,rfl,?_⟩
   have ee:decide (V.int (lt.2.map p).sum=V.int (m - (cnt rs lt.2:Int)))=decide ((lt.2.map p).sum=m - (cnt rs lt.2:Int)):=decide_eq_decide.mpr ⟨fun h=>V.int.inj h,fun h=>by rw [h]⟩
   rw [ee]
   refine be (fun c=>⟨_,_,rfl,rfl,_,rfl,?_⟩) (fun c=>⟨_,rfl,bb ⟨?_,s8.trans s9,_,rfl⟩⟩)
   ·refine be (fun c2=>⟨_,rfl,?_,s8.trans s9,_,rfl⟩) (fun c2=>⟨?_,s8.trans s9,_,rfl⟩)
    ·rw [tf];unfold bY;rw [c,c2];simp
    ·rw [tf];unfold bY;rw [c,Bool.eq_false_iff.mpr c2];simp
   ·rw [tf];unfold bY;rw [Bool.eq_false_iff.mpr c];simp
  rintro ys σ H8 ⟨rfl,s8,g,rfl⟩ ju hju
  have eT:lts.take (ak lts).length=lts:=take_all lts htl
  rw [eT]
  have s9:=am (o:=.lst (ak (lts.filter fun x=>bY rs p m x.2))) s8 hju
  have j9:upd H8 ju (.lst (ak (lts.filter fun x=>bY rs p m x.2))) ju=some (.lst (ak (lts.filter fun x=>bY rs p m x.2))):=ag
  generalize upd H8 ju (.lst (ak (lts.filter fun x=>bY rs p m x.2)))=H9 at s9 j9 ⊢
  have e9:=s9 _ _ e7
  have A9:=A7.same s9
  have njd:ju≠d:=fun z=>by rw [z,e9] at j9;cases j9
  refine⟨_,rfl,d,_,rfl,e9,fun o=>?_⟩
  have f10:upd H9 d (.frz o (.dK (kvP p (others ps root)))) d=some (.frz o (.dK (kvP p (others ps root)))):=ag
  have s910:∀b ob,b≠d->H9 b=some ob->upd H9 d (.frz o (.dK (kvP p (others ps root)))) b=some ob:=fun b ob hb e=>by rw [aj hb];exact e
  have s10:af H (upd H9 d (.frz o (.dK (kvP p (others ps root))))):=cm (s14.trans (t57.trans s9)) hhd
  generalize upd H9 d (.frz o (.dK (kvP p (others ps root))))=H10 at f10 s910 s10 ⊢
  have j10:=s910 _ _ njd j9
  have A10:aO H10 lts:=fun x hx=>s910 _ _ (fun z=>by have:=A9 x hx;rw [z,e9] at this;cases this) (A9 x hx)
  have hol:=fF ps root
  have hpl6:(mPl p (others ps root)).length<=48:=by
   have:=gB (p:=p) (os:=others ps root) fun x hx=>(hpp x hx).2
   omega
  have hplt:∀i,(mPl p ((others ps root).take i)).length<=48:=fun i=>by
   have:=gB (p:=p) (os:=(others ps root).take i) fun x hx=>(hpp x (List.mem_of_mem_take hx)).2
   have h2:((others ps root).take i).length<=8:=by rw [List.length_take];omega
   omega
  have hsz:∀n:Nat,n<=100->n < sizeLine:=fun n hn=>fits (by omega)
  refine⟨fun i m ys σ H=>m=(others ps root).length - i/\i<=(others ps root).length/\ys=(mPl p ((others ps root).take i)).map V.str/\H=H10/\∃x y,σ=[x,y,some (.ref d)],⟨(others ps root).length,by simp,Nat.zero_le _,rfl,rfl,_,_,rfl⟩,?_⟩
  rintro i mm ys σ H' ⟨rfl,hi,rfl,rfl,x,y,rfl⟩
  by_cases hlt:i < (others ps root).length
  ·refine .inr ⟨⟨_,f10,by simpa using hlt⟩,fun ys' σ' H''=>ys'=(mPl p ((others ps root).take (i + 1))).map V.str/\H''=H'/\∃x y,σ'=[x,y,some (.ref d)],fun ys' σ' H'' q=>⟨(others ps root).length - (i + 1),by omega,rfl,hlt,q.1,q.2.1,q.2.2⟩,fun z H'' yl=>?_⟩
   obtain⟨rfl,yl⟩:=yl
   obtain⟨pq,hp,rfl⟩:=yl _ f10
   rw [List.getElem?_map] at hp
   cases hc:(others ps root)[i]? with
   | none=>rw [hc] at hp;cases hp
   | some t =>
    rw [hc] at hp
    cases hp
    have htm:=List.mem_of_getElem? hc
    have gt:bu H'' d (.str t) (some (.int (p t))):=by
     rw [<- fM htm]
     exact .inl ⟨_,Sum.inr t,.inr ⟨o,f10⟩,rfl,rfl⟩
    unfold bH bQ
    obtain⟨hp0,hp6⟩:=hpp t htm
    refine bJ ⟨_,rfl,_,rfl,d,_,rfl,gt,p t,rfl,by omega,by omega,?_⟩
    have hti:=hplt i
    refine⟨fun j n ys σ H=>n=(p t).toNat - j/\j<=(p t).toNat/\ys=(mPl p ((others ps root).take i)++List.replicate j t).map V.str/\H=H''/\∃y,σ=[some (.str t),y,some (.ref d)],⟨(p t).toNat,by simp,Nat.zero_le _,by simp,rfl,_,rfl⟩,?_⟩
    rintro j n ys σ H3' ⟨rfl,hj,rfl,rfl,y',rfl⟩
    have hyl:((mPl p ((others ps root).take i)++List.replicate j t).map V.str).length<=100:=by rw [List.length_map,List.length_append,List.length_replicate];omega
    by_cases hjl:j < (p t).toNat
    ·refine .inr ⟨hjl,hsz _ hyl,fun ys' σ' H''=>ys'=(mPl p ((others ps root).take i)++List.replicate (j + 1) t).map V.str/\H''=H3'/\∃y,σ'=[some (.str t),y,some (.ref d)],fun ys' σ' H'' q=>⟨(p t).toNat - (j + 1),by omega,rfl,hjl,q.1,q.2.1,q.2.2⟩,fun z H'' yl=>?_⟩
     obtain⟨rfl,rfl⟩:=yl
     refine bJ ⟨_,rfl,?_,rfl,_,rfl⟩
     rw [List.replicate_succ',<- List.append_assoc,List.map_append (l₂:=[t])]
     rfl
    ·have ej:j=(p t).toNat:=by omega
     subst ej
     exact .inl ⟨Nat.le_refl _,Nat.le_of_lt (hsz _ hyl),by rw [qP hc],rfl,_,_,rfl⟩
  ·have ei:i=(others ps root).length:=by omega
   subst ei
   rw [List.take_length]
   refine .inl ⟨⟨_,f10,by simp⟩,Nat.le_of_lt (hsz _ (by rw [List.length_map];omega)),fun l1 hl1=>?_⟩
   have s11:=am (o:=.lst ((mPl p (others ps root)).map V.str)) (af.refl H') hl1
   have e11:upd H' l1 (.lst ((mPl p (others ps root)).map V.str)) l1=some (.lst ((mPl p (others ps root)).map V.str)):=ag
   generalize upd H' l1 (.lst ((mPl p (others ps root)).map V.str))=H11 at s11 e11 ⊢
   have j11:=s11 _ _ j10
   refine⟨l1,_,rfl,.inl ⟨SqL.of e11,fun tt htt=>?_⟩⟩
   have s12':=am (o:=.tup ((mPl p (others ps root)).map V.str)) (af.refl H11) htt
   have e12:upd H11 tt (.tup ((mPl p (others ps root)).map V.str)) tt=some (.tup ((mPl p (others ps root)).map V.str)):=ag
   generalize upd H11 tt (.tup ((mPl p (others ps root)).map V.str))=H12 at s12' e12 ⊢
   have s1012:=s11.trans s12'
   have hfm:∀x∈lts.filter (fun x=>bY rs p m x.2),x∈lts:=fun x hx=>(List.mem_filter.mp hx).1
   refine⟨_,rfl,ju,lts.filter (fun x=>bY rs p m x.2),rfl,s12' _ _ j11,fun x hx=>s1012 _ _ (A10 x (hfm x hx)),Nat.le_trans (List.length_filter_le _ _) hl255,fun x hx=>⟨hlen x (hfm x hx),fun y hy=>G.nm y (List.mem_filter.mp (hsub x (hfm x hx) y hy)).1⟩,fun gq H13 s13' hgq e13=>?_⟩
   refine⟨by show 2<=sizeLine;decide,fun tq htq=>?_⟩
   have s14':=am (o:=.tup [.ref tt,.ref gq]) (af.refl H13) htq
   have sAll:af H13 _:=s14'
   refine k tq tt gq _ _ (s10.trans (s1012.trans (s13'.trans s14'))) ag (s14' _ _ (s13' _ _ e12)) (s10.free (s1012.free hgq)) (s14' _ _ e13) (fun x hx=>s14' _ _ (s13' _ _ (s1012 _ _ (A10 x (hfm x (List.mem_filter.mp hx).1))))) ?_
   unfold mGr mJs
   rw [hpe,<- e2,List.filter_map,List.filter_map]
   rfl
end
theorem eu (l:List Str):∀rs:List (Addr×Row),(cnt rs l:Int)=Mend.dS (rs.map (·.2)) (Mend.inL l)
 | []=>rfl
 | r::rs=>by
  have ih:=eu l rs
  rw [cnt_cons]
  unfold Mend.dS at ih ⊢
  rw [List.map_cons,List.map_cons,List.sum_cons,<- ih]
  have e:(Mend.inL l r.2.2.2 && !Mend.inL l r.2.2.1)=lead l r:=rfl
  rw [e]
  unfold ind
  cases lead l r <;> simp
theorem cP {ps:List Str}{root x:Str}:x∈others ps root ↔ x∈ps/\x≠root:=by
 unfold others
 rw [List.mem_filter]
 simp
theorem m3 {ps:List Str}{root:Str} (hn:ps.Nodup) (hr:root∈ps):(others ps root).length + 1<=ps.length:=by
 have:(root::others ps root).length<=ps.length:=dX (List.nodup_cons.mpr ⟨fun h=>(cP.mp h).2 rfl,eJ root hn⟩) fun x hx=>by
  rcases List.mem_cons.mp hx with rfl | h
  ·exact hr
  ·exact (cP.mp h).1
 simpa using this
theorem lD {p:Str->Int}:∀{os:List Str},(∀x∈os,0<=p x)->((mPl p os).length:Int)=(os.map p).sum
 | [],_=>rfl
 | x::r,h=>by
  have ih:=lD (p:=p) (os:=r) fun y hy=>h y (List.mem_cons_of_mem _ hy)
  have hx:=h x List.mem_cons_self
  unfold mPl at ih ⊢
  rw [List.map_cons,List.flatten_cons,List.length_append,List.length_replicate,List.map_cons,List.sum_cons,<- ih]
  omega
noncomputable def Apart (gs:List (List Str)):Prop:=gs.Pairwise fun a b=>∀x∈a,x∉b
structure jj (ps:List Str) (rs:List (Addr×Row)) (root:Str) (m:Int):Prop where
 bd:∀x∈others ps root,0<=bx rs (others ps root) m x/\bx rs (others ps root) m x<=6
 en:∀l∈ay (others ps root),m<=(cnt rs l:Int) + (l.map (bx rs (others ps root) m)).sum
 gl:∀g∈mGr rs (others ps root) m,g∈ay (others ps root)/\(cnt rs g:Int) < m
 ap:Apart (mGr rs (others ps root) m)
 sm:((mGr rs (others ps root) m).map fun g=>m - (cnt rs g:Int)).sum=((mPl (bx rs (others ps root) m) (others ps root)).length:Int)
theorem mB {js:List (List Str)}{l:List Str} (hl:l∈js):grB js l=true ↔ Mend.Gr js l:=by
 unfold grB Mend.Gr
 rw [decide_eq_true_iff,List.length_eq_zero_iff,List.filter_eq_nil_iff]
 constructor
 ·intro h
  refine⟨hl,fun o ho hs=>?_⟩
  by_cases c:o=l
  ·exact c
  ·refine absurd ?_ (h o ho)
   unfold cv
   rw [Bool.and_eq_true,List.all_eq_true]
   exact⟨by simp [c],fun x hx=>decide_eq_true (hs x hx)⟩
 ·rintro⟨_,h⟩ o ho hw
  unfold cv at hw
  rw [Bool.and_eq_true,List.all_eq_true] at hw
  have:=h o ho fun x hx=>of_decide_eq_true (hw.2 x hx)
  simp [this] at hw
theorem tP {ps:List Str}{rs:List (Addr×Row)}{root:Str}{m:Int} (G:Good ps (rs.map (·.2))) (hroot:root∈ps) (h0:0<=m) (h6:m<=6):jj ps rs root m:=by
 have hnd:ps.Nodup:=dR G.so
 have hno:=eJ root hnd
 have hrn:root∉others ps root:=fun h=>(cP.mp h).2 rfl
 have hR:∀r∈rs.map (·.2),r.2.1∈root::others ps root/\r.2.2∈root::others ps root:=fun r hr=>by
  have q:∀x,x∈ps->x∈root::others ps root:=fun x hx=>by
   by_cases c:x=root
   ·rw [c];exact List.mem_cons_self
   ·exact List.mem_cons_of_mem _ (cP.mpr ⟨hx,c⟩)
  obtain⟨_,a,b,_⟩:=G.rn r hr
  exact⟨q _ a,q _ b⟩
 have sub:∀l∈ay (others ps root),∀x∈l,x∈others ps root:=fun l hl x hx=>(cQ hl).subset hx
 have L:Mend.jJ (others ps root) root (ay (others ps root)):=⟨sub,fun l hl=>hno.sublist (cQ hl),fun l hl=>((cy hno).mp hl).2,fun S hS=>by
  refine⟨(others ps root).filter S,(cy hno).mpr ⟨List.filter_sublist,fun z=>?_⟩,fun x hx=>⟨fun h=>(List.mem_filter.mp h).2,fun h=>List.mem_filter.mpr ⟨hx,h⟩⟩⟩
  obtain⟨_,v,hv,hSv⟩:=hS
  have:=List.mem_filter.mpr ⟨hv,hSv⟩
  rw [z] at this
  cases this⟩
 have esh:(fun l=>m - (cnt rs l:Int))=fun l=>m - Mend.dS (rs.map (·.2)) (Mend.inL l):=by
  funext l;rw [eu]
 have key:=Mend.pC (mx:=cE) (many:=m) (fun l hl=>r8 hl) (fun l x hx=>sY hx) hno hrn hR L (others ps root) [] (fun _=>m) (fun v hv=>hv) (fun v hv=>nomatch hv) hno (Mend.dj.start h0) (fun v hv=>nomatch hv)
 rw [<- esh,List.nil_append] at key
 have key':Mend.dj (others ps root) root (rs.map (·.2)) m (bx rs (others ps root) m)/\∀v∈others ps root,0 < bx rs (others ps root) m v->∃S,Mend.Lot (others ps root) root S/\S v=true/\Mend.Tight (others ps root) (rs.map (·.2)) m (bx rs (others ps root) m) S:=key
 clear key
 obtain⟨F,T⟩:=key'
 have hgr:mGr rs (others ps root) m=((ay (others ps root)).filter (bY rs (bx rs (others ps root) m) m)).filter (grB ((ay (others ps root)).filter (bY rs (bx rs (others ps root) m) m))):=rfl
 generalize hp:bx rs (others ps root) m=p at F T hgr
 have hps:∀l∈ay (others ps root),(l.map p).sum=Mend.pS (others ps root) p (Mend.inL l):=fun l hl=>Mend.jk p hno (L.nd l hl) (L.sub l hl)
 let J:Mend.Lt->Prop:=fun S=>Mend.Lot (others ps root) root S/\Mend.Tight (others ps root) (rs.map (·.2)) m p S/\0 < m - Mend.dS (rs.map (·.2)) S
 generalize hjs:(ay (others ps root)).filter (bY rs p m)=js at hgr
 have mem_js:∀{l:List Str},l∈js ↔ l∈ay (others ps root)/\Mend.pS (others ps root) p (Mend.inL l)=m - Mend.dS (rs.map (·.2)) (Mend.inL l)/\0 < m - Mend.dS (rs.map (·.2)) (Mend.inL l):=fun {l}=>by
  rw [<- hjs,List.mem_filter]
  unfold bY
  constructor
  ·rintro⟨hl,q⟩
   rw [Bool.and_eq_true,decide_eq_true_iff,decide_eq_true_iff,hps l hl,eu] at q
   exact⟨hl,q⟩
  ·rintro⟨hl,q⟩
   refine⟨hl,?_⟩
   rw [Bool.and_eq_true,decide_eq_true_iff,decide_eq_true_iff,hps l hl,eu]
   exact q
 have same:∀S,Mend.Lot (others ps root) root S->∃l∈ay (others ps root),(∀x∈others ps root,(x∈l ↔ S x=true))/\Mend.dS (rs.map (·.2)) S=Mend.dS (rs.map (·.2)) (Mend.inL l)/\Mend.pS (others ps root) p S=Mend.pS (others ps root) p (Mend.inL l):=fun S hS=>by
  obtain⟨l,hl,h⟩:=L.all S hS
  have e:∀x∈others ps root,S x=Mend.inL l x:=fun x hx=>by
   show S x=decide (x∈l)
   cases c:S x with
   | true=>exact (decide_eq_true ((h x hx).mpr c)).symm
   | false=>exact (decide_eq_false fun z=>by rw [(h x hx).mp z] at c;cases c).symm
  refine⟨l,hl,h,Mend.qH hR ?_ e,Mend.rY e⟩
  rw [hS.1];exact (decide_eq_false fun z=>hrn (L.sub l hl root z)).symm
 have Fm:Mend.Fam (others ps root) js J:=by
  refine⟨fun l hl=>L.sub l (mem_js.mp hl).1,fun l hl=>L.nd l (mem_js.mp hl).1,fun l hl o ho he=>?_,fun l hl=>?_,fun S hS=>?_⟩
  ·have so:(others ps root).Pairwise nlt:=G.so.sublist List.filter_sublist
   exact kD (so.sublist (cQ (mem_js.mp hl).1)) (so.sublist (cQ (mem_js.mp ho).1)) he
  ·obtain⟨a,b,c⟩:=mem_js.mp hl
   exact⟨L.lot hrn a,b,c⟩
  ·obtain⟨a,b,c⟩:=hS
   obtain⟨l,hl,h,e1,e2⟩:=same S a
   refine⟨l,mem_js.mpr ⟨hl,?_,?_⟩,h⟩
   ·rw [<- e2,<- e1];exact b
   ·rw [<- e1];exact c
 have hu:∀S T',J S->J T'->(∃v∈others ps root,S v=true/\T' v=true)->J (Mend.un S T'):=fun S T' hS hT hv=>by
  obtain⟨a,b⟩:=F.union hS.1 hT.1 hS.2.1 hT.2.1 hv
  refine⟨a,b,?_⟩
  have q:Mend.pS (others ps root) p S<=Mend.pS (others ps root) p (Mend.un S T'):=Mend.gJ fun v hv=>by
   have n:=F.nn v hv
   show (if S v=true then p v else 0)<=if (S v || T' v)=true then p v else 0
   cases S v <;> cases T' v <;> simp <;> omega
  have h1:Mend.pS (others ps root) p S=_:=hS.2.1
  have h2:Mend.pS (others ps root) p (Mend.un S T')=_:=b
  have:=hS.2.2
  omega
 have hG:∀g,g∈mGr rs (others ps root) m ↔ Mend.Gr js g:=fun g=>by
  rw [hgr,List.mem_filter]
  constructor
  ·rintro⟨a,b⟩;exact (mB a).mp b
  ·intro h;exact⟨h.1,(mB h.1).mpr h⟩
 have ndG:(mGr rs (others ps root) m).Nodup:=by
  rw [hgr,<- hjs]
  exact ((fD hno).filter _).filter _
 have ap:∀g∈mGr rs (others ps root) m,∀g'∈mGr rs (others ps root) m,∀x,x∈g->x∈g'->g=g':=fun g hg g' hg' x hx hx'=>Mend.Gr.apart Fm hu ((hG g).mp hg) ((hG g').mp hg') hx hx'
 have bd:∀x∈others ps root,0<=p x/\p x<=6:=fun x hx=>by
  have n:=F.nn x hx
  refine⟨n,?_⟩
  by_cases c:0 < p x
  ·obtain⟨S,hS,hSx,ht⟩:=T x hx c
   have q:=Mend.vF F.nn hx hSx
   have ht':Mend.pS (others ps root) p S=_:=ht
   have:=Mend.vy (rs.map (·.2)) S
   omega
  ·omega
 refine⟨?_,fun l hl=>?_,fun g hg=>?_,?_,?_⟩
 ·rw [hp];exact bd
 ·rw [hp,hps l hl,eu]
  have:=F.ok _ (L.lot hrn hl)
  omega
 ·obtain⟨a,_⟩:=(hG g).mp hg
  obtain⟨b,_,c⟩:=mem_js.mp a
  refine⟨b,?_⟩
  rw [eu];omega
 ·refine ndG.imp_of_mem fun {a b} ha hb hab x hx hx'=>hab (ap a ha b hb x hx hx')
 ·rw [hp,lD fun x hx=>(bd x hx).1,<- Mend.wO (vs:=others ps root) (p:=p) ndG ap F.nn fun v hv hpv=>?_]
  ·refine Mend.eA fun g hg=>?_
   obtain⟨a,_⟩:=(hG g).mp hg
   obtain⟨_,c,_⟩:=mem_js.mp a
   rw [c,eu]
  ·obtain⟨S,hS,hSv,ht⟩:=T v hv hpv
   obtain⟨l,hl,h,e1,e2⟩:=same S hS
   have ht':Mend.pS (others ps root) p S=_:=ht
   have q:=Mend.vF F.nn hv hSv
   have hlj:l∈js:=mem_js.mpr ⟨hl,by rw [<- e2,<- e1];exact ht,by rw [<- e1];omega⟩
   obtain⟨g,hg,hs⟩:=Mend.Gr.above Fm _ l hlj (Nat.le_refl _)
   exact⟨g,(hG g).mpr hg,hs v ((h v hv).mpr hSv)⟩
noncomputable abbrev tot (gs:List (List Str)) (rs:List (Addr×Row)):Nat:=(gs.map fun g=>cnt rs g).sum
theorem gh (r:Addr×Row) (rs:List (Addr×Row)):∀gs:List (List Str),tot gs (r::rs)=(gs.map fun g=>ind (lead g r)).sum + tot gs rs
 | []=>rfl
 | g::gs=>by
  have ih:=gh r rs gs
  unfold tot at ih ⊢
  rw [List.map_cons,List.sum_cons,ih,cnt_cons,List.map_cons,List.sum_cons,List.map_cons,List.sum_cons]
  omega
theorem mL {r:Addr×Row}:∀{gs:List (List Str)},Apart gs->(gs.map fun g=>ind (lead g r)).sum<=1
 | [],_=>by simp
 | g::gs,h=>by
  obtain⟨h1,h2⟩:=List.pairwise_cons.mp h
  rw [List.map_cons,List.sum_cons]
  cases c:lead g r with
  | false=>have:=mL (r:=r) h2;show 0 + _<=1;omega
  | true =>
   have z:(gs.map fun g=>ind (lead g r)).sum=0:=by
    have q:∀x∈gs,ind (lead x r)=0:=fun x hx=>by
     have:lead x r=false:=by
      cases d:lead x r with
      | false=>rfl
      | true=>exact absurd (dq.mp d).1 (h1 x hx _ (dq.mp c).1)
     rw [this];rfl
    rw [List.map_congr_left q]
    clear q h1 h2 h
    induction gs with
    | nil=>rfl
    | cons y t ih=>rw [List.map_cons,List.sum_cons,ih]
   rw [z]
   exact Nat.le_refl 1
theorem sE {gs:List (List Str)} (h:Apart gs) {rs rs0:List (Addr×Row)} (s:rs.Sublist rs0):tot gs rs0 + rs.length<=tot gs rs + rs0.length:=by
 induction s with
 | slnil=>exact Nat.le_refl _
 | cons r _ ih =>
  have:=mL (r:=r) h
  rw [gh,List.length_cons];omega
 | cons_cons r _ ih =>
  rw [gh,gh,List.length_cons,List.length_cons];omega
theorem tZ {gs:List (List Str)}{rs:List (Addr×Row)}{t:Nat}:(∀g∈gs,t<=cnt rs g)->t * gs.length<=tot gs rs:=by
 induction gs with
 | nil=>intro _;simp
 | cons g gs ih =>
  intro h
  have a:=ih fun x hx=>h x (List.mem_cons_of_mem _ hx)
  have b:=h g List.mem_cons_self
  unfold tot at a ⊢
  rw [List.map_cons,List.sum_cons,List.length_cons,Nat.mul_succ]
  omega
theorem mv {rs:List (Addr×Row)}{t:Nat}{a:Str}:∀{gs:List (List Str)},Apart gs->(∀g∈gs,a∉g->t<=cnt rs g)->t * (gs.length - 1)<=tot gs rs
 | [],_,_=>by simp
 | g::gs,hA,h=>by
  obtain⟨h1,h2⟩:=List.pairwise_cons.mp hA
  have es:tot (g::gs) rs=cnt rs g + tot gs rs:=by unfold tot;rw [List.map_cons,List.sum_cons]
  rw [es,List.length_cons,Nat.add_sub_cancel]
  by_cases c:a∈g
  ·have:=tZ (gs:=gs) (rs:=rs) (t:=t) fun x hx=>h x (List.mem_cons_of_mem _ hx) (h1 x hx a c)
   omega
  ·have q:=mv h2 fun x hx=>h x (List.mem_cons_of_mem _ hx)
   have b:=h g List.mem_cons_self c
   cases gs with
   | nil=>simp
   | cons y r =>
    rw [List.length_cons,Nat.add_sub_cancel] at q
    rw [List.length_cons,Nat.mul_succ]
    omega
theorem kl {os:List Str}{gs:List (List Str)} (hA:Apart gs) (h:∀g∈gs,g≠[]/\∀x∈g,x∈os):gs.length<=os.length:=by
 have hd:∀g∈gs,g.headD ⟨#[]⟩∈g:=fun g hg=>by
  cases e:g with
  | nil=>exact absurd e (h g hg).1
  | cons x r=>exact List.mem_cons_self
 have:=dX (a:=gs.map fun g=>g.headD ⟨#[]⟩) (b:=os) (by
  unfold List.Nodup
  rw [List.pairwise_map]
  exact hA.imp_of_mem fun {a b} ha hb hab e=>hab _ (hd a ha) (by rw [e];exact hd b hb)) (fun x hx=>by
  obtain⟨g,hg,rfl⟩:=List.mem_map.mp hx
  exact (h g hg).2 _ (hd g hg))
 rwa [List.length_map] at this
theorem mw (m:Int) (rs:List (Addr×Row)):∀gs:List (List Str),(gs.map fun g=>m - (cnt rs g:Int)).sum=m * gs.length - (tot gs rs:Int)
 | []=>by simp [tot]
 | g::gs=>by
  have ih:=mw m rs gs
  have es:tot (g::gs) rs=cnt rs g + tot gs rs:=by unfold tot;rw [List.map_cons,List.sum_cons]
  rw [List.map_cons,List.sum_cons,ih,es,List.length_cons]
  rw [Int.natCast_add,Int.mul_add,Int.natCast_add]
  omega
theorem rS {ps:List Str}{rs rs0:List (Addr×Row)}{root:Str}{m:Int} (hnd:ps.Nodup) (h8:ps.length<=8) (hroot:root∈ps) (h0:0<=m) (h6:m<=6) (M:jj ps rs root m) (hs:rs.Sublist rs0) (hF:Fed ps (rs0.map (·.2))) (h40:rs0.length<=40) :
  rs.length + (mPl (bx rs (others ps root) m) (others ps root)).length<=60:=by
 have hno:=eJ root hnd
 obtain⟨t,a,t6,t30,tl,hE⟩:=hF
 have e:=M.sm
 rw [mw] at e
 have A:=M.ap
 have glots:∀g∈mGr rs (others ps root) m,g.Sublist (others ps root)/\g≠[]:=fun g hg=>(cy hno).mp (M.gl g hg).1
 generalize mGr rs (others ps root) m=gs at e A glots
 have k1:=kl A (os:=others ps root) fun g hg=>⟨(glots g hg).2,fun x hx=>(glots g hg).1.subset hx⟩
 have k2:=m3 hnd hroot
 have c1:=sE A hs
 have c2:=mv (rs:=rs0) (t:=t) (a:=a) A fun g hg ha=>by
  have q:=hE (fun x=>decide (x∈g)) (decide_eq_false ha) (by
   cases eg:g with
   | nil=>exact absurd eg (glots g hg).2
   | cons x r=>exact⟨x,(cP.mp ((glots g hg).1.subset (by rw [eg];exact List.mem_cons_self))).1,by simp⟩)
  rw [List.filter_map,List.length_map] at q
  exact q
 rw [List.length_map] at tl
 have hk:gs.length<=7:=by omega
 generalize mPl (bx rs (others ps root) m) (others ps root)=pl at e ⊢
 generalize tot gs rs=x at e c1
 generalize tot gs rs0=y at c1 c2
 generalize gs.length=k at e k1 c2 hk
 generalize (others ps root).length=n at k1 k2
 have hmk:m * (k:Int)<=6 * k:=Int.mul_le_mul_of_nonneg_right h6 (by omega)
 have hn:ps.length - 1<=7:=by omega
 have hkn:k<=ps.length - 1:=by omega
 generalize ps.length - 1=N at tl t30 hn hkn
 generalize m * (k:Int)=mk at e hmk
 have ht:t=0\/t=1\/t=2\/t=3\/t=4\/t=5\/t=6:=by omega
 rcases ht with rfl | rfl | rfl | rfl | rfl | rfl | rfl <;> omega
theorem bv.kp {H H':Hp}{p v pa ra:Addr}{ps:List Str}{rs:List (Addr×Row)} (W:bv H v pa ra ps rs) (k:Kp [p] H H') (hp:Pot H p):bv H' v pa ra ps rs:=⟨k.tup hp W.tp,k.tup hp W.pl,k.tup hp W.rl,fun r hr=>k.tup hp (W.rows r hr)⟩
theorem ke {α β:Type} (f:α->β):∀(l:List α) (i:Nat),(l.map f).eraseIdx i=(l.eraseIdx i).map f
 | [],i=>by simp
 | x::t,0=>rfl
 | x::t,i + 1=>by
  show f x::(t.map f).eraseIdx i=f x::(t.eraseIdx i).map f
  rw [ke f t i]
theorem Good.sub {ps:List Str}{rs rs0:List (Addr×Row)} (G:Good ps (rs0.map (·.2))) (s:rs.Sublist rs0):Good ps (rs.map (·.2)) :=
 ⟨G.ne,G.nm,G.so,fun r hr=>G.rn r ((s.map (fun x:Addr×Row=>x.2)).subset hr),G.rso.sublist ((s.map (fun x:Addr×Row=>x.2)).map (fun x:Row=>x.1)),G.pz,Nat.le_trans (s.map (fun x:Addr×Row=>x.2)).length_le G.rz⟩
theorem iW (b:Bool) {r:Int} (h0:0<=r) (h:r<=20):-(2 ^ 62)<=r * (if b then 1 else 0)/\r * (if b then 1 else 0) < 2 ^ 62/\(r * (if b then 1 else 0)).toNat<=r.toNat:=by
 cases b
 ·exact⟨by simp,by simp,by simp⟩
 ·exact⟨by simp;omega,by simp;omega,by simp⟩
section
variable {P:Program}{w:World}{K:PySem.W.Frag}{mg:Str->Option Value}{base:Heap}
noncomputable def mQ:Sp:=fun vs H Q _=>∃(p u pa ra:Addr) (ps:List Str) (rs:List (Addr×Row)),vs=[.ref p,.ref u]/\Pot H p/\bv H u pa ra ps rs/\rs.length<=40 /\
 ∀(v ra':Addr) (rs':List (Addr×Row)) (H':Hp),Pot H' p->bv H' v pa ra' ps rs'->rs'.Sublist rs->Kp [p] H H'->Q (.ref v) H'
noncomputable abbrev N46:List Str:=["_law_pot_here","_law_web_here","_law_rows","_law_k"]
theorem jH:aP N46 ["_law_pot_here","_law_web_here"] (aC (top 46)):=⟨rfl,rfl,rfl,by decide +kernel,rfl,by decide +kernel,by decide +kernel⟩
theorem sx {f:Addr}{fd:FuncData} (F:Fun K "_law_thinned" "_law_thinned" (top 46) f fd) (B:Bl mg) (Ft:Fn P w K mg base 1 "_law_take" ["_law_pot_here","_law_many"] dz):aG P w K mg base CX0 2 f fd ["_law_pot_here","_law_web_here"] mQ:=by
 refine F.ok jH (fun vs H Q E h=>?_) (fun cdv A outer s H vs Q E hr h=>?_)
 ·obtain⟨p,u,pa,ra,ps,rs,rfl,_⟩:=h
  rfl
 ·obtain⟨p,u,pa,ra,ps,rs,rfl,hp,W,h40,k⟩:=h
  refine⟨_,ao (aL (i:=2) jH.nd rfl (Or.inl rfl) (cb fv rfl B.list eS (aa (aD aW (pv 1) ai (fun _ _=>rfl)) ae)))
   (ao (bP PassesOwn.never rfl (cW rfl B.range (aa (aB eU (aw Ft hr (aa (pv 0) (aa (aB bU (aB fO (aA bA rfl B.len PySem.boot_len (aa (pv 2) ae)) ai) ai) ae))) (cb ko rfl B.int jn (aa (b4 dE (aw Ft hr (aa (pv 0) (aa ai ae))) ai (ba _)) ae))) ae)) (aX (i:=3) jH.nd rfl (Or.inl rfl))
    (ax (bT (cT PySem.F.plainAttrs_list PySem.F.slot_list_pop PySem.F.type_list_pop rj (pv 2) (aa (aw Ft hr (aa (pv 0) (aa (aA bA rfl B.len PySem.boot_len (aa (pv 2) ae)) ae))) ae)))))
   (ax (aI (bV (aa (aD aW (pv 1) ai (fun _ _=>rfl)) (aa (cb eG rfl B.tuple cz (aa (pv 2) ae)) ae)))))),?_⟩
  refine⟨_,rfl,aH (j:=1) (.inr (SqT.of W.tp)) rfl rfl ⟨ra,_,rfl,.inr (SqT.of W.rl),fun l hl=>?_⟩⟩
  have nlp:=hp.ne_new hl
  have P1:=hp.new (o:=.lst (ar rs)) hl
  have K1:=(Kp.refl [p] H).new (o:=.lst (ar rs)) hl
  have l1:upd H l (.lst (ar rs)) l=some (.lst (ar rs)):=ag
  generalize upd H l (.lst (ar rs))=H1 at P1 K1 l1 ⊢
  have hrl:(ar rs).length=rs.length:=by simp
  refine⟨_,rfl,_,rfl,l,_,rfl,.inl (SqL.of l1),_,_,rfl,rfl,⟨by decide,by decide⟩,_,_,rfl,rfl,p,_,rfl,P1,by omega,by omega,fun r1 H2 a0 a1 P2 K2'=>⟨_,rfl,p,3,rfl,P2,by decide,by decide,fun r2 H3 b0 b1 P3 K3'=>⟨rfl,.inr ⟨_,rfl,_,_,rfl,rfl,.inl ⟨by omega,by omega⟩,?_⟩⟩⟩⟩
  have K3:=(K1.trans K2').trans K3'
  have l3:=K3'.at nlp (K2'.at nlp l1)
  refine⟨_,rfl,(iW _ a0 (show r1<=20 by omega)).1,(iW _ a0 (show r1<=20 by omega)).2.1,fH (fun i σ H4=>∃(rr:List (Addr×Row)) (g:Option V),σ=[some (.ref p),some (.ref u),some (.ref l),g]/\Pot H4 p/\H4 l=some (.lst (ar rr))/\rr.Sublist rs/\rr.length + i=rs.length/\Kp [p] H H4)
   ⟨rs,none,rfl,P3,l3,List.Sublist.refl _,rfl,K3⟩ ?_ ?_⟩
  ·rintro i σ H4 hi ⟨rr,g,rfl,P4,l4,hs,hn,K4⟩
   have hlen:(ar rr).length=rr.length:=by simp
   have hpos:0 < rr.length:=by
    have:=Nat.lt_of_lt_of_le hi (iW _ a0 (show r1<=20 by omega)).2.2
    omega
   refine⟨_,rfl,.inl ⟨rfl,_,SqL.of l4⟩,_,rfl,_,rfl,l,_,rfl,.inl (SqL.of l4),p,_,rfl,P4,by omega,by omega,fun r H5 c0 c1 P5 K5'=>?_⟩
   have l5:=K5'.at nlp l4
   have hlt:r.toNat < rr.length:=by omega
   have hx:(ar rr)[r.toNat]?=some (.ref rr[r.toNat].1):=by rw [List.getElem?_map,List.getElem?_eq_getElem hlt];rfl
   have hsi:seqIndex? r (ar rr).length=some r.toNat:=seqIndex_of c0 c1
   refine⟨l,_,r,r.toNat,_,rfl,rfl,l5,by omega,by omega,hsi,hx,?_⟩
   rw [ke]
   refine⟨rr.eraseIdx r.toNat,_,rfl,P5.upd nlp,ag,(List.eraseIdx_sublist _ _).trans hs,by rw [List.length_eraseIdx,if_pos hlt];omega,fun b o q nb=>?_⟩
   rw [aj (aV q hl)]
   exact (K4.trans K5') b o q nb
  ·rintro σ H4 ⟨rr,g,rfl,P4,l4,hs,hn,K4⟩
   have W4:bv H4 u pa ra ps rs:=W.kp K4 hp
   refine⟨_,rfl,aH (j:=0) (.inr (SqT.of W4.tp)) rfl rfl ⟨_,rfl,l,_,rfl,.inl ⟨SqL.of l4,fun t ht=>?_⟩⟩⟩
   have s5:=am (o:=.tup (ar rr)) (af.refl H4) ht
   refine⟨by show 2<=sizeLine;decide,fun v hv=>?_⟩
   have s6:=am (o:=.tup [.ref pa,.ref t]) s5 hv
   have htv:t≠v:=fun z=>by rw [<- z,ag] at hv;cases hv
   exact k v t rr _ (P4.keep fun o e=>s6 _ _ e) ⟨ag,s6 _ _ W4.pl,by rw [aj htv,ag],fun r hr=>s6 _ _ (W4.rows r (hs.subset hr))⟩ hs (K4.of_same s6)
end
noncomputable def qn (k:Nat):Str:=Str.ofString "qqqqqq"++(⟨#[97 + k / 26]⟩:Str)++(⟨#[97 + k % 26]⟩:Str)
theorem iT (k:Nat):(qn k).cps.toList=[113,113,113,113,113,113,97 + k / 26,97 + k % 26]:=by
 unfold qn
 show ((Str.ofString "qqqqqq").cps++#[97 + k / 26]++#[97 + k % 26]).toList=_
 rw [show (Str.ofString "qqqqqq").cps=#[113,113,113,113,113,113] from by decide +kernel]
 simp
theorem tU {k:Nat} (h:k < 90):aE (qn k):=aE.of_codes (iT k) (by simp) (by simp) fun c hc=>by
 simp only [List.mem_cons,List.not_mem_nil,or_false] at hc
 omega
theorem uh {i j:Nat} (h:qn i=qn j):i=j:=by
 have e:(qn i).cps.toList=(qn j).cps.toList:=by rw [h]
 rw [iT,iT] at e
 simp only [List.cons.injEq,true_and,and_true] at e
 omega
noncomputable def qns:List Str:=(List.range 90).map qn
theorem ng:qns.Nodup:=by
 unfold qns List.Nodup
 rw [List.pairwise_map]
 exact List.nodup_range.imp fun {a b} h e=>h (uh e)
theorem oJ {t:List Str}:∀{l:List Str},l.Nodup->t.Nodup->l.length<=(l.filter fun x=>!decide (x∈t)).length + t.length:=by
 intro l hl ht
 have h1:l.length=(l.filter fun x=>!decide (x∈t)).length + (l.filter fun x=>decide (x∈t)).length:=by
  clear hl
  induction l with
  | nil=>rfl
  | cons x r ih =>
   rw [List.filter_cons,List.filter_cons]
   by_cases c:x∈t
   ·simp [c];omega
   ·simp [c];omega
 have h2:=dX (a:=l.filter fun x=>decide (x∈t)) (b:=t) (hl.filter _) fun x hx=>of_decide_eq_true (List.mem_filter.mp hx).2
 omega
section
variable {P:Program}{w:World}{K:PySem.W.Frag}{mg:Str->Option Value}{base:Heap}
noncomputable def mK:Sp:=fun vs H Q _=>∃(v pa ra a:Addr) (ps:List Str) (rs:List (Addr×Row)) (root:Str) (pl:List Str),vs=[.ref v,.str root,.ref a]/\bv H v pa ra ps rs/\Good ps (rs.map (·.2))/\rs.length<=40/\root∈ps/\H a=some (.tup (pl.map V.str))/\(∀x∈pl,x∈ps/\x≠root)/\pl.length<=48/\rs.length + pl.length<=60 /\
 ∀(v' ra':Addr) (rs' new:List (Addr×Row)) (H':Hp),af H H'->bv H' v' pa ra' ps rs'->rs'.Perm (rs++new)->new.map (fun r=>r.2.2)=pl.map (fun x=>(root,x))->Good ps (rs'.map (·.2))->Q (.ref v') H'
noncomputable abbrev N47:List Str:=["_law_web_here","_law_root","_law_places","_law_letters","_law_taken","_law_names_here","_law_rows"]
theorem fm:aP N47 ["_law_web_here","_law_root","_law_places"] (aC (top 47)):=⟨rfl,rfl,rfl,by decide +kernel,rfl,by decide +kernel,by decide +kernel⟩
theorem sg {f:Addr}{fd:FuncData} (F:Fun K "_law_with" "_law_with" (top 47) f fd) (B:Bl mg):aG P w K mg base CX0 1 f fd ["_law_web_here","_law_root","_law_places"] mK:=by
 refine F.ok fm (fun vs H Q E h=>?_) (fun cdv A outer s H vs Q E hr h=>?_)
 ·obtain⟨v,pa,ra,a,ps,rs,root,pl,rfl,_⟩:=h
  rfl
 ·obtain⟨v,pa,ra,a,ps,rs,root,pl,rfl,W,G,h40,hroot,ha,hpl,h48,h60,k⟩:=h
  refine' ⟨_,?d0,?main⟩
  case' d0=>refine' ao (aL (i:=3) fm.nd rfl (Or.inr rfl) ef) ?d1
  case' d1=>refine' ao (aL (i:=4) fm.nd rfl (Or.inr rfl) (bp (N:=["_law_row"]) (ix:=[none]) ⟨rfl,rfl,rfl,by decide⟩ rfl (bW (aD aW (pv 0) ai (fun _ _=>rfl))) (fun _ _ _ _=>aQ 0 (by decide) rfl rfl) (fun _ _ _ _=>bc) (fun _ _ _ _=>aD (b7 K) (pv 0) ai (fun _ _=>rfl)))) ?d2
  case' d2=>refine' ao (cX (i:=5) (N:=["_law_k","_law_letters"]) (ix:=[none,some 3]) fm.nd rfl (Or.inl rfl) ⟨rfl,rfl,rfl,by decide⟩ rfl (cW rfl B.range (aa ai ae)) (fun _ _ _ _=>aQ 0 (by decide) rfl rfl) (fun _ _ _ _=>bc)
   (fun _ _ _ _=>aB fW (aB fW ef (aD (b7 K) (pv 1) (aB fO (pv 0) ai) (fun _ _=>rfl))) (aD (b7 K) (pv 1) (aB da (pv 0) ai) (fun _ _=>rfl)))) ?d3
  case' d3=>refine' ao (cX (i:=5) (N:=["_law_name","_law_taken"]) (ix:=[none,some 4]) fm.nd rfl (Or.inl rfl) ⟨rfl,rfl,rfl,by decide⟩ rfl (bg (pv 5)) (fun _ _ _ _=>aQ 0 (by decide) rfl rfl) (fun _ _ _ _=>cu (aZ (fC K) (pv 0) (pv 1) (by with_unfolding_all rfl))) (fun _ _ _ _=>pv 0)) ?d4
  case' d4=>refine' ao (cX (i:=6) (N:=["_law_name","_law_place","_law_root"]) (ix:=[none,none,some 1]) fm.nd rfl (Or.inl rfl) ⟨rfl,rfl,rfl,by decide⟩ rfl (vH rfl B.zip (aa (pv 5) (aa (pv 2) ae)))
   (fun _ _ _ _=>i5 K rfl (n:=2) (bB (aQ 0 (by decide) rfl rfl) (bB (aQ 1 (by decide) rfl rfl) cI))) (fun _ _ _ _=>bc) (fun _ _ _ _=>bV (aa (pv 0) (aa (pv 2) (aa (pv 1) ae))))) ?d5
  case d5=>exact ax (aI (bV (aa (aD aW (pv 0) ai (fun _ _=>rfl)) (aa (cb eG rfl B.tuple cz (aa (aA jP rfl B.sorted fK (aa (aB ez (cb fv rfl B.list eS (aa (aD aW (pv 0) ai (fun _ _=>rfl)) ae)) (pv 6)) ae)) ae)) ae))))
  case main =>
  have hrl:(ar rs).length=rs.length:=by simp
  have hnd:(nms rs).Nodup:=by
   have:=dR G.rso
   rw [List.map_map] at this
   exact this
  refine⟨_,rfl,aH (j:=1) (.inr (SqT.of W.tp)) rfl rfl ⟨ra,rfl,⟨_,SqT.of W.rl⟩,dU (xs:=ar rs) (fits (by omega)) (fun i ys σ H1=>ys=((rs.take i).map fun r=>r.2.1).map V.str/\H1=H/\∃x,σ=[x]) ⟨rfl,rfl,_,rfl⟩
   (fun i ys σ H1 _ q=>⟨by rw [q.1,List.length_map,List.length_map,List.length_take];omega,by rw [q.2.1];exact SqT.of W.rl⟩) ?_ ?_⟩⟩
  ·rintro i x ys σ H1 hx ⟨rfl,rfl,g,rfl⟩
   obtain⟨r,hr',rfl⟩:=dm hx
   refine⟨_,rfl,aH (j:=0) (.inr (SqT.of (W.rows r (List.mem_of_getElem? hr')))) rfl rfl ⟨?_,rfl,_,rfl⟩⟩
   rw [List.take_add_one,hr'];simp
  rintro ys σ H1 ⟨rfl,rfl,g,rfl⟩ ta hta
  rw [take_all rs hrl]
  have s2:=am (o:=.lst ((nms rs).map V.str)) (af.refl H1) hta
  have t2:upd H1 ta (.lst ((nms rs).map V.str)) ta=some (.lst ((nms rs).map V.str)):=ag
  generalize upd H1 ta (.lst ((nms rs).map V.str))=H2 at s2 t2 ⊢
  have q6:(Str.ofString "qqqqqq").length=6:=by decide +kernel
  refine⟨_,rfl,by decide,by decide,fB (fits (by decide)) (fun i ys σ H3=>ys=((List.range i).map qn).map V.str/\H3=H2/\∃x,σ=[x,some (.str cJ)]) ⟨rfl,rfl,_,rfl⟩ (fun i ys σ H3 _ q=>by rw [q.1];simp) ?_ ?_⟩
  ·rintro i ys σ H3 hi ⟨rfl,rfl,g,rfl⟩
   have hi90:i < 90:=by simpa using hi
   have e1:(0 + (i:Int)) / 26=((i / 26:Nat):Int):=by omega
   have e2:(0 + (i:Int)) % 26=((i % 26:Nat):Int):=by omega
   refine⟨_,rfl,_,rfl,_,_,rfl,rfl,⟨by decide,by decide⟩,.inr (.inr ⟨cJ,_,97 + i / 26,rfl,rfl,fu,dZ (j:=i / 26) e1 (fE (by omega)),_,_,rfl,rfl,by rw [sizeLine_eq,q6];show 6 + 1<=_;decide,?_⟩)⟩
   refine⟨_,rfl,_,rfl,_,_,rfl,rfl,by show (0:Int) < 26;decide,.inr (.inr ⟨cJ,_,97 + i % 26,rfl,rfl,fu,dZ (j:=i % 26) e2 (fE (by omega)),_,_,rfl,rfl,by rw [sizeLine_eq,Str.length_append,q6];show 6 + 1 + 1<=_;decide,?_⟩)⟩
   refine⟨?_,rfl,_,rfl⟩
   rw [List.range_succ,List.map_append,List.map_append]
   rfl
  rintro ys σ H3 ⟨rfl,rfl,g,rfl⟩ na hna
  have s4:=am (o:=.lst (qns.map V.str)) s2 hna
  have n4:upd H3 na (.lst (qns.map V.str)) na=some (.lst (qns.map V.str)):=ag
  have s34:=am (o:=.lst (qns.map V.str)) (af.refl H3) hna
  show jG _ _ _ _ (upd H3 na (.lst (qns.map V.str)))
  generalize upd H3 na (.lst (qns.map V.str))=H4 at s4 n4 s34 ⊢
  have t4:=s34 _ _ t2
  have q90:qns.length=90:=by unfold qns;rw [List.length_map,List.length_range]
  refine⟨_,rfl,na,rfl,⟨_,SqL.of n4⟩,fG (xs:=qns.map V.str) (fits (by rw [List.length_map];omega)) (fun i ys σ H5=>ys=((qns.take i).filter fun x=>!decide (x∈nms rs)).map V.str/\H5=H4/\∃x,σ=[x,some (.ref ta)]) ⟨rfl,rfl,_,rfl⟩
   (fun i ys σ H5 _ q=>⟨by rw [q.1,List.length_map];exact Nat.le_trans (List.length_filter_le _ _) (by rw [List.length_take];omega),by rw [q.2.1];exact SqL.of n4⟩) ?_ ?_⟩
  ·rintro i x ys σ H5 hx ⟨rfl,rfl,g,rfl⟩
   rw [List.getElem?_map] at hx
   cases hc:qns[i]? with
   | none=>rw [hc] at hx;cases hx
   | some z =>
    rw [hc] at hx
    cases hx
    have tf:=ck (fun x:Str=>!decide (x∈nms rs)) qns i z hc
    refine⟨_,rfl,_,rfl,ta,(nms rs).map V.str,rfl,.inl (SqL.of t4),rfl,b9 _,_,rfl,?_⟩
    show if (!inV (.str z) ((nms rs).map V.str))=true then _ else _
    rw [cf]
    refine be (fun c=>⟨_,rfl,?_,rfl,_,rfl⟩) (fun c=>⟨?_,rfl,_,rfl⟩)
    ·rw [tf,if_pos c];simp
    ·rw [tf,if_neg c];simp
  rintro ys σ H5 ⟨rfl,rfl,g,rfl⟩ nb hnb
  rw [take_all qns (by rw [List.length_map])]
  have hfl:=oJ (t:=nms rs) ng hnd
  have hfn:=ng.filter (fun x=>!decide (x∈nms rs))
  have hfm:∀x∈qns.filter (fun x=>!decide (x∈nms rs)),aE x/\x∉nms rs:=fun x hx=>by
   obtain⟨h1,h2⟩:=List.mem_filter.mp hx
   unfold qns at h1
   obtain⟨j,hj,rfl⟩:=List.mem_map.mp h1
   exact⟨tU (List.mem_range.mp hj),by simpa using h2⟩
  have hf90:=List.length_filter_le (fun x=>!decide (x∈nms rs)) qns
  generalize qns.filter (fun x=>!decide (x∈nms rs))=fs at hfl hfn hfm hf90 ⊢
  have hnl:(nms rs).length=rs.length:=by simp
  have s6:=am (o:=.lst (fs.map V.str)) s4 hnb
  have n6:upd H5 nb (.lst (fs.map V.str)) nb=some (.lst (fs.map V.str)):=ag
  generalize upd H5 nb (.lst (fs.map V.str))=H6 at s6 n6 ⊢
  have a6:=s6 _ _ ha
  have W6:=W.same s6
  refine⟨_,rfl,_,rfl,nb,a,_,_,rfl,SqL.of n6,SqT.of a6,?_⟩
  refine uU (xs:=fs.map V.str) (ys:=pl.map V.str) (by rw [List.length_map,List.length_map];omega) (fits (by rw [List.length_map,List.length_map];omega)) (fun i zs σ H7=>(∃rr:List (Addr×Row),zs=ar rr/\(∀r∈rr,cB H7 r.1 r.2)/\nms rr=fs.take i/\rr.map (fun r=>r.2.2)=(pl.take i).map (fun x=>(root,x)))/\af H6 H7/\∃g1 g2,σ=[g1,g2,some (.str root)])
   ⟨⟨[],rfl,by simp,rfl,by simp⟩,af.refl _,_,_,rfl⟩ (fun i zs σ H7 hi q=>?_) ?_ ?_
  ·obtain⟨⟨rr,rfl,_,e,_⟩,s7,_⟩:=q
   have:=congrArg List.length e
   rw [nms,List.length_map,List.length_take] at this
   exact⟨by simp [this];omega,SqL.of (s7 _ _ n6),SqT.of (s7 _ _ a6)⟩
  ·rintro i x y zs σ H7 T hx hy ⟨⟨rr,rfl,Ra,e,Rp⟩,s7,g1,g2,rfl⟩ hT
   rw [List.getElem?_map] at hx hy
   cases hc:fs[i]? with
   | none=>rw [hc] at hx;cases hx
   | some t =>
    cases hd:pl[i]? with
    | none=>rw [hd] at hy;cases hy
    | some z =>
     rw [hc] at hx
     rw [hd] at hy
     cases hx
     cases hy
     have s8:=am (o:=.tup [.str t,.str z]) (af.refl H7) hT
     refine⟨T,_,rfl,SqT.of ag,rfl,_,_,rfl,_,_,rfl,rfl,?_⟩
     unfold bQ
     dsimp only
     rw [if_pos rfl]
     refine⟨_,rfl,_,rfl,_,rfl,by show 3<=sizeLine;decide,fun n hn=>?_⟩
     have s9:=am (o:=.tup [.str t,.str root,.str z]) s8 hn
     refine⟨⟨rr++[(n,(t,root,z))],by simp [ar],fun r hr=>?_,?_,?_⟩,s7.trans s9,_,_,rfl⟩
     ·rcases List.mem_append.mp hr with q | q
      ·exact s9 _ _ (Ra r q)
      ·have e':r=(n,(t,root,z)):=by simpa using q
       subst e';exact ag
     ·rw [nms,List.map_append]
      show nms rr++[t]=_
      rw [e,List.take_add_one,hc]
      rfl
     ·rw [List.map_append,Rp,List.take_add_one,hd]
      simp
  rintro zs σ H7 ⟨⟨new,rfl,Ra,e,Rp⟩,s7,g1,g2,rfl⟩ rw hrw
  have emin:min (fs.map V.str).length (pl.map V.str).length=pl.length:=by rw [List.length_map,List.length_map];omega
  rw [emin] at e Rp
  rw [List.take_length] at Rp
  have hnew:new.length=pl.length:=by
   have:=congrArg List.length Rp
   rwa [List.length_map,List.length_map] at this
  have s8:=am (o:=.lst (ar new)) (s6.trans s7) hrw
  have Ra8:∀r∈new,cB (upd H7 rw (.lst (ar new))) r.1 r.2:=fun r hr=>am (af.refl H7) hrw _ _ (Ra r hr)
  have w8:upd H7 rw (.lst (ar new)) rw=some (.lst (ar new)):=ag
  generalize upd H7 rw (.lst (ar new))=H8 at s8 Ra8 w8 ⊢
  have W8:=W.same s8
  refine⟨_,rfl,aH (j:=0) (.inr (SqT.of W8.tp)) rfl rfl ⟨_,rfl,aH (j:=1) (.inr (SqT.of W8.tp)) rfl rfl ⟨ra,_,rfl,.inr (SqT.of W8.rl),fun l hl=>?_⟩⟩⟩
  have s9:=am (o:=.lst (ar rs)) (af.refl H8) hl
  have l9:upd H8 l (.lst (ar rs)) l=some (.lst (ar rs)):=ag
  generalize upd H8 l (.lst (ar rs))=H9 at s9 l9 ⊢
  refine⟨_,rfl,l,rw,ar rs,ar new,rfl,rfl,l9,s9 _ _ w8,Nat.le_of_lt (fits (by simp;omega)),fun c hc=>?_⟩
  have s10:=am (o:=.lst (ar rs++ar new)) s9 hc
  have c10:upd H9 c (.lst (ar rs++ar new)) c=some (.lst (ar (rs++new))):=by rw [ag];show some (HO.lst (rs.map _++new.map _))=some (HO.lst ((rs++new).map _));rw [List.map_append]
  generalize upd H9 c (.lst (ar rs++ar new))=H10 at s10 c10 ⊢
  have s010:=s8.trans s10
  have rows10:∀r∈rs++new,cB H10 r.1 r.2:=fun r hr=>(List.mem_append.mp hr).elim (fun q=>s010 _ _ (W.rows r q)) fun q=>s10 _ _ (Ra8 r q)
  have hnn:(nms (rs++new)).Nodup:=by
   rw [nms,List.map_append]
   show (nms rs++nms new).Nodup
   rw [e,List.nodup_append]
   exact⟨hnd,hfn.sublist (List.take_sublist _ _),fun x hx y hy z=>(hfm y (List.mem_of_mem_take hy)).2 (z ▸ hx)⟩
  refine⟨c,(rs++new).map fun r=>(r.1,r.2.1),rfl,.inl (SqL.of (by rw [gg];exact c10)),fun y hy=>?_,by rw [List.length_map,List.length_append];omega,?_,fun rs1 q2 hpm2 hpw hq2=>?_⟩
  ·obtain⟨x,hx,rfl⟩:=List.mem_map.mp hy
   exact⟨_,rows10 x hx⟩
  ·rw [List.map_map]
   exact hnn
  obtain⟨rs',hp2,e2'⟩:=iz (fun r:Addr×Row=>(r.1,r.2.1)) rs1 _ hpm2
  subst e2'
  rw [gg]
  have u1:=am (o:=.lst (ar rs')) (af.refl H10) hq2
  refine⟨q2,_,rfl,.inl ⟨SqL.of ag,fun ra' hra=>?_⟩⟩
  have u2:=am (o:=.tup (ar rs')) u1 hra
  refine⟨by show 2<=sizeLine;decide,fun v' hv=>?_⟩
  have u3:=am (o:=.tup [.ref pa,.ref ra']) u2 hv
  have hur:ra'≠v':=fun z=>by rw [<- z,ag] at hv;cases hv
  have sall:=s010.trans u3
  refine k v' ra' rs' new _ sall ⟨ag,sall _ _ W.pl,by rw [aj hur,ag],fun x hx=>u3 _ _ (rows10 x (hp2.mem_iff.mp hx))⟩ hp2 Rp ⟨G.ne,G.nm,G.so,fun r hr=>?_,?_,G.pz,?_⟩
  ·obtain⟨x,hx,rfl⟩:=List.mem_map.mp hr
   rcases List.mem_append.mp (hp2.mem_iff.mp hx) with q | q
   ·exact G.rn _ (List.mem_map_of_mem q)
   ·have hz:x.2.2∈pl.map (fun x=>(root,x)):=by rw [<- Rp];exact List.mem_map_of_mem (f:=fun r:Addr×Row=>r.2.2) q
    obtain⟨y,hy,ey⟩:=List.mem_map.mp hz
    have hnx:x.2.1∈fs:=by
     have:x.2.1∈nms new:=List.mem_map_of_mem (f:=fun r:Addr×Row=>r.2.1) q
     rw [e] at this
     exact List.mem_of_mem_take this
    rw [<- ey]
    exact⟨(hfm _ hnx).1,hroot,(hpl y hy).1,(hpl y hy).2.symm⟩
  ·rw [List.map_map] at hpw ⊢;exact hpw
  ·rw [List.length_map,hp2.length_eq,List.length_append];omega
end
theorem pR {α:Type}{l:List α} (h:l.Nodup):l.reverse.Nodup:=(List.reverse_perm l).nodup_iff.mpr h
theorem oK (w:World) {X:Cx} (hc:X.calm=true) (h:X.w=w:=by rfl):bC X (.type "set") (fun xs H Q=>∃(p:Addr) (ss:List Str),xs=[.ref p]/\SqL X.K H p (ss.map V.str)/\ss.length < 3000 /\
  ∀(a:Addr),H a=none->Q (.ref a) (upd H a (eF w a (br ss.reverse)))):=by subst h;exact pD hc
theorem pF (w:World) {X:Cx} (h:X.w=w:=by rfl):bC X (.builtin "len") (fun xs H Q=>∃(a:Addr) (ss:List Str),xs=[.ref a]/\H a=some (eF w a ss)/\Q (.int ss.length) H):=by subst h;exact qa
section
variable {P:Program}{w:World}{K:PySem.W.Frag}{mg:Str->Option Value}{base:Heap}
end
end K44
namespace K44
open PySem L2 PySem.Spec PyProof.Rows
noncomputable def nL (K:PySem.W.Frag):R2:=fun x y H Q=>∃(a p:Addr) (ss:List Str) (lts:List (Addr×List Str)),x=.ref a/\y=.ref p/\H a=some (.tup (ss.map V.str))/\(∀z∈ss,aE z)/\SqL K H p (ak lts)/\aO H lts/\(∀l∈lts,∀z∈l.2,aE z)/\Q (.bl (decide (ss∈lts.map (·.2)))) H
theorem vc {X:Cx}{k:Nat} (hr:aN k X.A):OpR X (compareOp .In) (nL X.K):=by
 intro pins s σ H x y v u Q I rx ry h
 obtain⟨a,p,ss,lts,rfl,rfl,ha,hs,hq,hL,hn,q⟩:=h
 cases rx
 cases ry
 obtain⟨its,r',pl,hz⟩:=I.list hq
 have hun:=hr.un
 obtain⟨as,r1⟩:=(DV.tup ha (DVs.strs _)).reads I.hok (show RelV (.ref a) (Value.ref a) from rfl)
 have item:∀(i:Nat) (v:Value),its[i]?=some v->∃l,lts[i]?=some l/\v=Value.ref l.1:=fun i v hv=>by
  have hlen:=r'.length
  rw [List.length_map] at hlen
  have hi:i < lts.length:=by rw [hlen];exact (List.getElem?_eq_some_iff.mp hv).1
  have e1:(ak lts)[i]?=some (V.ref lts[i].1):=by rw [List.getElem?_map,List.getElem?_eq_getElem hi];rfl
  obtain⟨w',e2,rw'⟩:=r'.get e1
  rw [hv] at e2
  cases e2
  exact⟨lts[i],List.getElem?_eq_getElem hi,rw'⟩
 have data:∀y∈its,∃l∈lts,y=Value.ref l.1:=fun y hy=>by
  obtain⟨i,hi⟩:=List.getElem?_of_mem hy
  obtain⟨l,h1,h2⟩:=item i y hi
  exact⟨l,List.mem_of_getElem? h1,h2⟩
 let e:Value->Bool:=fun y=>match y with | .ref c=>lts.any fun l=>decide (l.1=c) && decide (l.2=ss) | _=>false
 have ee:∀c,e (.ref c)=true ↔ ∃l∈lts,l.1=c/\l.2=ss:=fun c=>by
  show (lts.any fun l=>decide (l.1=c) && decide (l.2=ss))=true ↔ _
  rw [List.any_eq_true]
  simp only [Bool.and_eq_true,decide_eq_true_eq]
 refine SeqAt.in_listAt e pl.isList (fun y hy=>?_) ?_
 ·obtain⟨l,hl,rfl⟩:=data y (by simpa using hy)
  have el:e (.ref l.1)=decide (l.2=ss):=by
   rw [Bool.eq_iff_iff,ee,decide_eq_true_iff]
   constructor
   ·rintro⟨m,hm,em,es⟩
    rw [gC (hL l hl) (hL m hm) em.symm];exact es
   ·exact fun q=>⟨l,hl,rfl,q⟩
  rw [el]
  by_cases hab:l.1=a
  ·rw [decide_eq_true (gC (hL l hl) ha hab),hab]
   exact SeqAt.EqAt.same _
  ·refine SeqAt.EqAt.of_refs hab fun prog w E Q hq=>?_
   obtain⟨bs,r2⟩:=(DV.tup (hL l hl) (DVs.strs _)).reads I.hok (show RelV (.ref l.1) (Value.ref l.1) from rfl)
   have ev:PyData.eqv (.tuple (l.2.map PyData.str)) (.tuple (ss.map PyData.str))=decide (l.2=ss):=fw _ _
   refine (eq_dataH (A:=X.A.in1) r2 r1 (cN (hn l hl)).2 (cN hs).2 (by show X.A.units + 1 + 64 < cLine;omega) ?_:wpAny (model prog w) X.A.in1 (compareOp .Eq (.ref l.1) (.ref a)) Q E _)
   rw [ev];exact hq
 ·have ea:its.toArray.any e=decide (ss∈lts.map (·.2)):=by
   rw [Bool.eq_iff_iff,List.any_toArray,List.any_eq_true,decide_eq_true_iff]
   constructor
   ·rintro⟨y,hy,ey⟩
    obtain⟨m,hm,rfl⟩:=data y hy
    obtain⟨l,hl,_,es⟩:=(ee _).mp ey
    exact es ▸ List.mem_map_of_mem hl
   ·intro hm
    obtain⟨l,hl,es⟩:=List.mem_map.mp hm
    obtain⟨i,hi⟩:=List.getElem?_of_mem hl
    obtain⟨w',e2,rw'⟩:=r'.get (show (ak lts)[i]?=some (V.ref l.1) by rw [List.getElem?_map,hi];rfl)
    cases rw'
    exact⟨_,List.mem_of_getElem? e2,(ee _).mpr ⟨l,hl,rfl,es⟩⟩
  rw [ea]
  exact⟨V.bl (decide (ss∈lts.map (fun z:Addr×List Str=>z.2))),H,I,rfl,q⟩
section
variable {P:Program}{w:World}{K:PySem.W.Frag}{mg:Str->Option Value}{base:Heap}
end
end K44
namespace K44
open PySem L2
theorem wJ (K:PySem.W.Frag) {X:Cx}{k:Nat} (hr:aN k X.A) (h:X.K=K:=by rfl):OpR X (compareOp .In) (nL K):=by subst h;exact vc hr
theorem lF:∀{L:List (List Str)},(∀l∈L,l.Nodup)->Apart L->L.flatten.Nodup
 | [],_,_=>List.Pairwise.nil
 | l::L,h,hA=>by
  obtain⟨h1,h2⟩:=List.pairwise_cons.mp hA
  rw [List.flatten_cons,List.nodup_append]
  refine⟨h l List.mem_cons_self,lF (fun x hx=>h x (List.mem_cons_of_mem _ hx)) h2,fun x hx y hy e=>?_⟩
  obtain⟨m,hm,hym⟩:=List.mem_flatten.mp hy
  exact h1 m hm x hx (e ▸ hym)
section
variable {P:Program}{w:World}{K:PySem.W.Frag}{mg:Str->Option Value}{base:Heap}
noncomputable def lH:Sp:=fun vs H Q _=>∃(q:Addr) (tls:List (Addr×List Str)),vs=[.ref q]/\H q=some (.lst (ak tls))/\aO H tls/\tls.length<=10/\(∀x∈tls,x.2.length<=7/\x.2.Nodup)/\Apart (tls.map (·.2))/\∀H',af H H'->Q (.bl true) H'
noncomputable abbrev N48:List Str:=["_law_lots_here","_law_used","_law_lot"]
theorem gX:aP N48 ["_law_lots_here"] (aC (top 48)):=⟨rfl,rfl,rfl,by decide +kernel,rfl,by decide +kernel,by decide +kernel⟩
theorem rm {f:Addr}{fd:FuncData} (F:Fun K "_law_are_apart" "_law_are_apart" (top 48) f fd) (B:Bl mg):aG P w K mg base CX0 1 f fd ["_law_lots_here"] lH:=by
 refine F.ok gX (fun vs H Q E h=>?_) (fun cdv A outer s H vs Q E hr h=>?_)
 ·obtain⟨q,tls,rfl,_⟩:=h
  rfl
 ·obtain⟨q,tls,rfl,hq,A0,hl10,hx7,hap,k⟩:=h
  refine⟨_,ao (aL (i:=1) gX.nd rfl (Or.inl rfl) (bD ae))
   (ao (bP PassesOwn.never rfl (bg (pv 0)) (aX (i:=2) gX.nd rfl (Or.inl rfl))
    (ax (aL (i:=1) gX.nd rfl (Or.inl rfl) (aB ez (pv 1) (cb fv rfl B.list eS (aa (pv 2) ae))))))
   (ax (aI (b4 dE (aA (pF w) rfl B.len PySem.boot_len (aa (cb (oK w rfl) rfl B.set vM (aa (pv 1) ae)) ae)) (aA bA rfl B.len PySem.boot_len (aa (pv 1) ae)) (ba _))))),?_⟩
  have und:((tls.map (·.2)).flatten).Nodup:=lF (fun l hl=>by
   obtain⟨x,hx,rfl⟩:=List.mem_map.mp hl
   exact (hx7 x hx).2) hap
  have hfl:∀i,((tls.take i).map (·.2)).flatten.length<=7 * i:=fun i=>by
   induction i with
   | zero=>simp
   | succ n ih =>
    rw [List.take_add_one,List.map_append,List.flatten_append,List.length_append]
    cases e:tls[n]? with
    | none=>exact Nat.le_trans (by simp [List.length_flatten]) (by omega:((tls.take n).map (·.2)).flatten.length<=7 * (n + 1))
    | some x =>
     have:=(hx7 x (List.mem_of_getElem? e)).1
     have e1:((some x:Option (Addr×List Str)).toList.map (·.2)).flatten.length=x.2.length:=by simp
     rw [e1]
     omega
  refine⟨Nat.zero_le _,fun u0 hu0=>?_⟩
  have s3:=am (o:=.lst []) (af.refl H) hu0
  have u3:upd H u0 (.lst []) u0=some (.lst ((((tls.take 0).map (·.2)).flatten).map V.str)):=ag
  generalize upd H u0 (.lst [])=H3 at s3 u3 ⊢
  refine⟨_,rfl,q,rfl,⟨_,SqL.of (s3 _ _ hq)⟩,dr (K:=K) (a:=q) (xs:=ak tls) (fun i σ H4=>∃(u:Addr) (g:Option V),σ=[some (.ref q),some (.ref u),g]/\af H H4/\H4 u=some (.lst ((((tls.take i).map (·.2)).flatten).map V.str)))
   ⟨u0,none,rfl,s3,u3⟩ (fun i σ H4 _ p=>by obtain⟨_,_,_,s4,_⟩:=p;exact SqL.of (s4 _ _ hq)) ?_ ?_⟩
  ·rintro i x σ H4 hx ⟨u,g,rfl,s4,u4⟩
   obtain⟨y,hy,rfl⟩:=bZ hx
   have hym:=List.mem_of_getElem? hy
   have hi:i < tls.length:=(List.getElem?_eq_some_iff.mp hy).1
   have y4:=s4 _ _ (A0 y hym)
   refine⟨_,rfl,_,rfl,y.1,_,rfl,.inr (SqT.of y4),fun l hl=>?_⟩
   have s5:=am (o:=.lst (y.2.map V.str)) (af.refl H4) hl
   have h7:=(hx7 y hym).1
   have h7i:=hfl i
   refine⟨u,l,_,_,rfl,rfl,s5 _ _ u4,ag,by rw [sizeLine_eq,List.length_map,List.length_map];omega,fun n hn=>?_⟩
   refine⟨n,_,rfl,s4.trans (am s5 hn),?_⟩
   rw [ag,List.take_add_one,hy]
   simp
  ·rintro σ H4 ⟨u,g,rfl,s4,u4⟩
   rw [take_all tls (by simp)] at u4
   have hlen:((tls.map (·.2)).flatten).length<=70:=by
    have:=hfl tls.length
    rw [List.take_length] at this
    omega
   refine⟨_,rfl,u,_,rfl,SqL.of u4,by omega,fun st hst=>?_⟩
   rw [pW (pR und)]
   have s5:=am (o:=eF w st ((tls.map (·.2)).flatten).reverse) (af.refl H4) hst
   refine⟨st,_,rfl,ag,_,rfl,u,_,rfl,.inl (SqL.of (s5 _ _ u4)),rfl,?_⟩
   have ed:decide (V.int ((((tls.map (·.2)).flatten).reverse.length:Nat):Int)=V.int (((((tls.map (·.2)).flatten).map V.str).length:Nat):Int))=true:=by
    rw [List.length_reverse,List.length_map];simp
   rw [ed]
   exact k _ (s4.trans s5)
noncomputable def lO:Sp:=fun vs H Q _=>∃(v pa ra lb a ev:Addr) (ps:List Str) (rs:List (Addr×Row)) (m:Int) (gts ets:List (Addr×List Str)) (pl:List Str),vs=[.ref v,.int m,.ref lb,.ref a,.ref ev]/\bv H v pa ra ps rs/\rs.length<=60/\H lb=some (.lst (ak gts))/\aO H gts/\H a=some (.tup (pl.map V.str))/\H ev=some (.lst (ak ets))/\aO H ets /\
 (∀x∈gts,∀y∈x.2,aE y)/\(∀x∈ets,∀y∈x.2,aE y)/\gts.length<=10/\(∀x∈gts,x.2.length<=7/\x.2.Nodup)/\(∀x∈gts,x.2∈ets.map (·.2)/\(cnt rs x.2:Int) < m)/\Apart (gts.map (·.2))/\(gts.map fun x=>m - (cnt rs x.2:Int)).sum=(pl.length:Int)/\∀H',af H H'->Q (.bl true) H'
noncomputable abbrev N49:List Str:=["_law_web_here","_law_many","_law_lots_here","_law_places","_law_every","_law_short"]
theorem nU:aP N49 ["_law_web_here","_law_many","_law_lots_here","_law_places","_law_every"] (aC (top 49)):=⟨rfl,rfl,rfl,by decide +kernel,rfl,by decide +kernel,by decide +kernel⟩
theorem rE {f:Addr}{fd:FuncData} (F:Fun K "_law_shows" "_law_shows" (top 49) f fd) (B:Bl mg) (F1:Fn P w K mg base 1 "_law_into" ["_law_web_here","_law_lot"] iU) (F2:Fn P w K mg base 1 "_law_are_apart" ["_law_lots_here"] lH):aG P w K mg base CX0 2 f fd ["_law_web_here","_law_many","_law_lots_here","_law_places","_law_every"] lO:=by
 refine F.ok nU (fun vs H Q E h=>?_) (fun cdv A outer s H vs Q E hr h=>?_)
 ·obtain⟨v,pa,ra,lb,a,ev,ps,rs,m,gts,ets,pl,rfl,_⟩:=h
  rfl
 ·obtain⟨v,pa,ra,lb,a,ev,ps,rs,m,gts,ets,pl,rfl,W,h60,hlb,A0,ha,hev,E0',hgn,hen,hl10,hx7,hin,hap,hsum,k⟩:=h
  refine' ⟨_,?d0,?main⟩
  case' d0=>refine' ao (bh (bL (bE (aA (dn rfl) rfl B.all dG (aa (bp (N:=["_law_lot","_law_every","_law_web_here","_law_many"]) (ix:=[none,some 4,some 0,some 1]) ⟨rfl,rfl,rfl,by decide⟩ rfl (bg (pv 2)) (fun _ _ _ _=>aQ 0 (by decide) rfl rfl) (fun _ _ _ _=>bc)
    (fun _ _ _ _=>cR (b4 (wJ K hr) (pv 0) (pv 1) (by with_unfolding_all rfl)) (dC (b4 fg (aw F1 hr (aa (pv 2) (aa (pv 0) ae))) (pv 3) (ba _))))) ae)))) cx bf) ?d1
  case' d1=>refine' ao (aL (i:=5) nU.nd rfl (Or.inl rfl) (aA (kn rfl) rfl B.sum nE (aa (bp (N:=["_law_lot","_law_web_here","_law_many"]) (ix:=[none,some 0,some 1]) ⟨rfl,rfl,rfl,by decide⟩ rfl (bg (pv 2)) (fun _ _ _ _=>aQ 0 (by decide) rfl rfl) (fun _ _ _ _=>bc)
    (fun _ _ _ _=>aB dw (pv 2) (aw F1 hr (aa (pv 1) (aa (pv 0) ae))))) ae))) ?d2
  case d2=>exact ax (aI (cR (aw F2 hr (aa (pv 2) ae)) (dC (b4 dE (pv 5) (aA bA rfl B.len PySem.boot_len (aa (pv 3) ae)) (ba _)))))
  case main =>
  have htl:(ak gts).length=gts.length:=by simp
  refine⟨_,rfl,lb,rfl,⟨_,SqL.of hlb⟩,eI (xs:=ak gts) (fits (by omega)) (fun i ys σ H1=>ys=(List.replicate i true).map V.bl/\af H H1/\∃x,σ=[x,some (.ref ev),some (.ref v),some (.int m)]) ⟨rfl,af.refl _,_,rfl⟩
   (fun i ys σ H1 _ p=>⟨by rw [p.1];simp,SqL.of (p.2.1 _ _ hlb)⟩) ?_ ?_⟩
  ·rintro i x ys σ H1 hx ⟨rfl,s1,g,rfl⟩
   obtain⟨y,hy,rfl⟩:=bZ hx
   have hym:=List.mem_of_getElem? hy
   refine⟨_,rfl,_,rfl,y.1,ev,y.2,ets,rfl,rfl,s1 _ _ (A0 y hym),hgn y hym,SqL.of (s1 _ _ hev),E0'.same s1,hen,true,by rw [decide_eq_true (hin y hym).1],bJ ?_⟩
   refine⟨_,rfl,_,rfl,v,y.1,pa,ra,ps,y.2,rs,rfl,W.same s1,h60,s1 _ _ (A0 y hym),fun H2 s2=>⟨_,rfl,_,_,rfl,rfl,?_,s1.trans s2,_,rfl⟩⟩
   have hlt:=(hin y hym).2
   rw [List.replicate_succ',List.map_append]
   show _++[V.bl (decide (((rs.filter (lead y.2)).length:Int) < m))]=_++[V.bl true]
   rw [decide_eq_true (show ((rs.filter (lead y.2)).length:Int) < m from hlt)]
  rintro ys σ H1 ⟨rfl,s1,g,rfl⟩ al hal
  have s2:=am (o:=.lst ((List.replicate (ak gts).length true).map V.bl)) s1 hal
  refine⟨al,List.replicate (ak gts).length true,rfl,SqL.of ag,_,rfl,?_⟩
  have eall:∀n:Nat,(List.replicate n true).all id=true:=by simp
  rw [eall]
  refine bb ?_
  generalize upd H1 al (.lst ((List.replicate (ak gts).length true).map V.bl))=H2 at s2 ⊢
  have lb2:=s2 _ _ hlb
  refine⟨_,rfl,lb,rfl,⟨_,SqL.of lb2⟩,eI (xs:=ak gts) (fits (by omega)) (fun i ys σ H3=>ys=((gts.take i).map fun x=>m - (cnt rs x.2:Int)).map V.int/\af H2 H3/\∃x,σ=[x,some (.ref v),some (.int m)]) ⟨rfl,af.refl _,_,rfl⟩
   (fun i ys σ H3 _ p=>⟨by rw [p.1,List.length_map,List.length_map,List.length_take];omega,SqL.of (p.2.1 _ _ lb2)⟩) ?_ ?_⟩
  ·rintro i x ys σ H3 hx ⟨rfl,s3,g,rfl⟩
   obtain⟨y,hy,rfl⟩:=bZ hx
   have hym:=List.mem_of_getElem? hy
   have s03:=s2.trans s3
   refine⟨_,rfl,_,rfl,_,rfl,v,y.1,pa,ra,ps,y.2,rs,rfl,W.same s03,h60,s03 _ _ (A0 y hym),fun H4 s4=>⟨_,_,rfl,rfl,?_,s3.trans s4,_,rfl⟩⟩
   rw [List.take_add_one,hy]
   simp
   rfl
  rintro ys σ H3 ⟨rfl,s3,g,rfl⟩ sq hsq
  rw [take_all gts htl]
  have s4:=am (o:=.lst ((gts.map fun x=>m - (cnt rs x.2:Int)).map V.int)) (s2.trans s3) hsq
  refine⟨sq,_,rfl,.inl (SqL.of ag),?_⟩
  rw [hsum]
  generalize upd H3 sq (.lst ((gts.map fun x=>m - (cnt rs x.2:Int)).map V.int))=H4 at s4 ⊢
  refine⟨_,rfl,lb,gts,rfl,s4 _ _ hlb,A0.same s4,hl10,hx7,hap,fun H5 s5=>⟨true,rfl,bJ ?_⟩⟩
  have s05:=s4.trans s5
  refine⟨_,rfl,_,rfl,a,_,rfl,.inr (SqT.of (s05 _ _ ha)),rfl,?_⟩
  have ed:decide (V.int (pl.length:Int)=V.int ((pl.map V.str).length:Int))=true:=by
   rw [List.length_map];simp
  rw [ed]
  exact k _ s05
end
noncomputable def nge (x y:Str):Prop:=¬ nlt y x
theorem qq {x y z:Str} (h1:nge x y) (h2:nge y z):nge x z:=fun h=>by
 by_cases e:x=y
 ·subst e;exact h2 h
 ·rcases gx e with q | q
  ·exact h2 (List.lt_trans h q)
  ·exact h1 q
theorem kC:∀(r:List Str) (x:Str),PyProof.Rows.risingS x r=true->(x::r).Pairwise nge
 | [],x,_=>by simp
 | y::r,x,h=>by
  have h':(!PySem.Spec.ltCps y.cps.toList x.cps.toList && PyProof.Rows.risingS y r)=true:=h
  rw [Bool.and_eq_true,PyProof.Rows.ltCps_eq] at h'
  have ih:=kC r y h'.2
  have hxy:nge x y:=fun z=>by
   have z':y.cps.toList < x.cps.toList:=z
   rw [decide_eq_true z'] at h'
   exact absurd h'.1 (by simp)
  refine List.pairwise_cons.mpr ⟨fun z hz=>?_,ih⟩
  rcases List.mem_cons.mp hz with rfl | hz
  ·exact hxy
  ·exact qq hxy ((List.pairwise_cons.mp ih).1 z hz)
theorem qe {ss:List Str} (h:PyProof.Rows.sortedS ss=true):ss.Pairwise nge:=by
 cases ss with
 | nil=>exact .nil
 | cons x r=>exact kC r x h
theorem jV:∀{a b:List Str},a.Perm b->a.Pairwise nge->b.Pairwise nge->a=b
 | [],b,h,_,_=>(List.nil_perm.mp h).symm
 | x::a,b,h,ha,hb=>by
  cases b with
  | nil=>exact absurd h.symm (by simp)
  | cons y b =>
   obtain⟨ha1,ha2⟩:=List.pairwise_cons.mp ha
   obtain⟨hb1,hb2⟩:=List.pairwise_cons.mp hb
   have e:x=y:=by
    by_cases c:x=y
    ·exact c
    ·have hx:x∈b:=(List.mem_cons.mp (h.mem_iff.mp List.mem_cons_self)).resolve_left c
     have hy:y∈a:=(List.mem_cons.mp (h.mem_iff.mpr List.mem_cons_self)).resolve_left fun z=>c z.symm
     rcases gx c with q | q
     ·exact absurd q (hb1 x hx)
     ·exact absurd q (ha1 y hy)
   subst e
   rw [jV h.cons_inv ha2 hb2]
theorem mR {p:Str->Int}:∀{os:List Str},os.Pairwise nlt->(mPl p os).Pairwise nge
 | [],_=>.nil
 | x::r,h=>by
  obtain⟨h1,h2⟩:=List.pairwise_cons.mp h
  have ih:=mR (p:=p) h2
  have hm:∀y∈mPl p r,y∈r:=fun y hy=>by
   unfold mPl at hy
   obtain⟨l,hl,hyl⟩:=List.mem_flatten.mp hy
   obtain⟨z,hz,rfl⟩:=List.mem_map.mp hl
   rw [List.eq_of_mem_replicate hyl];exact hz
  show ((x::r).map fun x=>List.replicate (p x).toNat x).flatten.Pairwise nge
  rw [List.map_cons,List.flatten_cons,List.pairwise_append]
  refine⟨?_,ih,fun a ha b hb z=>?_⟩
  ·rw [List.pairwise_replicate]
   exact .inr fun z=>gy z
  ·rw [List.eq_of_mem_replicate ha] at z
   exact k7 z (h1 b (hm b hb))
theorem sL {p:Str->Int}{os:List Str}{y:Str} (hy:y∈mPl p os):y∈os:=by
 unfold mPl at hy
 obtain⟨l,hl,hyl⟩:=List.mem_flatten.mp hy
 obtain⟨z,hz,rfl⟩:=List.mem_map.mp hl
 rw [List.eq_of_mem_replicate hyl];exact hz
theorem lV {root:Str}{l:List Str} (hr:root∉l):∀{new:List (Addr×Row)}{pl:List Str},new.map (fun r=>r.2.2)=pl.map (fun x=>(root,x))->cnt new l=(pl.filter fun x=>decide (x∈l)).length
 | [],[],_=>rfl
 | [],_::_,h=>by cases h
 | _::_,[],h=>by cases h
 | r::new,x::pl,h=>by
  rw [List.map_cons,List.map_cons] at h
  obtain⟨h1,h2⟩:=List.cons.inj h
  have ih:=lV hr h2
  have e:lead l r=decide (x∈l):=by
   unfold lead
   rw [show r.2.2.2=x from congrArg Prod.snd h1,show r.2.2.1=root from congrArg Prod.fst h1,decide_eq_false hr]
   simp
  rw [cnt_cons,ih,e,List.filter_cons]
  unfold ind
  by_cases c:x∈l
  ·simp [c];omega
  ·simp [c]
theorem mF {p:Str->Int}{l:List Str}:∀{os:List Str},(∀x∈os,0<=p x)->(((mPl p os).filter fun x=>decide (x∈l)).length:Int)=Mend.pS os p (Mend.inL l)
 | [],_=>rfl
 | x::r,h=>by
  have ih:=mF (p:=p) (l:=l) (os:=r) fun y hy=>h y (List.mem_cons_of_mem _ hy)
  have hx:=h x List.mem_cons_self
  unfold mPl Mend.pS at ih ⊢
  rw [List.map_cons,List.flatten_cons,List.filter_append,List.length_append,List.map_cons,List.sum_cons,<- ih,List.filter_replicate]
  by_cases c:x∈l
  ·simp [c];omega
  ·simp [c]
theorem uL {ps:List Str}{rs rs' new:List (Addr×Row)}{root:Str}{m:Int} (hnd:ps.Nodup) (M:jj ps rs root m) (hp:rs'.Perm (rs++new)) (hn:new.map (fun r=>r.2.2)=(mPl (bx rs (others ps root) m) (others ps root)).map (fun x=>(root,x))):∀l∈ay (others ps root),m<=(cnt rs' l:Int):=fun l hl=>by
 have hno:=eJ root hnd
 have hsub:=cQ hl
 have hrl:root∉l:=fun z=>(cP.mp (hsub.subset z)).2 rfl
 have a:=M.en l hl
 rw [Mend.jk _ hno (hno.sublist hsub) (fun x hx=>hsub.subset hx),<- mF fun x hx=>(M.bd x hx).1] at a
 rw [iP hp,tF,lV hrl hn]
 omega
noncomputable abbrev mD (pl:List Str) (gl:List (List Str)):PyData:=.tuple [cM pl,tlD gl]
theorem shM {pl:List Str}{gl:List (List Str)} (h1:∀x∈pl,aE x) (h2:∀ts∈gl,∀y∈ts,aE y):SeqAt.shaped (mD pl gl)=true/\(mD pl gl).canLay0=true:=by
 have a:=iJ h1
 have b:=lT h2
 have b2:=b.2
 have hc:(mD pl gl).canLay0=true:=by simp only [mD,cM,tlD,PyData.canLay0,PyData.canLayAll0,a.1,b.1];rfl
 have hd:(mD pl gl).depth<=4:=by
  simp only [mD,cM,tlD,PyData.depth,PyData.depthAll,a.2]
  omega
 refine⟨?_,hc⟩
 unfold SeqAt.shaped
 rw [hc,decide_eq_true (by omega)]
 rfl
section
variable {P:Program}{w:World}{K:PySem.W.Frag}{mg:Str->Option Value}{base:Heap}
noncomputable def lS:Sp:=fun vs H Q _=>∃(v pa ra:Addr) (ps:List Str) (rs rs0:List (Addr×Row)) (root:Str) (m:Nat),vs=[.ref v,.str root,.int m]/\bv H v pa ra ps rs/\Good ps (rs.map (·.2))/\ps.length<=8/\root∈ps/\m<=6/\rs.Sublist rs0/\Fed ps (rs0.map (·.2))/\rs0.length<=40/\∀H',af H H'->Q (.bl true) H'
noncomputable abbrev N50:List Str:=["_law_web_here","_law_root","_law_many","_law_told","_law_places","_law_lots_here","_law_others","_law_every","_law_whole","_law_kept"]
theorem dI:aP N50 ["_law_web_here","_law_root","_law_many"] (aC (top 50)):=⟨rfl,rfl,rfl,by decide +kernel,rfl,by decide +kernel,by decide +kernel⟩
theorem rB {f:Addr}{fd:FuncData} (F:Fun K "_law_right" "_law_right" (top 50) f fd) (B:Bl mg) (F1:Fn P w K mg base 5 "mended" ["web","root","many"] ly) (F2:Fn P w K mg base 1 "_law_lots" ["_law_places"] lU)
  (F3:Fn P w K mg base 2 "_law_shows" ["_law_web_here","_law_many","_law_lots_here","_law_places","_law_every"] lO) (F4:Fn P w K mg base 1 "_law_with" ["_law_web_here","_law_root","_law_places"] mK)
  (F5:Fn P w K mg base 1 "_law_into" ["_law_web_here","_law_lot"] iU) (F6:Fn P w K mg base 6 "shares" ["web","root","many"] lx):aG P w K mg base CX0 7 f fd ["_law_web_here","_law_root","_law_many"] lS:=by
 refine F.ok dI (fun vs H Q E h=>?_) (fun cdv A outer s H vs Q E hr h=>?_)
 ·obtain⟨v,pa,ra,ps,rs,rs0,root,m,rfl,_⟩:=h
  rfl
 ·obtain⟨v,pa,ra,ps,rs,rs0,root,m,rfl,W,G,h8,hroot,hm6,hsub,hF,h40,k⟩:=h
  have hr5:aN 5 _:=hr.mono (by decide)
  have hr2:aN 2 _:=hr.mono (by decide)
  have hr1:aN 1 _:=hr.mono (by decide)
  refine' ⟨_,?d0,?main⟩
  case' d0=>refine' ao (aL (i:=3) dI.nd rfl (Or.inl rfl) (aw F1 hr5 (aa (pv 0) (aa (pv 1) (aa (pv 2) ae))))) ?d1
  case' d1=>refine' ao (bh (PW.pt (dg (bL (bE (aA (cG (T:="tuple")) rfl B.isinstance cF (aa (pv 3) (aa (cH (v:=.ty "tuple") rfl B.tuple cz rfl) ae)))))
    (dY (aZ dH (aA bA rfl B.len PySem.boot_len (aa (pv 3) ae)) ai (ba _))))) cx bf) ?d2
  case' d2=>refine' ao (dA (pv 3) (c9 rfl (n:=2) (bB (aX (i:=4) dI.nd rfl (Or.inl rfl)) (bB (aX (i:=5) dI.nd rfl (Or.inl rfl)) cI)))) ?d3
  case' d3=>refine' ao (bh (PW.pt (dg (bL (bE (aA (cG (T:="tuple")) rfl B.isinstance cF (aa (pv 4) (aa (cH (v:=.ty "tuple") rfl B.tuple cz rfl) ae)))))
    (dg (aZ (jc hr) (cb fv rfl B.list eS (aa (pv 4) ae)) (aA oC rfl B.sorted fK (aa (pv 4) ae)) (ba _))
    (dY (bL (bE (aA (cG (T:="list")) rfl B.isinstance cF (aa (pv 5) (aa (cH (v:=.ty "list") rfl B.list eS rfl) ae))))))))) cx bf) ?d4
  case' d4=>refine' ao (aL (i:=6) dI.nd rfl (Or.inr rfl) (bp (N:=["_law_place","_law_root"]) (ix:=[none,some 1]) ⟨rfl,rfl,rfl,by decide⟩ rfl (bW (aD aW (pv 0) ai (fun _ _=>rfl))) (fun _ _ _ _=>aQ 0 (by decide) rfl rfl) (fun _ _ _ _=>cu (aZ dH (pv 0) (pv 1) (ba _))) (fun _ _ _ _=>pv 0))) ?d5
  case' d5=>refine' ao (aL (i:=7) dI.nd rfl (Or.inl rfl) (aw F2 hr1 (aa (pv 6) ae))) ?d6
  case' d6=>refine' ao (bh (bL (bE (aA (dn rfl) rfl B.all dG (aa (bp (N:=["_law_place","_law_others"]) (ix:=[none,some 6]) ⟨rfl,rfl,rfl,by decide⟩ rfl (bW (pv 4)) (fun _ _ _ _=>aQ 0 (by decide) rfl rfl) (fun _ _ _ _=>bc) (fun _ _ _ _=>b4 (gE K) (pv 0) (pv 1) (by with_unfolding_all rfl))) ae)))) cx bf) ?d7
  case' d7=>refine' ao (bh (bL (bE (aw F3 hr2 (aa (pv 0) (aa (pv 2) (aa (pv 5) (aa (pv 4) (aa (pv 7) ae)))))))) cx bf) ?d8
  case' d8=>refine' ao (aL (i:=8) dI.nd rfl (Or.inr rfl) (aw F4 hr1 (aa (pv 0) (aa (pv 1) (aa (pv 4) ae))))) ?d9
  case' d9=>refine' ao (bh (aZ (jc hr) (bp (N:=["_law_lot","_law_whole","_law_many"]) (ix:=[none,some 8,some 2]) ⟨rfl,rfl,rfl,by decide⟩ rfl (bg (pv 7)) (fun _ _ _ _=>aQ 0 (by decide) rfl rfl) (fun _ _ _ _=>cu (aZ fg (aw F5 hr1 (aa (pv 1) (aa (pv 0) ae))) (pv 2) (ba _))) (fun _ _ _ _=>pv 0)) (bD ae) (ba _)) cx bf) ?d10
  case' d10=>refine' ao (bh (PW.pt (gG (aZ fg (aA bA rfl B.len PySem.boot_len (aa (aD aW (pv 8) ai (fun _ _=>rfl)) ae)) ai (ba _)) (gD (aZ dH (aA bA rfl B.len PySem.boot_len (aa (aw F6 hr (aa (pv 8) (aa (pv 1) (aa (pv 2) ae)))) ae)) (pv 2) (ba _))))) cx bf) ?d11
  case' d11=>refine' ao (aL (i:=9) dI.nd rfl (Or.inl rfl) (bV (aa (pv 4) (aa (cb fv rfl B.list eS (aa (pv 5) ae)) ae)))) ?d12
  case' d12=>refine' ao (bT (cT PySem.F.plainAttrs_list PySem.F.slot_list_append PySem.F.type_list_append dP (pv 5) (aa (pv 4) ae))) ?d13
  case d13=>exact ax (aI (b4 (va hr) (aw F1 hr5 (aa (pv 0) (aa (pv 1) (aa (pv 2) ae)))) (pv 9) (ba _)))
  case main =>
  have hnd:ps.Nodup:=dR G.so
  have hno:=eJ root hnd
  have M:=tP (m:=(m:Int)) G hroot (by omega) (by omega)
  have hft:=rS hnd h8 hroot (by omega) (by omega) M hsub hF h40
  have hrz:rs.length<=40:=Nat.le_trans hsub.length_le h40
  have so:(others ps root).Pairwise nlt:=G.so.sublist List.filter_sublist
  have hol:(others ps root).length<=7:=by have:=m3 hnd hroot;omega
  have hpl48:(mPl (bx rs (others ps root) m) (others ps root)).length<=48:=by
   have:=gB (p:=bx rs (others ps root) m) (os:=others ps root) fun x hx=>(M.bd x hx).2
   omega
  have hplo:∀x∈mPl (bx rs (others ps root) m) (others ps root),x∈others ps root:=fun x hx=>sL hx
  have hpge:=mR (p:=bx rs (others ps root) m) so
  have hen:=fun (rs' new:List (Addr×Row))=>uL (rs':=rs') (new:=new) hnd M
  refine⟨_,rfl,_,rfl,_,rfl,v,pa,ra,ps,rs,root,(m:Int),rfl,W,G,h8,hroot,by omega,by omega,M.bd,fun q a b gts H1 s1 q1 a1 hb0 b1 A1 e1=>?_⟩
  have hgn:∀g∈mGr rs (others ps root) m,g.Sublist (others ps root):=fun g hg=>cQ (M.gl g hg).1
  have hgl:=M.gl
  have hgap:=M.ap
  have hgsm:=M.sm
  have hglen:(mGr rs (others ps root) m).length<=7:=Nat.le_trans (kl hgap fun g hg=>⟨((cy hno).mp (hgl g hg).1).2,fun x hx=>(hgn g hg).subset hx⟩) hol
  generalize hple:mPl (bx rs (others ps root) m) (others ps root)=pl at hft hpl48 hplo hpge hen a1 hgsm
  have hpn:∀x∈pl,aE x:=fun x hx=>G.nm x (cP.mp (hplo x hx)).1
  rw [<- e1] at hgn hgl hgap hgsm hglen
  have hgm:∀x∈gts,x.2∈gts.map (·.2):=fun x hx=>List.mem_map_of_mem (f:=fun z:Addr×List Str=>z.2) hx
  have hgnm:∀ts∈gts.map (·.2),∀y∈ts,aE y:=fun ts hts y hy=>G.nm y (cP.mp ((hgn ts hts).subset hy)).1
  refine⟨_,rfl,_,_,true,rfl,.tup q1,rfl,true,rfl,bb ?_⟩
  refine⟨_,rfl,q,_,rfl,.inr (SqT.of q1),rfl,_,rfl,bb ?_⟩
  refine⟨_,rfl,q,_,rfl,SqT.of q1,rfl,_,_,rfl,_,_,rfl,rfl,?_⟩
  refine⟨_,rfl,_,_,true,rfl,.tup a1,rfl,true,rfl,bb ?_⟩
  refine⟨_,rfl,a,_,rfl,.inr (SqT.of a1),fun l hl=>?_⟩
  have s2:=am (o:=.lst (pl.map V.str)) s1 hl
  have s12:=am (o:=.lst (pl.map V.str)) (af.refl H1) hl
  have l2:upd H1 l (.lst (pl.map V.str)) l=some (.lst (pl.map V.str)):=ag
  generalize upd H1 l (.lst (pl.map V.str))=H2 at s2 s12 l2 ⊢
  refine⟨_,rfl,a,pl,rfl,SqT.of (s12 _ _ a1),by omega,fun ss' q2 hpm hso hq2=>?_⟩
  have ess:ss'=pl:=jV hpm (qe hso) hpge
  subst ess
  have s3:=am (o:=.lst (ss'.map V.str)) s2 hq2
  have s23:=am (o:=.lst (ss'.map V.str)) (af.refl H2) hq2
  have l3:upd H2 q2 (.lst (ss'.map V.str)) q2=some (.lst (ss'.map V.str)):=ag
  generalize upd H2 q2 (.lst (ss'.map V.str))=H3 at s3 s23 l3 ⊢
  have s13:=s12.trans s23
  have a3:=s13 _ _ a1
  have b3:=s13 _ _ b1
  have A3:=A1.same s13
  refine⟨.list (ss'.map PyData.str),.list (ss'.map PyData.str),.lst (s23 _ _ l2) (DVs.strs _),.lst l3 (DVs.strs _),(cN hpn).1,(cN hpn).1,_,rfl,?_⟩
  have ev:PyData.eqv (.list (ss'.map PyData.str)) (.list (ss'.map PyData.str))=true:=by
   rw [show PyData.eqv (.list (ss'.map PyData.str)) (.list (ss'.map PyData.str))=decide (ss'=ss') from fw ss' ss'];simp
  rw [ev]
  refine bb ?_
  refine⟨_,rfl,_,_,true,rfl,.lst b3,rfl,true,rfl,bb ?_⟩
  have W3:=W.same s3
  refine⟨_,rfl,aH (j:=0) (.inr (SqT.of W3.tp)) rfl rfl ⟨pa,rfl,⟨_,SqT.of W3.pl⟩,fN (xs:=ps.map V.str) (fits (by rw [List.length_map];omega)) (fun i ys σ H5=>ys=((ps.take i).filter fun y=>!decide (y=root)).map V.str/\H5=H3/\∃x,σ=[x,some (.str root)]) ⟨rfl,rfl,_,rfl⟩
   (fun i ys σ H5 _ q=>⟨by rw [q.1,List.length_map];exact Nat.le_trans (List.length_filter_le _ _) (by rw [List.length_take];omega),by rw [q.2.1];exact SqT.of W3.pl⟩) ?_ ?_⟩⟩
  ·rintro i x ys σ H5 hx ⟨rfl,rfl,g,rfl⟩
   rw [List.getElem?_map] at hx
   cases hc:ps[i]? with
   | none=>rw [hc] at hx;cases hx
   | some z =>
    rw [hc] at hx
    cases hx
    have tf:=ck (fun y:Str=>!decide (y=root)) ps i z hc
    refine⟨_,rfl,_,rfl,rfl,_,rfl,?_⟩
    have e:(!decide (V.str z=V.str root))=!decide (z=root):=by congr 1;exact decide_eq_decide.mpr ⟨fun h=>V.str.inj h,fun h=>by rw [h]⟩
    rw [e]
    refine be (fun c=>⟨_,rfl,?_,rfl,_,rfl⟩) (fun c=>⟨?_,rfl,_,rfl⟩)
    ·rw [tf,c];simp
    ·rw [tf];simp only [Bool.not_eq_true] at c;rw [c];simp
  rintro ys σ H4 ⟨rfl,rfl,g,rfl⟩ oa hoa
  rw [take_all ps (by simp)]
  have s45:=am (o:=.lst ((ps.filter fun y=>!decide (y=root)).map V.str)) (af.refl H4) hoa
  have o5:upd H4 oa (.lst ((ps.filter fun y=>!decide (y=root)).map V.str)) oa=some (.lst ((others ps root).map V.str)):=ag
  generalize upd H4 oa (.lst ((ps.filter fun y=>!decide (y=root)).map V.str))=H5 at s45 o5 ⊢
  refine⟨_,rfl,oa,others ps root,rfl,o5,by omega,fun ev ets H6 s56 v6 A6 e6=>?_⟩
  have s46:=s45.trans s56
  have o6:=s56 _ _ o5
  have a6:=s46 _ _ a3
  refine⟨_,rfl,a,rfl,⟨_,SqT.of a6⟩,dU (xs:=ss'.map V.str) (fits (by rw [List.length_map];omega)) (fun i ys σ H7=>ys=(List.replicate i true).map V.bl/\H7=H6/\∃x,σ=[x,some (.ref oa)]) ⟨rfl,rfl,_,rfl⟩
   (fun i ys σ H7 _ p=>⟨by rw [p.1];simp,by rw [p.2.1];exact SqT.of a6⟩) ?_ ?_⟩
  ·rintro i x ys σ H7 hx ⟨rfl,rfl,g,rfl⟩
   rw [List.getElem?_map] at hx
   cases hc:ss'[i]? with
   | none=>rw [hc] at hx;cases hx
   | some z =>
    rw [hc] at hx
    cases hx
    refine⟨_,rfl,_,rfl,oa,(others ps root).map V.str,rfl,.inl (SqL.of o6),rfl,b9 _,?_⟩
    refine⟨?_,rfl,_,rfl⟩
    show _++[V.bl (inV (.str z) ((others ps root).map V.str))]=_
    rw [cf,decide_eq_true (hplo z (List.mem_of_getElem? hc)),List.replicate_succ',List.map_append]
    rfl
  rintro ys σ H7 ⟨rfl,rfl,g,rfl⟩ al hal
  have s78:=am (o:=.lst ((List.replicate (ss'.map V.str).length true).map V.bl)) (af.refl H7) hal
  refine⟨al,List.replicate (ss'.map V.str).length true,rfl,SqL.of ag,_,rfl,?_⟩
  have eall:∀n:Nat,(List.replicate n true).all id=true:=by simp
  rw [eall]
  refine bb ?_
  generalize upd H7 al (.lst ((List.replicate (ss'.map V.str).length true).map V.bl))=H8 at s78 ⊢
  have s48:=s46.trans s78
  have s08:=s3.trans s48
  have v8:=s78 _ _ v6
  have A8:=A6.same s78
  have henm:∀x∈ets,∀y∈x.2,aE y:=fun x hx y hy=>G.nm y (cP.mp ((cQ (ps:=others ps root) (by rw [<- e6];exact List.mem_map_of_mem (f:=fun z:Addr×List Str=>z.2) hx)).subset hy)).1
  have hel:ets.length<=255:=by
   have q:=gu (others ps root)
   have q2:=congrArg List.length e6
   rw [List.length_map] at q2
   have q3:=eW (show (others ps root).length<=8 by omega)
   omega
  refine⟨_,rfl,_,rfl,_,rfl,_,rfl,_,rfl,v,pa,ra,b,a,ev,ps,rs,(m:Int),gts,ets,ss',rfl,W.same s08,by omega,s48 _ _ b3,A3.same s48,s48 _ _ a3,v8,A8,fun x hx=>hgnm _ (hgm x hx),henm,by rw [<- List.length_map (f:=fun z:Addr×List Str=>z.2)];omega,
   fun x hx=>⟨by have:=(hgn _ (hgm x hx)).length_le;omega,hno.sublist (hgn _ (hgm x hx))⟩,fun x hx=>⟨by rw [e6];exact (hgl _ (hgm x hx)).1,(hgl _ (hgm x hx)).2⟩,hgap,by rw [<- hgsm,List.map_map];rfl,fun H9 s89=>⟨_,rfl,bb ?_⟩⟩
  have s49:=s48.trans s89
  have s09:=s3.trans s49
  have W9:=W.same s09
  have a9:=s49 _ _ a3
  refine⟨_,rfl,_,rfl,_,rfl,v,pa,ra,a,ps,rs,root,ss',rfl,W9,G,hrz,hroot,a9,fun x hx=>cP.mp (hplo x hx),hpl48,hft,fun v' ra' rs' new H10 sA W10 hpm' hnew G'=>?_⟩
  have hen':=hen rs' new hpm' hnew
  have hrz':rs'.length<=60:=by have:=G'.rz;simpa using this
  have s410:=s49.trans sA
  have v10:=sA _ _ (s89 _ _ v8)
  have A10:=(A8.same s89).same sA
  refine⟨_,rfl,ev,rfl,⟨_,SqL.of v10⟩,fG (xs:=ak ets) (fits (by rw [List.length_map];omega)) (fun i ys σ H11=>ys=[]/\af H10 H11/\∃x,σ=[x,some (.ref v'),some (.int m)]) ⟨rfl,af.refl _,_,rfl⟩
   (fun i ys σ H11 _ p=>⟨by rw [p.1];simp,SqL.of (p.2.1 _ _ v10)⟩) ?_ ?_⟩
  ·rintro i x ys σ H11 hx ⟨rfl,s11,g,rfl⟩
   obtain⟨lt,hlt,rfl⟩:=bZ hx
   have hm:=List.mem_of_getElem? hlt
   refine⟨_,rfl,_,rfl,v',lt.1,pa,ra',ps,lt.2,rs',rfl,W10.same s11,hrz',s11 _ _ (A10 lt hm),fun H12 s12'=>⟨_,rfl,_,_,rfl,rfl,_,rfl,?_⟩⟩
   have hl:=hen' lt.2 (by rw [<- e6];exact List.mem_map_of_mem (f:=fun z:Addr×List Str=>z.2) hm)
   have hl':(m:Int)<=((rs'.filter (lead lt.2)).length:Int):=hl
   exact nB (by omega) ⟨rfl,s11.trans s12',_,rfl⟩
  rintro ys σ H11 ⟨rfl,s11,g,rfl⟩ x1 hx1
  have s12':=am (o:=.lst []) s11 hx1
  have x12:upd H11 x1 (.lst []) x1=some (.lst []):=ag
  generalize upd H11 x1 (.lst [])=H12 at s12' x12 ⊢
  refine⟨Nat.zero_le _,fun x2 hx2=>?_⟩
  have s13':=am (o:=.lst []) (af.refl H12) hx2
  have x13:upd H12 x2 (.lst []) x2=some (.lst []):=ag
  generalize upd H12 x2 (.lst [])=H13 at s13' x13 ⊢
  refine⟨.list [],.list [],.lst (s13' _ _ x12) .nil,.lst x13 .nil,(cN (ss:=[]) (by simp)).1,(cN (ss:=[]) (by simp)).1,_,rfl,?_⟩
  rw [show PyData.eqv (.list []) (.list [])=true from by simp [PyData.eqv,PyData.eqvAll]]
  refine bb ?_
  have s1013:=s12'.trans s13'
  have W13:=W10.same s1013
  refine⟨_,rfl,aH (j:=1) (.inr (SqT.of W13.tp)) rfl rfl ⟨ra',_,rfl,.inr (SqT.of W13.rl),_,_,rfl,rfl,_,rfl,be (fun c=>?p1) (fun c=>bb ?p2)⟩⟩
  case' p1 =>
   refine⟨_,rfl,_,rfl,_,rfl,v',pa,ra',ps,rs',root,m,rfl,W13,G',h8,hroot,hm6,fun l hl=>by have:=hen' l hl;omega,fun H14 s14 sq trs tls cur hsq sq14 A14 R14=>?_⟩
   refine⟨sq,_,rfl,.inl (SqL.of sq14),_,rfl,rfl,_,rfl,?_⟩
   have en:(!decide (V.int ((ak tls).length:Int)=V.int (m:Int)))=false:=by
    rw [List.length_map,R14.l2];simp
   rw [en]
   refine bb ?_
   have sF:=s410.trans (s1013.trans s14)
   generalize H14=HF at sF ⊢
  case' p2 =>
   have sF:=s410.trans s1013
   generalize H13=HF at sF ⊢
  all_goals
   have aF:=sF _ _ a3
   have bF:=sF _ _ b3
   have AF:=A3.same sF
   have s0F:=s3.trans sF
   refine⟨_,rfl,_,rfl,b,_,rfl,.inl (SqL.of bF),fun k1 hk1=>?_⟩
   have sG:=am (o:=.lst (ak gts)) (af.refl HF) hk1
   have k1G:upd HF k1 (.lst (ak gts)) k1=some (.lst (ak gts)):=ag
   generalize upd HF k1 (.lst (ak gts))=HG at sG k1G ⊢
   refine⟨by show 2<=sizeLine;decide,fun k2 hk2=>?_⟩
   have sI:=am (o:=.tup [.ref a,.ref k1]) (af.refl HG) hk2
   have k2I:upd HG k2 (.tup [.ref a,.ref k1]) k2=some (.tup [.ref a,.ref k1]):=ag
   generalize upd HG k2 (.tup [.ref a,.ref k1])=HI at sI k2I ⊢
   have sFI:=sG.trans sI
   have bI:=sFI _ _ bF
   have k1I:=sI _ _ k1G
   have nk1:k1≠b:=fun z=>by rw [z,bF] at hk1;cases hk1
   refine⟨_,rfl,.inl ⟨rfl,_,SqL.of bI⟩,_,rfl,b,ak gts,_,rfl,rfl,bI,fits (by rw [List.length_map];rw [List.length_map] at hglen;omega),?_⟩
   have s0I:=s0F.trans sFI
   have s0J:=cm (o:=.lst (ak gts++[.ref a])) s0I hb0
   have keepJ:∀c o,c≠b->HI c=some o->upd HI b (.lst (ak gts++[.ref a])) c=some o:=fun c o hc e=>by rw [aj hc];exact e
   generalize upd HI b (.lst (ak gts++[.ref a]))=HJ at s0J keepJ ⊢
   have k2J:=keepJ _ _ (eZ k2I bI (by intro z;cases z)) k2I
   have k1J:=keepJ _ _ nk1 k1I
   have aJ:=keepJ _ _ (eZ (sFI _ _ aF) bI (by intro z;cases z)) (sFI _ _ aF)
   have AJ:aO HJ gts:=fun x hx=>keepJ _ _ (eZ (sFI _ _ (AF x hx)) bI (by intro z;cases z)) (sFI _ _ (AF x hx))
   refine⟨_,rfl,_,rfl,_,rfl,v,pa,ra,ps,rs,root,(m:Int),rfl,W.same s0J,G,h8,hroot,by omega,by omega,M.bd,fun q' a' b' gts' HK sK qK aK _ bK AK eK=>⟨_,rfl,?_⟩⟩
   rw [hple] at aK
   have eg:gts'.map (·.2)=gts.map (·.2):=by rw [eK,e1]
   obtain⟨sh1,sh2⟩:=shM hpn hgnm
   refine⟨mD ss' (gts'.map (·.2)),mD ss' (gts.map (·.2)),.tup qK (.cons (.tup aK (DVs.strs _)) (.cons (.lst bK (jt AK)) .nil)),.tup (sK _ _ k2J) (.cons (.tup (sK _ _ aJ) (DVs.strs _)) (.cons (.lst (sK _ _ k1J) (jt (AJ.same sK))) .nil)),by rw [eg];exact sh1,sh1,?_⟩
   rw [eg,kM _ sh2]
   exact k _ (s0J.trans sK)
end
section
variable {P:Program}{w:World}{K:PySem.W.Frag}{mg:Str->Option Value}{base:Heap}
noncomputable def gN (K:PySem.W.Frag):Sp:=fun vs H Q _=>∃(a:Addr) (ns:List Int),vs=[.ref a]/\SqL K H a (ns.map V.int)/\ns.length<=63/\∀H',Q (.bl true) H'
noncomputable abbrev N51:List Str:=["_law_script","_law_k","_law_pot_here","_law_web_here","_law_places","_law_root","_law_many"]
theorem dM:aP N51 ["_law_script"] (aC (top 51)):=⟨rfl,rfl,rfl,by decide +kernel,rfl,by decide +kernel,by decide +kernel⟩
theorem u7 {f:Addr}{fd:FuncData} (F:Fun K "law" "law" (top 51) f fd) (B:Bl mg) (Fp:Fn P w K mg base 1 "_law_pot" ["_law_script","_law_k"] (ni K)) (Ft:Fn P w K mg base 1 "_law_take" ["_law_pot_here","_law_many"] dz) (Fg:Fn P w K mg base 3 "_law_web" ["_law_pot_here"] mE)
  (Fh:Fn P w K mg base 2 "_law_thinned" ["_law_pot_here","_law_web_here"] mQ) (Fr:Fn P w K mg base 7 "_law_right" ["_law_web_here","_law_root","_law_many"] lS):aG P w K mg base CX0 8 f fd ["_law_script"] (gN K):=by
 refine F.ok dM (fun vs H Q E h=>?_) (fun cdv A outer s H vs Q E hr h=>?_)
 ·obtain⟨a,ns,rfl,_⟩:=h
  rfl
 ·obtain⟨a,sc,rfl,hS,hlen,k⟩:=h
  have hr1:aN 1 _:=hr.mono (by decide)
  have hr2:aN 2 _:=hr.mono (by decide)
  have hr3:aN 3 _:=hr.mono (by decide)
  refine⟨_,ao (bP PassesOwn.never rfl (cW rfl B.range (aa (aA (kq rfl) rfl B.max jq (aa ai (aa (aA (iD rfl) rfl B.min jm (aa (aA bA rfl B.len PySem.boot_len (aa (pv 0) ae)) (aa ai ae))) ae))) ae)) (aX (i:=1) dM.nd rfl (Or.inl rfl))
    (ao (aL (i:=2) dM.nd rfl (Or.inl rfl) (aw Fp hr1 (aa (pv 0) (aa (pv 1) ae))))
    (ao (dA (aw Fg hr3 (aa (pv 2) ae)) (c9 rfl (n:=2) (bB (aX (i:=3) dM.nd rfl (Or.inl rfl)) (bB (aX (i:=4) dM.nd rfl (Or.inl rfl)) cI))))
    (ao (aL (i:=3) dM.nd rfl (Or.inl rfl) (aw Fh hr2 (aa (pv 2) (aa (pv 3) ae))))
    (ao (aL (i:=5) dM.nd rfl (Or.inl rfl) (aD aW (bD (aa (aD aW (pv 4) ai (fun _ _=>rfl)) (aa (aD aW (pv 4) ai (fun _ _=>rfl)) (aa (aD aW (pv 4) (aw Ft hr1 (aa (pv 2) (aa (aA bA rfl B.len PySem.boot_len (aa (pv 4) ae)) ae))) (fun _ _=>rfl)) ae)))) (aw Ft hr1 (aa (pv 2) (aa ai ae))) (fun _ _=>rfl)))
    (ax (bP PassesOwn.never rfl (bg (bD (aa (aw Ft hr1 (aa (pv 2) (aa ai ae))) (aa (aB bU ai (aw Ft hr1 (aa (pv 2) (aa ai ae)))) (aa ai ae))))) (aX (i:=6) dM.nd rfl (Or.inl rfl))
     (ax (bh (bL (bE (aw Fr hr (aa (pv 3) (aa (pv 5) (aa (pv 6) ae)))))) cx bf)))))))))
   (ax (aI fb)),?_⟩
  refine⟨_,rfl,a,_,rfl,.inl hS,_,_,rfl,_,_,rfl,_,rfl,?_,?_,?_⟩
  ·repeat' split
   all_goals omega
  ·repeat' split
   all_goals omega
  have hn9:∀x:Int,x=(if (if (2:Int) < ((sc.map V.int).length:Int) then 2 else ((sc.map V.int).length:Int)) > 1 then (if (2:Int) < ((sc.map V.int).length:Int) then 2 else ((sc.map V.int).length:Int)) else 1)->x.toNat<=8:=fun x hx=>by
   subst hx
   repeat' split
   all_goals omega
  refine fH (fun i σ H1=>(∃g1 g2 g3 g4 g5 g6,σ=[some (.ref a),g1,g2,g3,g4,g5,g6])/\af H H1) ⟨⟨_,_,_,_,_,_,rfl⟩,af.refl _⟩ ?_ (fun σ H1 _=>k H1)
  rintro i σ H1 hi ⟨⟨g1,g2,g3,g4,g5,g6,rfl⟩,s1⟩
  have hi8:i < 8:=Nat.lt_of_lt_of_le hi (hn9 _ rfl)
  refine⟨_,rfl,_,rfl,a,sc,_,rfl,s1.seq hS,by omega,by omega,fun p H2 s2 p0 P2=>?_⟩
  refine⟨_,rfl,p,rfl,P2,fun w0 u pl pa ra ns ps rs0 H3a P3a w3 W3a G0 p8 r40 hF n3a nin n1 n8 K3a=>?_⟩
  have npl:=fQ P3a n3a
  refine⟨w0,_,rfl,SqT.of w3,rfl,_,_,rfl,_,_,rfl,rfl,?_⟩
  refine⟨_,rfl,_,rfl,p,u,pa,ra,ps,rs0,rfl,P3a,W3a,r40,fun u ra rs H3 P3 W3 hsub K3b=>?_⟩
  have K3:=K3a.trans K3b
  have n3:=K3b.at npl n3a
  have G:=G0.sub hsub
  have hnl:(ns.map V.str).length=ns.length:=by simp
  have n0:0 < ns.length:=by omega
  refine⟨_,rfl,aH (j:=0) (.inl (SqL.of n3)) rfl (strAt n0) ⟨_,rfl,aH (j:=0) (.inl (SqL.of n3)) rfl (strAt n0) ⟨_,rfl,_,rfl,_,rfl,pl,_,rfl,.inl (SqL.of n3),p,_,rfl,P3,by omega,by omega,fun r H4 r0 r1 P4 K4=>?_⟩⟩⟩
  rw [hnl] at r1
  have n4:=K4.at npl n3
  have hrl:r.toNat < ns.length:=by omega
  refine aH (j:=r.toNat) (.inl (SqL.of n4)) (by omega) (strAt hrl) ⟨by show 3<=sizeLine;decide,fun t ht=>?_⟩
  have K34:=K3.trans K4
  have ntp:=P4.ne_new ht
  have P5:=P4.new (o:=.lst [.str ns[0],.str ns[0],.str ns[r.toNat]]) ht
  have K5:=K34.new (o:=.lst [.str ns[0],.str ns[0],.str ns[r.toNat]]) ht
  have K35:=K4.new (o:=.lst [.str ns[0],.str ns[0],.str ns[r.toNat]]) ht
  have t5:upd H4 t (.lst [.str ns[0],.str ns[0],.str ns[r.toNat]]) t=some (.lst [.str ns[0],.str ns[0],.str ns[r.toNat]]):=ag
  generalize upd H4 t (.lst [.str ns[0],.str ns[0],.str ns[r.toNat]])=H5 at P5 K5 K35 t5 ⊢
  refine⟨_,rfl,p,3,rfl,P5,by decide,by decide,fun r3 H6 q0 q1 P6 K6=>?_⟩
  have t6:=K6.at ntp t5
  have hpick:∃root,root∈ps/\([V.str ns[0],V.str ns[0],V.str ns[r.toNat]]:List V)[r3.toNat]?=some (.str root):=by
   have:r3=0\/r3=1\/r3=2:=by omega
   rcases this with rfl | rfl | rfl
   ·exact⟨_,nin _ (List.getElem_mem n0),rfl⟩
   ·exact⟨_,nin _ (List.getElem_mem n0),rfl⟩
   ·exact⟨_,nin _ (List.getElem_mem hrl),rfl⟩
  obtain⟨root,hroot,hpk⟩:=hpick
  have K36:=K35.trans K6
  have K26:=K5.trans K6
  have W6:bv H6 u pa ra ps rs:=W3.kp K36 P3
  refine aH (j:=r3.toNat) (.inl (SqL.of t6)) (by omega) hpk ?_
  refine⟨_,rfl,p,7,rfl,P6,by decide,by decide,fun m1 H7 a0 a1 P7 K7=>⟨_,rfl,p,3,rfl,P7,by decide,by decide,fun m2 H8 b0 b1 P8 K8=>⟨_,_,rfl,rfl,by show 3<=sizeLine;decide,fun ml hml=>?_⟩⟩⟩
  have W8:bv H8 u pa ra ps rs:=(W6.kp K7 P6).kp K8 P7
  have K28:=(K26.trans K7).trans K8
  have sH8:af H1 H8:=fun b o e=>K28 b o (s2 b o e) (by simp;exact aV e p0)
  obtain⟨n1',rfl⟩:=Int.eq_ofNat_of_zero_le a0
  obtain⟨n2',rfl⟩:=Int.eq_ofNat_of_zero_le b0
  have s89:=am (o:=.lst [.int n1',.int (1 + n2'),.int 0]) (af.refl H8) hml
  have m9:upd H8 ml (.lst [.int n1',.int (1 + n2'),.int 0]) ml=some (.lst [.int n1',.int (1 + n2'),.int 0]):=ag
  generalize upd H8 ml (.lst [.int n1',.int (1 + n2'),.int 0])=H9 at s89 m9 ⊢
  have W9:=W8.same s89
  refine⟨ml,rfl,⟨_,SqL.of m9⟩,dr (K:=K) (a:=ml) (xs:=[.int n1',.int (1 + n2'),.int 0]) (fun j σ H10=>(∃g1 g2 g3 g6,σ=[some (.ref a),g1,g2,some (.ref u),g3,some (.str root),g6])/\af H9 H10) ⟨⟨_,_,_,_,rfl⟩,af.refl _⟩ (fun j σ H10 _ q=>SqL.of (q.2 _ _ m9)) ?_ (fun σ H10 q=>?_)⟩
  ·rintro j x σ H10 hx ⟨⟨h1,h2,h3,h6,rfl⟩,s10⟩
   have hm:∃m:Nat,x=.int m/\m<=6:=by
    rcases j with _ | _ | _ | j
    ·cases hx;exact⟨n1',rfl,by omega⟩
    ·cases hx;exact⟨1 + n2',by simp,by omega⟩
    ·cases hx;exact⟨0,rfl,by omega⟩
    ·simp at hx
   obtain⟨m,rfl,hm6⟩:=hm
   refine⟨_,rfl,_,rfl,_,rfl,u,pa,ra,ps,rs,rs0,root,m,rfl,W9.same s10,G,p8,hroot,hm6,hsub,hF,r40,fun H11 s11=>⟨_,rfl,bb ⟨⟨_,_,_,_,rfl⟩,s10.trans s11⟩⟩⟩
  ·obtain⟨⟨h1,h2,h3,h6,rfl⟩,s10⟩:=q
   exact⟨⟨_,_,_,_,_,_,rfl⟩,s1.trans (sH8.trans (s89.trans s10))⟩
end
noncomputable def aS (K:PySem.W.Frag) (x:Str) (st:Stmt):Prop:=∃(f:Addr) (oc:Value) (od:Option Addr) (kV doc pm:Value) (an:Option Addr) (cd ct:Value) (sl:Array (Option Value)),
 PySem.W.nsIn K mainGlobals x=some (some (.ref f))/\K.lookup f=some ⟨oc,od,.func (PySem.W.fnOf x x (du st) (cY st) (aC st) .none kV doc pm an cd ct),sl⟩/\PySem.W.codeIn K cd x=true/\PySem.W.keepIn K (.ref f)=true
theorem wW {K:PySem.W.Frag}{x:Str}{st:Stmt}{f:Addr}{oc:Value}{od:Option Addr}{kV doc pm:Value}{an:Option Addr}{cd ct:Value}{sl:Array (Option Value)} (a:PySem.W.nsIn K mainGlobals x=some (some (.ref f)))
  (l:K.lookup f=some ⟨oc,od,.func (PySem.W.fnOf x x (du st) (cY st) (aC st) .none kV doc pm an cd ct),sl⟩) (c:PySem.W.codeIn K cd x=true) (k:PySem.W.keepIn K (.ref f)=true):aS K x st :=
 ⟨f,oc,od,kV,doc,pm,an,cd,ct,sl,a,l,c,k⟩
theorem aT {P:Program}{w:World}{K:PySem.W.Frag}{mg:Str->Option Value}{base h:Heap}{x:Str}{st:Stmt}{k:Nat}{ps:List Str}{sp:Sp} (D:aS K x st) (X:K.In h) (G:h.Ns mainGlobals mg)
  (hb:∀(kV doc pm:Value) (an:Option Addr) (cdv ct:Value) (us:List Value),us.length=ps.length->bindArgs (PySem.W.fnOf x x (du st) (cY st) (aC st) .none kV doc pm an cdv ct) ⟨us,[]⟩=pure (ps.zip us))
  (ok:∀(f:Addr) (fd:FuncData),Fun K x x st f fd->aG P w K mg base CX0 k f fd ps sp):Fn P w K mg base k x ps sp:=by
 obtain⟨f,oc,od,kV,doc,pm,an,cd,ct,sl,a,l,c,kk⟩:=D
 have F:=mG (st:=st) l c kk
 exact⟨f,_,PySem.W.mg_of X G a,kk,F.binds hb,ok f _ F⟩
theorem wY {l:PySem.W.OpenLaw}{w:World}{K:PySem.W.Frag}{h:Heap}{mg:Str->Option Value}{fa:Addr} (X:K.In h) (G:h.Ns mainGlobals mg) (hfa:mg "law"=some (.ref fa)) (B:Bl mg)
  (d8:aS K "is_name" (top 8))
  (d9:aS K "is_whole" (top 9))
  (d10:aS K "is_rising" (top 10))
  (d11:aS K "is_sorted_names" (top 11))
  (d12:aS K "is_among" (top 12))
  (d13:aS K "is_tie_row" (top 13))
  (d14:aS K "is_web" (top 14))
  (d15:aS K "need_web" (top 15))
  (d16:aS K "need_number" (top 16))
  (d17:aS K "need_place" (top 17))
  (d18:aS K "leads_into" (top 18))
  (d21:aS K "lots_among" (top 21))
  (d22:aS K "lots_without" (top 22))
  (d23:aS K "counts_into" (top 23))
  (d24:aS K "need_of" (top 24))
  (d25:aS K "spare_into" (top 25))
  (d26:aS K "next_row" (top 26))
  (d27:aS K "grown" (top 27))
  (d28:aS K "need_enough" (top 28))
  (d29:aS K "trees_from" (top 29))
  (d30:aS K "shares" (top 30))
  (d32:aS K "put_into" (top 32))
  (d33:aS K "fewest_put" (top 33))
  (d34:aS K "greatest" (top 34))
  (d35:aS K "mended" (top 35))
  (d37:aS K "_law_pot" (top 37))
  (d38:aS K "_law_take" (top 38))
  (d39:aS K "_law_names" (top 39))
  (d40:aS K "_law_pairs" (top 40))
  (d41:aS K "_law_named" (top 41))
  (d42:aS K "_law_called" (top 42))
  (d43:aS K "_law_web" (top 43))
  (d44:aS K "_law_lots" (top 44))
  (d45:aS K "_law_into" (top 45))
  (d46:aS K "_law_thinned" (top 46))
  (d47:aS K "_law_with" (top 47))
  (d48:aS K "_law_are_apart" (top 48))
  (d49:aS K "_law_shows" (top 49))
  (d50:aS K "_law_right" (top 50))
  (d51:aS K "law" (top 51)) :
  ∃fd:FuncData,(∀(s:Shared) (v:Value),BindsTo s fd ⟨[v],[]⟩ [("_law_script",v)])/\∀base:Heap,K.In base->base.Ns mainGlobals mg->aG l.prog w K mg base CX0 8 fa fd ["_law_script"] (gN K):=by
 obtain⟨f,oc,od,kV,doc,pm,an,cd,ct,sl,a,lk,c,kk⟩:=d51
 have e:=hfa.symm.trans (PySem.W.mg_of X G a)
 cases e
 refine⟨PySem.W.fnOf "law" "law" (du (top 51)) (cY (top 51)) (aC (top 51)) .none kV doc pm an cd ct,fun s v=>.of_eq rfl,fun base KB _=>?_⟩
 have n8:=aT (P:=l.prog) (w:=w) (base:=base) d8 X G (ps:=["thing"]) (fun _ _ _ _ _ _ us hl=>match us,hl with | [_],_=>rfl) fun f fd F=>o8 F B
 have n9:=aT (P:=l.prog) (w:=w) (base:=base) d9 X G (ps:=["thing"]) (fun _ _ _ _ _ _ us hl=>match us,hl with | [_],_=>rfl) fun f fd F=>oY F B
 have n10:=aT (P:=l.prog) (w:=w) (base:=base) d10 X G (ps:=["names"]) (fun _ _ _ _ _ _ us hl=>match us,hl with | [_],_=>rfl) fun f fd F=>oB F B
 have n11:=aT (P:=l.prog) (w:=w) (base:=base) d11 X G (ps:=["thing"]) (fun _ _ _ _ _ _ us hl=>match us,hl with | [_],_=>rfl) fun f fd F=>oG F B n8 n10
 have n12:=aT (P:=l.prog) (w:=w) (base:=base) d12 X G (ps:=["thing","names"]) (fun _ _ _ _ _ _ us hl=>match us,hl with | [_,_],_=>rfl) fun f fd F=>oU F B
 have n13:=aT (P:=l.prog) (w:=w) (base:=base) d13 X G (ps:=["thing","places"]) (fun _ _ _ _ _ _ us hl=>match us,hl with | [_,_],_=>rfl) fun f fd F=>ot F B n8 n12
 have n14:=aT (P:=l.prog) (w:=w) (base:=base) d14 X G (ps:=["thing"]) (fun _ _ _ _ _ _ us hl=>match us,hl with | [_],_=>rfl) fun f fd F=>p9 F B n11 n13 n10
 have n15:=aT (P:=l.prog) (w:=w) (base:=base) d15 X G (ps:=["thing"]) (fun _ _ _ _ _ _ us hl=>match us,hl with | [_],_=>rfl) fun f fd F=>oO F n14
 have n16:=aT (P:=l.prog) (w:=w) (base:=base) d16 X G (ps:=["thing","low","high"]) (fun _ _ _ _ _ _ us hl=>match us,hl with | [_,_,_],_=>rfl) fun f fd F=>om F n9
 have n17:=aT (P:=l.prog) (w:=w) (base:=base) d17 X G (ps:=["web","thing"]) (fun _ _ _ _ _ _ us hl=>match us,hl with | [_,_],_=>rfl) fun f fd F=>oo F n12
 have n18:=aT (P:=l.prog) (w:=w) (base:=base) d18 X G (ps:=["row","lot"]) (fun _ _ _ _ _ _ us hl=>match us,hl with | [_,_],_=>rfl) fun f fd F=>ou F
 have n21:=aT (P:=l.prog) (w:=w) (base:=base) d21 X G (ps:=["places"]) (fun _ _ _ _ _ _ us hl=>match us,hl with | [_],_=>rfl) fun f fd F=>oy F B
 have n22:=aT (P:=l.prog) (w:=w) (base:=base) d22 X G (ps:=["web","root"]) (fun _ _ _ _ _ _ us hl=>match us,hl with | [_,_],_=>rfl) fun f fd F=>oi F n21
 have n23:=aT (P:=l.prog) (w:=w) (base:=base) d23 X G (ps:=["rows","lots"]) (fun _ _ _ _ _ _ us hl=>match us,hl with | [_,_],_=>rfl) fun f fd F=>pX F n18
 have n24:=aT (P:=l.prog) (w:=w) (base:=base) d24 X G (ps:=["roots","lot"]) (fun _ _ _ _ _ _ us hl=>match us,hl with | [_,_],_=>rfl) fun f fd F=>pk F B
 have n25:=aT (P:=l.prog) (w:=w) (base:=base) d25 X G (ps:=["rows","lots","roots"]) (fun _ _ _ _ _ _ us hl=>match us,hl with | [_,_,_],_=>rfl) fun f fd F=>rH F n23 n24
 have n26:=aT (P:=l.prog) (w:=w) (base:=base) d26 X G (ps:=["rows","found","spare"]) (fun _ _ _ _ _ _ us hl=>match us,hl with | [_,_,_],_=>rfl) fun f fd F=>tH F B n18
 have n27:=aT (P:=l.prog) (w:=w) (base:=base) d27 X G (ps:=["places","rows","root","later"]) (fun _ _ _ _ _ _ us hl=>match us,hl with | [_,_,_,_],_=>rfl) fun f fd F=>rK F B n25 n21 n26
 have n28:=aT (P:=l.prog) (w:=w) (base:=base) d28 X G (ps:=["web","roots"]) (fun _ _ _ _ _ _ us hl=>match us,hl with | [_,_],_=>rfl) fun f fd F=>qx F n25 n21
 have n29:=aT (P:=l.prog) (w:=w) (base:=base) d29 X G (ps:=["web","roots"]) (fun _ _ _ _ _ _ us hl=>match us,hl with | [_,_],_=>rfl) fun f fd F=>qI F B n28 n27
 have n30:=aT (P:=l.prog) (w:=w) (base:=base) d30 X G (ps:=["web","root","many"]) (fun _ _ _ _ _ _ us hl=>match us,hl with | [_,_,_],_=>rfl) fun f fd F=>pV F B n15 n17 n16 n29
 have n32:=aT (P:=l.prog) (w:=w) (base:=base) d32 X G (ps:=["put","lot"]) (fun _ _ _ _ _ _ us hl=>match us,hl with | [_,_],_=>rfl) fun f fd F=>su F B.sum
 have n33:=aT (P:=l.prog) (w:=w) (base:=base) d33 X G (ps:=["places","short","many"]) (fun _ _ _ _ _ _ us hl=>match us,hl with | [_,_,_],_=>rfl) fun f fd F=>pb F B n32
 have n34:=aT (P:=l.prog) (w:=w) (base:=base) d34 X G (ps:=["lots"]) (fun _ _ _ _ _ _ us hl=>match us,hl with | [_],_=>rfl) fun f fd F=>oX F B
 have n35:=aT (P:=l.prog) (w:=w) (base:=base) d35 X G (ps:=["web","root","many"]) (fun _ _ _ _ _ _ us hl=>match us,hl with | [_,_,_],_=>rfl) fun f fd F=>qj F B n15 n17 n16 n22 n23 n33 n32 n34
 have n37:=aT (P:=l.prog) (w:=w) (base:=base) d37 X G (ps:=["_law_script","_law_k"]) (fun _ _ _ _ _ _ us hl=>match us,hl with | [_,_],_=>rfl) fun f fd F=>uY F B
 have n38:=aT (P:=l.prog) (w:=w) (base:=base) d38 X G (ps:=["_law_pot_here","_law_many"]) (fun _ _ _ _ _ _ us hl=>match us,hl with | [_,_],_=>rfl) fun f fd F=>tO F B
 have n39:=aT (P:=l.prog) (w:=w) (base:=base) d39 X G (ps:=["_law_pot_here","_law_many"]) (fun _ _ _ _ _ _ us hl=>match us,hl with | [_,_],_=>rfl) fun f fd F=>rC F B n38
 have n40:=aT (P:=l.prog) (w:=w) (base:=base) d40 X G (ps:=["_law_pot_here","_law_many"]) (fun _ _ _ _ _ _ us hl=>match us,hl with | [_,_],_=>rfl) fun f fd F=>qX F B n38
 have n41:=aT (P:=l.prog) (w:=w) (base:=base) d41 X G (ps:=["_law_pot_here","_law_names_here"]) (fun _ _ _ _ _ _ us hl=>match us,hl with | [_,_],_=>rfl) fun f fd F=>rJ F B n38
 have n42:=aT (P:=l.prog) (w:=w) (base:=base) d42 X G (ps:=["_law_pot_here","_law_ties","_law_places"]) (fun _ _ _ _ _ _ us hl=>match us,hl with | [_,_,_],_=>rfl) fun f fd F=>pP F B n38
 have n43:=aT (P:=l.prog) (w:=w) (base:=base) d43 X G (ps:=["_law_pot_here"]) (fun _ _ _ _ _ _ us hl=>match us,hl with | [_],_=>rfl) fun f fd F=>uS F B n38 n39 n41 n40 n42
 have n44:=aT (P:=l.prog) (w:=w) (base:=base) d44 X G (ps:=["_law_places"]) (fun _ _ _ _ _ _ us hl=>match us,hl with | [_],_=>rfl) fun f fd F=>rX F B
 have n45:=aT (P:=l.prog) (w:=w) (base:=base) d45 X G (ps:=["_law_web_here","_law_lot"]) (fun _ _ _ _ _ _ us hl=>match us,hl with | [_,_],_=>rfl) fun f fd F=>sJ F B
 have n46:=aT (P:=l.prog) (w:=w) (base:=base) d46 X G (ps:=["_law_pot_here","_law_web_here"]) (fun _ _ _ _ _ _ us hl=>match us,hl with | [_,_],_=>rfl) fun f fd F=>sx F B n38
 have n47:=aT (P:=l.prog) (w:=w) (base:=base) d47 X G (ps:=["_law_web_here","_law_root","_law_places"]) (fun _ _ _ _ _ _ us hl=>match us,hl with | [_,_,_],_=>rfl) fun f fd F=>sg F B
 have n48:=aT (P:=l.prog) (w:=w) (base:=base) d48 X G (ps:=["_law_lots_here"]) (fun _ _ _ _ _ _ us hl=>match us,hl with | [_],_=>rfl) fun f fd F=>rm F B
 have n49:=aT (P:=l.prog) (w:=w) (base:=base) d49 X G (ps:=["_law_web_here","_law_many","_law_lots_here","_law_places","_law_every"]) (fun _ _ _ _ _ _ us hl=>match us,hl with | [_,_,_,_,_],_=>rfl) fun f fd F=>rE F B n45 n48
 have n50:=aT (P:=l.prog) (w:=w) (base:=base) d50 X G (ps:=["_law_web_here","_law_root","_law_many"]) (fun _ _ _ _ _ _ us hl=>match us,hl with | [_,_,_],_=>rfl) fun f fd F=>rB F B n35 n44 n49 n47 n45 n30
 exact u7 (mG (st:=top 51) lk c kk) B n37 n38 n43 n46 n50
theorem w6 {K:PySem.W.Frag}{h:Heap}{mg:Str->Option Value} (X:K.In h) (G:h.Ns mainGlobals mg) {t_most:Tok}{t_lng:Tok}
  (z_len:PySem.W.nsIn K mainGlobals "len"=some none)
  (z_isinstance:PySem.W.nsIn K mainGlobals "isinstance"=some none)
  (z_all:PySem.W.nsIn K mainGlobals "all"=some none)
  (z_range:PySem.W.nsIn K mainGlobals "range"=some none)
  (z_sorted:PySem.W.nsIn K mainGlobals "sorted"=some none)
  (z_repr:PySem.W.nsIn K mainGlobals "repr"=some none)
  (z_max:PySem.W.nsIn K mainGlobals "max"=some none)
  (z_min:PySem.W.nsIn K mainGlobals "min"=some none)
  (z_str:PySem.W.nsIn K mainGlobals "str"=some none)
  (z_tuple:PySem.W.nsIn K mainGlobals "tuple"=some none)
  (z_list:PySem.W.nsIn K mainGlobals "list"=some none)
  (z_int:PySem.W.nsIn K mainGlobals "int"=some none)
  (z_bool:PySem.W.nsIn K mainGlobals "bool"=some none)
  (z_zip:PySem.W.nsIn K mainGlobals "zip"=some none)
  (z_divmod:PySem.W.nsIn K mainGlobals "divmod"=some none)
  (z_abs:PySem.W.nsIn K mainGlobals "abs"=some none)
  (z_set:PySem.W.nsIn K mainGlobals "set"=some none)
  (z_enumerate:PySem.W.nsIn K mainGlobals "enumerate"=some none)
  (z_sum:PySem.W.nsIn K mainGlobals "sum"=some none)
  (z_most:PySem.W.nsIn K mainGlobals "MOST_TREES"=some (some (.int 6 t_most)))
  (z_lng:PySem.W.nsIn K mainGlobals "LONGEST_NAME"=some (some (.int 8 t_lng)))
  : Bl mg :=
 ⟨PySem.W.mg_none_of X G z_len,PySem.W.mg_none_of X G z_isinstance,PySem.W.mg_none_of X G z_all,PySem.W.mg_none_of X G z_range,PySem.W.mg_none_of X G z_sorted,PySem.W.mg_none_of X G z_repr,PySem.W.mg_none_of X G z_max,PySem.W.mg_none_of X G z_min,PySem.W.mg_none_of X G z_str,PySem.W.mg_none_of X G z_tuple,PySem.W.mg_none_of X G z_list,PySem.W.mg_none_of X G z_int,PySem.W.mg_none_of X G z_bool,PySem.W.mg_none_of X G z_zip,PySem.W.mg_none_of X G z_divmod,PySem.W.mg_none_of X G z_abs,PySem.W.mg_none_of X G z_set,PySem.W.mg_none_of X G z_enumerate,PySem.W.mg_none_of X G z_sum,⟨t_most,PySem.W.mg_of X G z_most⟩,⟨t_lng,PySem.W.mg_of X G z_lng⟩⟩
theorem walk {l:PySem.W.OpenLaw}{q:Program}{loose:List Str}{XP:(Str->Option Value)->Heap->Prop}{YP:World->Heap->Prop}{d:DefRec}{K:Params->PySem.W.Frag} (hn:l.most=some 63) (hdf:d.params.defaults=[])
  (hY:∀(w:World) (h:Heap),YP w h->(K w.params).In h)
  (F:∀(w:World) (mg:Str->Option Value) (fa:Addr) (h:Heap),(K w.params).In h->h.Ns mainGlobals mg->mg d.name=some (.ref fa) ->
   ∃fd:FuncData,(∀(s:Shared) (u:Value),BindsTo s fd ⟨[u],[]⟩ [("_law_script",u)])/\∀base:Heap,(K w.params).In base->base.Ns mainGlobals mg->aG l.prog w (K w.params) mg base CX0 8 fa fd ["_law_script"] (gN (K w.params))) :
  PySem.W.WalkO q loose XP YP l.row.toRowW d [] (fun f vs=>PySem.call f vs) :=
 L2.wU (n:=63) (k:=8) (x:="_law_script") (CX:=fun _=>CX0) (sp:=fun w=>gN (K w.params)) hn (by decide) hdf ⟨rfl,by decide,by decide,rfl⟩ hY F (fun _ _ a ns hl _ hS=>⟨a,ns,rfl,hS,hl,fun _=>rfl⟩) fun _ _ _ _ _ z=>z
end K44
theorem PySem.W.Fast.tw1289200749377042740 : True := trivial
theorem PySem.W.Fast.tw14451768779800662994 : True := trivial
theorem PySem.W.Fast.tw381997188148663929 : True := trivial
theorem PySem.W.Fast.tw16562054749255362303 : True := trivial
theorem PySem.W.Fast.tw4525740736849757676 : True := trivial
theorem PySem.W.Fast.tw10592477851857132746 : True := trivial
theorem PySem.W.Fast.tw18113452518846238942 : True := trivial
theorem PySem.W.Fast.tw12890899712536134503 : True := trivial
theorem PySem.W.Fast.tw8747441794986568897 : True := trivial
theorem PySem.W.Fast.tw6523849911086568771 : True := trivial
theorem PySem.W.Fast.tw4493479923900093148 : True := trivial
theorem PySem.W.Fast.tw2169754652107913449 : True := trivial
theorem PySem.W.Fast.tw15929013925179593449 : True := trivial
theorem PySem.W.Fast.tw16714205525640132546 : True := trivial
theorem PySem.W.Fast.tw3159925822315125064 : True := trivial
theorem PySem.W.Fast.tw1121616731936127873 : True := trivial
theorem PySem.W.Fast.tw7882546190836209167 : True := trivial
theorem PySem.W.Fast.tw18094814577839507753 : True := trivial
theorem PySem.W.Fast.tw9298517597097906993 : True := trivial
theorem PySem.W.Fast.tw1324024546073128892 : True := trivial
theorem PySem.W.Fast.tw5053189784101402560 : True := trivial
theorem PySem.W.Fast.tw11168905861997506846 : True := trivial
theorem PySem.W.Fast.tw13162596401006536075 : True := trivial
theorem PySem.W.Fast.tw4748479323266292140 : True := trivial
theorem PySem.W.Fast.tw5904653074319991914 : True := trivial
theorem PySem.W.Fast.tw13830358976049830007 : True := trivial
theorem PySem.W.Fast.tw2503372377727056153 : True := trivial
theorem PySem.W.Fast.tw12053361757683437484 : True := trivial
theorem PySem.W.Fast.tw734799820351556511 : True := trivial
theorem PySem.W.Fast.tw9325020853706667829 : True := trivial
theorem PySem.W.Fast.tw856708397631935490 : True := trivial
theorem PySem.W.Fast.tw10029997292740721532 : True := trivial
theorem PySem.W.Fast.tw17166379403548777315 : True := trivial
theorem PySem.W.Fast.tw9831662827057937506 : True := trivial
theorem PySem.W.Fast.tw6801395590533714331 : True := trivial
theorem PySem.W.Fast.tw5744538500539914898 : True := trivial
theorem PySem.W.Fast.tw9448085437368557897 : True := trivial
theorem PySem.W.Fast.tw3046708329622878615 : True := trivial
theorem PySem.W.Fast.tw6380303374742483978 : True := trivial
theorem PySem.W.Fast.tw9917927895369768479 : True := trivial
theorem PySem.W.Fast.tw10749990795424408783 : True := trivial
theorem PySem.W.Fast.tw13412420166979668248 : True := trivial
open PySem PySem.W PyProof.Rows
set_option maxRecDepth 100000 in
set_option maxHeartbeats 0 in
theorem PySem.Challenge.cw_rootshares_k44_whole_mended_holds : PySem.Challenge.rw_rootshares_k44_whole_mended.Holds := by
 w_on;o_law;k_head;(case hw=>w_witness2)
 k_fill
 refine K44.walk (l:=PySem.Challenge.rw_rootshares_k44_whole_mended) rfl rfl (fun w h Y=>PySem.W.kIn_of Y) ?F
 case F =>
  intro w mg fa h KX G hmg
  have B:K44.Bl mg:=by
   refine' K44.w6 KX G ?len ?isinstance ?all ?range ?sorted ?repr ?max ?min ?str ?tuple ?list ?int ?bool ?zip ?divmod ?abs ?set ?enumerate ?sum ?most ?lng
   (case len=>k_is)
   (case isinstance=>k_is)
   (case all=>k_is)
   (case range=>k_is)
   (case sorted=>k_is)
   (case repr=>k_is)
   (case max=>k_is)
   (case min=>k_is)
   (case str=>k_is)
   (case tuple=>k_is)
   (case list=>k_is)
   (case int=>k_is)
   (case bool=>k_is)
   (case zip=>k_is)
   (case divmod=>k_is)
   (case abs=>k_is)
   (case set=>k_is)
   (case enumerate=>k_is)
   (case sum=>k_is)
   (case most=>k_is)
   (case lng=>k_is)
  refine' K44.wY KX G hmg B ?d8 ?d9 ?d10 ?d11 ?d12 ?d13 ?d14 ?d15 ?d16 ?d17 ?d18 ?d21 ?d22 ?d23 ?d24 ?d25 ?d26 ?d27 ?d28 ?d29 ?d30 ?d32 ?d33 ?d34 ?d35 ?d37 ?d38 ?d39 ?d40 ?d41 ?d42 ?d43 ?d44 ?d45 ?d46 ?d47 ?d48 ?d49 ?d50 ?d51
  (case d8=>(refine' K44.wW ?a ?l ?c ?k;(case a=>k_is);(case l=>k_is);(case c=>k_is);(case k=>k_is)))
  (case d9=>(refine' K44.wW ?a ?l ?c ?k;(case a=>k_is);(case l=>k_is);(case c=>k_is);(case k=>k_is)))
  (case d10=>(refine' K44.wW ?a ?l ?c ?k;(case a=>k_is);(case l=>k_is);(case c=>k_is);(case k=>k_is)))
  (case d11=>(refine' K44.wW ?a ?l ?c ?k;(case a=>k_is);(case l=>k_is);(case c=>k_is);(case k=>k_is)))
  (case d12=>(refine' K44.wW ?a ?l ?c ?k;(case a=>k_is);(case l=>k_is);(case c=>k_is);(case k=>k_is)))
  (case d13=>(refine' K44.wW ?a ?l ?c ?k;(case a=>k_is);(case l=>k_is);(case c=>k_is);(case k=>k_is)))
  (case d14=>(refine' K44.wW ?a ?l ?c ?k;(case a=>k_is);(case l=>k_is);(case c=>k_is);(case k=>k_is)))
  (case d15=>(refine' K44.wW ?a ?l ?c ?k;(case a=>k_is);(case l=>k_is);(case c=>k_is);(case k=>k_is)))
  (case d16=>(refine' K44.wW ?a ?l ?c ?k;(case a=>k_is);(case l=>k_is);(case c=>k_is);(case k=>k_is)))
  (case d17=>(refine' K44.wW ?a ?l ?c ?k;(case a=>k_is);(case l=>k_is);(case c=>k_is);(case k=>k_is)))
  (case d18=>(refine' K44.wW ?a ?l ?c ?k;(case a=>k_is);(case l=>k_is);(case c=>k_is);(case k=>k_is)))
  (case d21=>(refine' K44.wW ?a ?l ?c ?k;(case a=>k_is);(case l=>k_is);(case c=>k_is);(case k=>k_is)))
  (case d22=>(refine' K44.wW ?a ?l ?c ?k;(case a=>k_is);(case l=>k_is);(case c=>k_is);(case k=>k_is)))
  (case d23=>(refine' K44.wW ?a ?l ?c ?k;(case a=>k_is);(case l=>k_is);(case c=>k_is);(case k=>k_is)))
  (case d24=>(refine' K44.wW ?a ?l ?c ?k;(case a=>k_is);(case l=>k_is);(case c=>k_is);(case k=>k_is)))
  (case d25=>(refine' K44.wW ?a ?l ?c ?k;(case a=>k_is);(case l=>k_is);(case c=>k_is);(case k=>k_is)))
  (case d26=>(refine' K44.wW ?a ?l ?c ?k;(case a=>k_is);(case l=>k_is);(case c=>k_is);(case k=>k_is)))
  (case d27=>(refine' K44.wW ?a ?l ?c ?k;(case a=>k_is);(case l=>k_is);(case c=>k_is);(case k=>k_is)))
  (case d28=>(refine' K44.wW ?a ?l ?c ?k;(case a=>k_is);(case l=>k_is);(case c=>k_is);(case k=>k_is)))
  (case d29=>(refine' K44.wW ?a ?l ?c ?k;(case a=>k_is);(case l=>k_is);(case c=>k_is);(case k=>k_is)))
  (case d30=>(refine' K44.wW ?a ?l ?c ?k;(case a=>k_is);(case l=>k_is);(case c=>k_is);(case k=>k_is)))
  (case d32=>(refine' K44.wW ?a ?l ?c ?k;(case a=>k_is);(case l=>k_is);(case c=>k_is);(case k=>k_is)))
  (case d33=>(refine' K44.wW ?a ?l ?c ?k;(case a=>k_is);(case l=>k_is);(case c=>k_is);(case k=>k_is)))
  (case d34=>(refine' K44.wW ?a ?l ?c ?k;(case a=>k_is);(case l=>k_is);(case c=>k_is);(case k=>k_is)))
  (case d35=>(refine' K44.wW ?a ?l ?c ?k;(case a=>k_is);(case l=>k_is);(case c=>k_is);(case k=>k_is)))
  (case d37=>(refine' K44.wW ?a ?l ?c ?k;(case a=>k_is);(case l=>k_is);(case c=>k_is);(case k=>k_is)))
  (case d38=>(refine' K44.wW ?a ?l ?c ?k;(case a=>k_is);(case l=>k_is);(case c=>k_is);(case k=>k_is)))
  (case d39=>(refine' K44.wW ?a ?l ?c ?k;(case a=>k_is);(case l=>k_is);(case c=>k_is);(case k=>k_is)))
  (case d40=>(refine' K44.wW ?a ?l ?c ?k;(case a=>k_is);(case l=>k_is);(case c=>k_is);(case k=>k_is)))
  (case d41=>(refine' K44.wW ?a ?l ?c ?k;(case a=>k_is);(case l=>k_is);(case c=>k_is);(case k=>k_is)))
  (case d42=>(refine' K44.wW ?a ?l ?c ?k;(case a=>k_is);(case l=>k_is);(case c=>k_is);(case k=>k_is)))
  (case d43=>(refine' K44.wW ?a ?l ?c ?k;(case a=>k_is);(case l=>k_is);(case c=>k_is);(case k=>k_is)))
  (case d44=>(refine' K44.wW ?a ?l ?c ?k;(case a=>k_is);(case l=>k_is);(case c=>k_is);(case k=>k_is)))
  (case d45=>(refine' K44.wW ?a ?l ?c ?k;(case a=>k_is);(case l=>k_is);(case c=>k_is);(case k=>k_is)))
  (case d46=>(refine' K44.wW ?a ?l ?c ?k;(case a=>k_is);(case l=>k_is);(case c=>k_is);(case k=>k_is)))
  (case d47=>(refine' K44.wW ?a ?l ?c ?k;(case a=>k_is);(case l=>k_is);(case c=>k_is);(case k=>k_is)))
  (case d48=>(refine' K44.wW ?a ?l ?c ?k;(case a=>k_is);(case l=>k_is);(case c=>k_is);(case k=>k_is)))
  (case d49=>(refine' K44.wW ?a ?l ?c ?k;(case a=>k_is);(case l=>k_is);(case c=>k_is);(case k=>k_is)))
  (case d50=>(refine' K44.wW ?a ?l ?c ?k;(case a=>k_is);(case l=>k_is);(case c=>k_is);(case k=>k_is)))
  (case d51=>(refine' K44.wW ?a ?l ?c ?k;(case a=>k_is);(case l=>k_is);(case c=>k_is);(case k=>k_is)))
