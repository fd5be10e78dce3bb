import PyProof.Rows.All
import Wide.All
import OpenK.AllK
import Wide.FinOn
import Lean
import PyProof.EqAt
import PyProof.EqKinds
import PyProof.TupleCall
import KE.KSortTup
import KE.KDictSum
import KE.KDictOf
import PyProof.AttrMissHeap
import PyProof.WalksEnum
import PyProof.EnumMake
import PyProof.Draws
import PyProof.Rows.SetFrom
import KE.KTryOn
import KE.KTryDeep
import PySem.Challenge.RW_rootshares_k85_trees_counted_refused
set_option Elab.async false
set_option linter.all false
set_option maxRecDepth 100000
noncomputable section
open PySem.W renaming Frag→zz7
open PySem renaming Shared→zz8,Value→zz9
open PySem renaming wpAny_bind→B6,wpAny_pure→B9,boot_len→Ct,wpAny_newObj_type→CS,wpAny_field→C4,mem_of_lookup→C9,wpAny_callSpecial?_slot→Dh,wpAny_call_entry→Dn,wpAny_holding→Dr,wpAny_truthy_bool→Dt,wpAny_mono→DD,sizeLine_eq→DO,wpAny_typeNameOfWhole_keyiter→DU,wpAny_passesOwn→D0,wpAny_setField→Ee,wpAny_seqItems→Ef,wpAny_typeNameOf_keyiter→Eh,wpAny_execs_nil→En,wpAny_Call_Name_kw→Ep,wpAny_setField_rec→Es,wpAny_standAt→EC,codeAny_mono→EI,wpAny_comprehension_free→EL,tupleKind_room_in1→EN,wpAny_attempt→Fh,wpAny_pyIter_zip→Fj,wpAny_isOneOf_keyiter→Fl,wpAny_typeOf→Fq,call_meets→Fs,wpAny_bindName→FC,wpAny_fieldsOf→FE,wpAny_pyIter_tuple→FH,wpAny_onRaise→FN,wpAny_sequenceKey→FP,wpAny_dictEntries→FU,wpAny_rule→FX
open List renaming getElem?_eq_getElem→B7,length_map→B8,getElem?_eq_some_iff→Ca,mem_of_getElem?→Cb,getElem?_map→Cd,mem_cons_self→Cf,mem_map→Cg,mem_cons→Ci,mem_cons_of_mem→Cj,mem_append→Ck,mem_map_of_mem→Co,size_toArray→Cq,mem_filter→Cr,getElem_mem→Cu,mem_append_right→Cv,mem_singleton→Cw,map_append→CA,map_cons→CD,length_filter_le→CF,nodup_cons→CG,map_map→CH,pairwise_iff_getElem→CL,mem_append_left→CM,getElem?_append_left→CV,all_eq_true→CY,getD_eq_getElem?_getD→C1,not_mem_nil→C2,length_cons→C5,length_take→Dc,take_add_one→Dd,getElem?_of_mem→De,take_of_length_le→Df,take_length→Dg,length_append→Di,filter_filter→Dm,mem_of_mem_take→Dq,filter_congr→Dw,map_congr_left→Dx,pairwise_cons→DA,sum_cons→DB,mem_range→DC,dropLast_concat_getLast→DF,replicate_succ→DG,getElem?_set_self→DH,getElem?_append_right→DJ,getElem?_set_ne→DP,mem_iff_getElem→DR,getElem?_modify→DS,filter_cons→DX,mem_or_eq_of_mem_set→Ec,mem_of_mem_drop→Ed,lookup_cons→Eg,filterMap_cons→Ej,length_pos_iff→Ek,filter_sublist→El,length_eq_zero_iff→Em,append_nil→Eo,find?_cons→Er,filter_map→Et,flatten_cons→Eu,getElem_inj→Ew,length_drop→Ey,replicate_succ'→Ez,mem_flatMap→EA,pairwise_append→EB,getElem?_take_of_lt→EJ,all_map→EO,map_replicate→ER,filter_append→ES,map_set→EU,lt_irrefl→EV,getElem?_replicate→EX,take_sublist→EZ,reverse_cons→E1,append_assoc→E2,all_eq_false→E4,nodup_append→E5,filter_eq_nil_iff→E8,length_pos_of_mem→E9,any_cons→Fd,lt_trans→Ff,of_mem_zip→Fo,map_nil→Fv,forIn_cons→Fw,idxOf_lt_length_of_mem→FL,map_take→FO,pairwise_map→FQ,foldl_append→FV,drop_eq_getElem_cons→FY,cons_append→Ga,any_eq_true→Gb,append_inj'→Gc,length_erase_of_mem→Gf,length_nil→Gg,forIn_nil→Gj,drop_zero→Gk
open Nat renaming le_refl→Cc,zero_le→Cz,le_trans→CB,lt_of_lt_of_le→CC,le_of_lt→CO,ne_of_lt→CU,le_add_right→Dz,lt_irrefl→DI,lt_or_ge→Ei,min_eq_left→EG,lt_or_gt_of_ne→EM,mul_le_mul→FF,le_succ→FG,lt_of_le_of_lt→FJ,ne_of_gt→FZ,le_total→F9,min_eq_right→Gd,not_lt_zero→Gh
open PySem.Heap renaming get?_push_of_some→Ce,lt_size→Cp,get?_push_size→Cy,get?_update_other→Ds,get?_update_self→DK,size_push→DM,get?_push_cases→Fx
open Bool renaming false_ne_true→Cs,and_eq_true→CK,eq_iff_iff→Dj,not_eq_true→DY,false_eq_true→DZ,not_eq_true'→FT
open PySem.W renaming mg_none_of→CJ,mg_of→Dl,kia_one→Do,cellsFrom_some→E6,callWith_K→FI
open PySem.F renaming plainAttrs_list→CQ,slot_list_append→C7,type_list_append→C8,slot_dict_keyiterator_next→DE,slot_tuple_iterator_next→Ea,args_tuple_add_2→EK,entry_tuple_add→EY,slot_tuple_add→E7,slot_zip_next→Fy,args_dict_keyiterator_next_1→Fz
open Option.some renaming inj→CZ,injEq→E3
open PyProof.Rows renaming slot_tuple_getitem→C3,callWith_type1→Dp,assignInOrder_cons→EH
open PySem.PassesOwn renaming never→C6
open Int renaming toNat_natCast→Du,emod_lt_of_pos→ET,emod_nonneg→FA,mul_zero→FB,pow_succ→Ge
open Ne renaming symm→Dy
open Array renaming getElem?_toList→DL,length_toList→DW,getElem?_eq_some_iff→D3,getElem?_eq_getElem→Eb,toList_append→EE,getElem?_setIfInBounds_ne→Fm,perm_iff_toList_perm→FM,toList_inj→F8
open PySem.Obj renaming data_mapFields→DN,isFreed_of_fields→D2,cls_mapFields→FS
open Option renaming isSome_iff_exists→DQ,map_some→D1,getD_some→Fi,toList_some→FK,isSome_map→FR
open PySem.Heap.SameBut renaming update→ED
open PySem.W.KasT renaming kasWp_bind→EF
open PySem.Str renaming cps_append→EW,length_append→FW
open PySem.Paired renaming length→Fb
open Sum.inr renaming inj→Gi
namespace L2
open PySem PySem.Spec PyProof.Rows
abbrev Key:=Sum Int Str
def fb:Key->zz9->Bool
 | .inl k,v=>Value.isInt k v
 | .inr x,v=>Value.isStrOf x v
def Bv (w:World):Key->Int
 | .inl k=>hashInt k
 | .inr x=>hashStr w x
theorem dQ:∀{k:Key}{v:zz9},fb k v=true->(∃i t,k=Sum.inl i/\v=Value.int i t)\/(∃x t,k=Sum.inr x/\v=Value.str x t)
 | .inl i,v,h=>by
  obtain⟨t,e⟩:=Value.isInt_shape (k:=i) (v:=v) h;exact .inl ⟨i,t,rfl,e⟩
 | .inr x,v,h=>by
  obtain⟨t,e⟩:=Value.isStrOf_shape (x:=x) (v:=v) h;exact .inr ⟨x,t,rfl,e⟩
theorem vM (i:Int) (t:Tok):fb (.inl i) (.int i t)=true:=by simp [fb,Value.isInt]
theorem uZ (x:Str) (t:Tok):fb (.inr x) (.str x t)=true:=by simp [fb,Value.isStrOf]
theorem yV (a b:Int):decide ((Sum.inl a:Key)=Sum.inl b)=(a == b):=by
 by_cases e:a=b
 ·subst e;simp
 ·have h:¬ (Sum.inl a:Key)=Sum.inl b:=λq=>e (Sum.inl.inj q)
  rw [decide_eq_false h];exact (beq_eq_false_iff_ne.mpr e).symm
theorem Ab (a b:Str):decide ((Sum.inr a:Key)=Sum.inr b)=decide (a=b):=by
 by_cases e:a=b
 ·subst e;simp
 ·have h:¬ (Sum.inr a:Key)=Sum.inr b:=λq=>e (Gi q)
  rw [decide_eq_false h,decide_eq_false e]
theorem y9 (a:Int) (b:Str):decide ((Sum.inl a:Key)=Sum.inr b)=false:=decide_eq_false (λq=>nomatch q)
theorem zU (a:Str) (b:Int):decide ((Sum.inr a:Key)=Sum.inl b)=false:=decide_eq_false (λq=>nomatch q)
def cK (prog:Program) (w:World):PySem.KeyKind prog w Key where
 is:=fb
 hash:=Bv w
 inj:=λv a b ha hb=>by
  rcases dQ ha with ⟨i,t,rfl,rfl⟩ | ⟨x,t,rfl,rfl⟩
  ·rcases dQ hb with ⟨j,u,rfl,e⟩ | ⟨y,u,rfl,e⟩
   ·injection e with e1 _;rw [e1]
   ·exact nomatch e
  ·rcases dQ hb with ⟨j,u,rfl,e⟩ | ⟨y,u,rfl,e⟩
   ·exact nomatch e
   ·injection e with e1 _;rw [e1]
 byValue:=λk v h=>by
  rcases dQ h with ⟨i,t,rfl,rfl⟩ | ⟨x,t,rfl,rfl⟩ <;> rfl
 pyHash:=λhv h=>by
  rcases dQ hv with ⟨i,t,rfl,rfl⟩ | ⟨x,t,rfl,rfl⟩
  ·exact wpAny_pyHash_int h
  ·exact wpAny_pyHash_str h
 eqBool:=λhu hv h=>by
  rcases dQ hu with ⟨i,t,rfl,rfl⟩ | ⟨x,t,rfl,rfl⟩
  ·rcases dQ hv with ⟨j,u,rfl,rfl⟩ | ⟨y,u,rfl,rfl⟩
   ·rw [yV] at h;exact wpAny_eqBool_int h
   ·rw [y9] at h;exact SeqAt.EqAt.int_str i t y u _ _ _ _ h
  ·rcases dQ hv with ⟨j,u,rfl,rfl⟩ | ⟨y,u,rfl,rfl⟩
   ·rw [zU] at h;exact SeqAt.EqAt.str_int x t j u _ _ _ _ h
   ·rw [Ab] at h;exact wpAny_eqBool_str h
 «strs»:=λk x t v h=>by
  rcases dQ h with ⟨i,u,rfl,e⟩ | ⟨y,u,rfl,e⟩
  ·exact nomatch e
  ·injection e with e1 _
   subst e1;cases v <;> rfl
theorem tS (prog:Program) (w:World) (i:Int) (t:Tok):(cK prog w).is (.inl i) (.int i t)=true:=vM i t
theorem tT (prog:Program) (w:World) (x:Str) (t:Tok):(cK prog w).is (.inr x) (.str x t)=true:=uZ x t
inductive V where
 | non | bl (b:Bool) | int (i:Int) | str (x:Str) | byt (b:Array UInt8) | flt (b:UInt64) | ref (a:Addr) | ty (n:String)
 deriving DecidableEq
def RelV:V->zz9->Prop
 | .non,u=>u=Value.none
 | .bl b,u=>u=Value.bool b
 | .int i,u=>∃t,u=Value.int i t
 | .str x,u=>∃t,u=Value.str x t
 | .byt b,u=>∃t,u=Value.bytes b t
 | .flt b,u=>∃t,u=Value.float b t
 | .ref a,u=>u=Value.ref a
 | .ty n,u=>u=Value.type n
abbrev aC:List V->List zz9->Prop:=Paired RelV
theorem aC.length {xs:List V}{us:List zz9} (r:aC xs us):xs.length=us.length:=Fb r
theorem aC.get:∀{xs:List V}{us:List zz9}{i:Nat}{x:V},aC xs us->xs[i]?=some x->∃u,us[i]?=some u/\RelV x u
 | _,_,_,_,.nil,e=>by simp at e
 | _,_,0,_,.cons r _,e=>by simp at e;subst e;exact⟨_,rfl,r⟩
 | _,_,i + 1,x,.cons _ t,e=>by
  obtain⟨u,h1,h2⟩:=aC.get (i:=i) (x:=x) t (by simpa using e);exact⟨u,by simpa using h1,h2⟩
theorem aC.set {x:V}{u:zz9} (r:RelV x u):∀{xs:List V}{us:List zz9} (i:Nat),aC xs us->aC (xs.set i x) (us.set i u)
 | _,_,_,.nil=>.nil
 | _,_,0,.cons _ t=>.cons r t
 | _,_,i + 1,.cons q t=>.cons q (aC.set r i t)
theorem aC.append:∀{xs ys:List V}{us ws:List zz9},aC xs us->aC ys ws->aC (xs++ys) (us++ws)
 | _,_,_,_,.nil,s=>s
 | _,_,_,_,.cons r t,s=>.cons r (aC.append t s)
theorem aC.take:∀{xs:List V}{us:List zz9} (n:Nat),aC xs us->aC (xs.take n) (us.take n)
 | _,_,0,_=>.nil
 | _,_,_ + 1,.nil=>.nil
 | _,_,n + 1,.cons r t=>.cons r (aC.take n t)
theorem aC.drop:∀{xs:List V}{us:List zz9} (n:Nat),aC xs us->aC (xs.drop n) (us.drop n)
 | _,_,0,r=>r
 | _,_,_ + 1,.nil=>.nil
 | _,_,n + 1,.cons _ t=>aC.drop n t
def dP:Option V->Option zz9->Prop
 | some v,some u=>RelV v u
 | none,none=>True
 | _,_=>False
def KV {κ:Type}:List (κ×V)->List (κ×zz9)->Prop:=Paired λ(p:κ×V) (q:κ×zz9)=>p.1=q.1/\RelV p.2 q.2
def kV:Key->V
 | .inl i=>.int i
 | .inr x=>.str x
inductive HO where
  | lst (xs:List V)
  | tup (xs:List V)
  | dK (kvs:List (Key×V)) | dT (kvs:List (List Key×V))
  | set (S:Int->Bool) (n:Nat)
  | ins (C dx:Addr) (fs:List (Str×V))
  | own (x:Addr)
  | xd (fs:List (Str×V))
  | met (f x:Addr)
  | rng (lo hi:Int)
  | frz (o:Obj) (u:HO)
  | tbl (ps:Array zz9)
  | ext (φ:Heap->Prop)
abbrev Hp:=Addr->Option HO
def upd (H:Hp) (a:Addr) (o:HO):Hp:=λb=>if b=a then some o else H b
theorem ak {H:Hp}{a:Addr}{o:HO}:upd H a o a=some o:=by unfold upd;rw [if_pos rfl]
theorem av {H:Hp}{a b:Addr}{o:HO} (h:b≠a):upd H a o b=H b:=by unfold upd;rw [if_neg h]
theorem rN {H:Hp}{a b:Addr}{o u:HO} (h:H a=some o) (h':H b=some u) (d:o≠u):a≠b:=by
 intro e;subst e;rw [h] at h';exact d (CZ h')
theorem bh {H:Hp}{a b:Addr}{o:HO} (h:H a=some o) (h':H b=none):a≠b:=by
 intro e;subst e;rw [h] at h';cases h'
section
variable (P:Program) (w:World)
def bg (H:Hp) (h:Heap) (a:Addr):HO->Prop
 | .lst xs=>xs.length<=sizeLine/\∃(Gm:List zz9) (n:Nat),aC xs Gm/\h.get? a=some { cls:=.type "list",data:=.seq Gm.toArray n }
 | .tup xs=>xs.length<=sizeLine/\∃Gm:List zz9,aC xs Gm/\IsTup h a Gm.toArray
 | .dK kvs=>kvs.length<=sizeLine/\(a == sysModules)=false/\∃vs,KV kvs vs/\h.DictOf (cK P w) a vs
 | .dT kvs=>kvs.length<=sizeLine/\(a == sysModules)=false/\∃xs:List (List Key×Addr×zz9),
   Paired (λ(p:List Key×V) (q:List Key×Addr×zz9)=>p.1=q.1/\H q.2.1=some (.tup (p.1.map kV))/\RelV p.2 q.2.2) kvs xs /\
   ∃o es ep,h.get? a=some o/\o.ExactDict/\o.data=.dict es ep/\es.toList=xs.map (entryOfKey (tupleKind (cK P w)))/\(xs.map (·.1)).Nodup
 | .set S n=>h.SetOf (intKind P w) a S n
 | .ins C dx fs=>H dx=some (.own a)/\fs.length<=1000/\dx≠a/\h.get? a=some (PySem.W.instObj C dx) /\
   ∃mA,h.Ns1 dx mA/\(∀f,dP (fs.lookup f) (mA f))/\PySem.Within mA (fs.map (·.1))
 | .own _=>∃o,h.get? a=some o
 | .xd fs=>∃mA,h.Ns1 a mA/\∀f,dP (fs.lookup f) (mA f)
 | .rng lo hi=>∃t u v,h.get? a=some { cls:=.type "range",data:=.fields #[.int lo t,.int hi u,.int 1 v] }
 | .frz o u=>h.get? a=some o/\bg H h a u
 | .tbl ps=>h.get? a=some { cls:=.none,data:=.fields ps }
 | .met f x=>h.get? a=some (PySem.W.methodObj (.ref f) (.ref x))
 | .ext φ=>φ h/\(∃o,h.get? a=some o)/\∀h1 h2:Heap,φ h1->(∀o,h1.get? a=some o->h2.get? a=some o)->φ h2
def GU (H:Hp) (h:Heap):Prop:=∀a o,H a=some o->bg P w H h a o
end
section
variable {P:Program}{w:World}{H H':Hp}{h h':Heap}{a:Addr}{o:HO}
theorem bg.lt (x:bg P w H h a o):a < h.objs.size:=by
 cases o with
 | lst xs=>obtain⟨_,_,_,_,e⟩:=x;exact Cp e
 | tup xs=>obtain⟨_,_,_,p⟩:=x;exact p.lt
 | dK kvs=>obtain⟨_,_,_,_,o,_,_,e,_⟩:=x;exact Cp e
 | dT kvs=>obtain⟨_,_,_,_,o,_,_,e,_⟩:=x;exact Cp e
 | set S n=>obtain⟨o,_,_,_,e,_⟩:=x;exact Cp e
 | ins C dx fs=>obtain⟨_,_,_,e,_⟩:=x;exact Cp e
 | own y=>obtain⟨_,e⟩:=x;exact Cp e
 | xd fs=>obtain⟨_,⟨_,_,_,e,_⟩,_⟩:=x;exact Cp e
 | rng lo hi=>obtain⟨_,_,_,e⟩:=x;exact Cp e
 | frz ob u=>obtain⟨e,_⟩:=x;exact Cp e
 | tbl ps=>exact Cp (show h.get? a=some _ from x)
 | met f y=>exact Cp (show h.get? a=some _ from x)
 | ext φ=>obtain⟨_,⟨_,e⟩,_⟩:=x;exact Cp e
theorem Paired.mapP {α β:Type}{F G:α->β->Prop}:∀{l₁:List α}{l₂:List β},Paired F l₁ l₂->(∀a b,F a b->G a b)->Paired G l₁ l₂
 | _,_,.nil,_=>.nil
 | _,_,.cons r t,f=>.cons (f _ _ r) (Paired.mapP t f)
theorem bg.stay (x:bg P w H h a o) (k:∀b u,(b=a\/H b=some (.own a))->h.get? b=some u->h'.get? b=some u)
  (ho:∀b,H b=some (.own a)->H' b=some (.own a)) (ht:∀b xs,H b=some (.tup xs)->H' b=some (.tup xs)):bg P w H' h' a o:=by
 induction o with
 | lst xs=>obtain⟨z,Gm,n,r,e⟩:=x;exact⟨z,Gm,n,r,k _ _ (.inl rfl) e⟩
 | tup xs=>obtain⟨z,Gm,r,ob,e,c⟩:=x;exact⟨z,Gm,r,ob,k _ _ (.inl rfl) e,c⟩
 | dK kvs=>obtain⟨z,y,vs,r,ob,es,ep,e,c⟩:=x;exact⟨z,y,vs,r,ob,es,ep,k _ _ (.inl rfl) e,c⟩
 | dT kvs =>
  obtain⟨z,y,xs,r,ob,es,ep,e,c⟩:=x;exact⟨z,y,xs,Paired.mapP r λp q z=>⟨z.1,ht _ _ z.2.1,z.2.2⟩,ob,es,ep,k _ _ (.inl rfl) e,c⟩
 | set S n=>obtain⟨ob,es,ep,t,e,c⟩:=x;exact⟨ob,es,ep,t,k _ _ (.inl rfl) e,c⟩
 | ins C dx fs =>
  obtain⟨d,z,ne,e,mA,⟨od,es,ep,e2,c⟩,r⟩:=x;exact⟨ho _ d,z,ne,k _ _ (.inl rfl) e,mA,⟨od,es,ep,k _ _ (.inr d) e2,c⟩,r⟩
 | own y=>obtain⟨ob,e⟩:=x;exact⟨ob,k _ _ (.inl rfl) e⟩
 | xd fs=>obtain⟨mA,⟨od,es,ep,e,c⟩,r⟩:=x;exact⟨mA,⟨od,es,ep,k _ _ (.inl rfl) e,c⟩,r⟩
 | rng lo hi=>obtain⟨t,u,v,e⟩:=x;exact⟨t,u,v,k _ _ (.inl rfl) e⟩
 | frz ob u ih=>obtain⟨e,q⟩:=x;exact⟨k _ _ (.inl rfl) e,ih q⟩
 | tbl ps =>
  have e:h.get? a=some { cls:=.none,data:=.fields ps }:=x;show h'.get? a=some { cls:=.none,data:=.fields ps };exact k a _ (.inl rfl) e
 | met f y =>
  have e:h.get? a=some (PySem.W.methodObj (.ref f) (.ref y)):=x;show h'.get? a=some (PySem.W.methodObj (.ref f) (.ref y));exact k a _ (.inl rfl) e
 | ext φ=>obtain⟨p,⟨o,e⟩,st⟩:=x;exact⟨st _ _ p λo q=>k _ _ (.inl rfl) q,⟨o,k _ _ (.inl rfl) e⟩,st⟩
theorem GU.lt (x:GU P w H h) (e:H a=some o):a < h.objs.size:=(x a o e).lt
theorem GU.fresh (x:GU P w H h) (e:h.objs.size<=a):H a=none:=by
 cases q:H a with
 | none=>rfl
 | some u=>exact absurd (CC (x.lt q) e) (DI _)
theorem GU.kept (x:GU P w H h) (k:∀b u,h.get? b=some u->h'.get? b=some u):GU P w H h':=λa o e =>
 (x a o e).stay (λb u _ q=>k b u q) (λ_ q=>q) λ_ _ q=>q
theorem GU.laid (x:GU P w H h) (k:∀b u,h.get? b=some u->h'.get? b=some u) (hp:h.objs.size<=a) (new:bg P w (upd H a o) h' a o):GU P w (upd H a o) h':=λb u e=>by
 have hn:=x.fresh hp
 by_cases hb:b=a
 ·subst hb;rw [ak] at e;cases e;exact new
 ·rw [av hb] at e
  exact (x b u e).stay (λc v _ q=>k c v q) (λc q=>by rw [av (bh q hn)];exact q) λc xs q=>by rw [av (bh q hn)];exact q
end
def Rd (H:Hp) (a:Addr) (u:HO):Prop:=H a=some u\/∃o,H a=some (.frz o u)
theorem Rd.ok {P:Program}{w:World}{H:Hp}{h:Heap}{a:Addr}{u:HO} (r:Rd H a u) (x:GU P w H h):bg P w H h a u:=by
 rcases r with r | ⟨o,r⟩
 ·exact x a u r
 ·obtain⟨_,q⟩:=x a _ r
  exact q
def Pf:Option HO->Prop
 | some (.lst _)=>True
 | some (.dK _)=>True
 | some (.dT _)=>True
 | some (.set _ _)=>True
 | some (.ins _ _ _)=>True
 | some (.ext _)=>True
 | _=>False
section
variable {P:Program}{w:World}{H:Hp}{h h':Heap}{x e:Addr}{o':HO}
theorem GU.write (ok:GU P w H h) (mu:Pf (H x)) (he:e=x\/H e=some (.own x)) (k:∀b u,b≠e->h.get? b=some u->h'.get? b=some u) (M5:∃u,h'.get? e=some u)
  (new:bg P w (upd H x o') h' x o'):GU P w (upd H x o') h':=λb u q=>by
 have Og:∀c y,H c=some (.own y)->c≠x:=λc y r z=>by subst z;rw [r] at mu;exact mu
 have RA:∀c xs,H c=some (.tup xs)->c≠x:=λc xs r z=>by subst z;rw [r] at mu;exact mu
 by_cases hb:b=x
 ·subst hb;rw [ak] at q;cases q;exact new
 ·rw [av hb] at q
  by_cases MH:b=e
  ·have q':H b=some (.own x):=by
    rcases he with z | z
    ·exact absurd (MH.trans z) hb
    ·rw [MH];exact z
   rw [q] at q';cases q';obtain⟨v,hv⟩:=M5;exact⟨v,by rw [MH];exact hv⟩
  ·refine (ok b u q).stay (λc v hc r=>k c v ?_ r) (λc r=>by rw [av (Og c b r)];exact r) λc xs r=>by rw [av (RA c xs r)];exact r
   rcases hc with rfl | hc
   ·exact MH
   ·rintro rfl
    rcases he with z | z
    ·exact Og c b hc z
    ·rw [hc] at z;cases z;exact hb rfl
end
structure Un (fs ex:List Addr) (H H':Hp) (h h':Heap):Prop where
 keep:∀b o,h.get? b=some o->H b=none->b∉fs->b∉ex->h'.get? b=some o
 slot:∀b o,h.get? b=some o->H b=none->b∈fs->b∉ex->∃sl,h'.get? b=some { o with slots:=sl }
 free:∀b o,h.get? b=some o->H b=none->b∉ex->H' b=none
 there:∀b o,h.get? b=some o->b∉ex->∃o',h'.get? b=some o'
 tups:∀b xs,H b=some (.tup xs)->H' b=some (.tup xs)
 frzs:∀b o u,H b=some (.frz o u)->H' b=some (.frz o u)
 tbls:∀b ps,H b=some (.tbl ps)->∃more,H' b=some (.tbl (ps++more))
section
variable {fs ZZ ex ex':List Addr}{H H1 H2:Hp}{h h1 h2 h':Heap}{a x e:Addr}{o:HO}
theorem Un.any (u:Un fs ex H H1 h h1) {b:Addr}{ob:Obj} (q:h.get? b=some ob) (n:H b=none) (hx:b∉ex):∃sl,h1.get? b=some { ob with slots:=sl }:=by
 by_cases hb:b∈fs
 ·exact u.slot b ob q n hb hx
 ·exact⟨ob.slots,u.keep b ob q n hb hx⟩
theorem Un.kept (k:∀b u,h.get? b=some u->h'.get? b=some u):Un fs ex H H h h' :=
 ⟨λb ob q _ _ _=>k b ob q,λb ob q _ _ _=>⟨ob.slots,k b ob q⟩,λ_ _ _ n _=>n,λb ob q _=>⟨ob,k b ob q⟩,λ_ _ q=>q,λ_ _ _ q=>q,λ_ ps q=>⟨#[],by rw [q];simp⟩⟩
theorem Un.refl:Un fs ex H H h h:=Un.kept λ_ _ q=>q
theorem Un.laid (k:∀b u,h.get? b=some u->h'.get? b=some u) (hp:h.objs.size<=a) (hn:H a=none):Un fs ex H (upd H a o) h h' where
 keep:=λb u q _ _ _=>k b u q
 slot:=λb u q _ _ _=>⟨u.slots,k b u q⟩
 free:=λb u q n _=>by rw [av (CU (CC (Cp q) hp))];exact n
 there:=λb u q _=>⟨u,k b u q⟩
 tups:=λb xs q=>by rw [av (bh q hn)];exact q
 frzs:=λb u xs q=>by rw [av (bh q hn)];exact q
 tbls:=λb ps q=>⟨#[],by rw [av (bh q hn),q];simp⟩
theorem Un.write (mu:Pf (H x)) (he:e=x\/H e=some (.own x)) (k:∀b u,b≠e->h.get? b=some u->h'.get? b=some u) (M5:∃u,h'.get? e=some u):Un fs ex H (upd H x o) h h':=by
 have hx:∀b,H b=none->b≠x:=λb n z=>by subst z;rw [n] at mu;exact mu
 have hb:∀b,H b=none->b≠e:=λb n z=>by
  subst z
  rcases he with r | r
  ·exact hx b n r
  ·rw [n] at r;cases r
 have hm:∀b u,H b=some u->¬ Pf (some u)->b≠x:=λb u q nm z=>by subst z;rw [q] at mu;exact nm mu
 refine⟨λb u q n _ _=>k b u (hb b n) q,λb u q n _ _=>⟨u.slots,k b u (hb b n) q⟩,λb u q n _=>by rw [av (hx b n)];exact n,λb u q _=>?_,
  λb xs q=>by rw [av (hm b _ q λz=>z)];exact q,λb u xs q=>by rw [av (hm b _ q λz=>z)];exact q,λb ps q=>⟨#[],by rw [av (hm b _ q λz=>z),q];simp⟩⟩
 by_cases MH:b=e
 ·subst MH;exact M5
 ·exact⟨u,k b u MH q⟩
end
def Pw (h:Heap) (H:Hp):List Addr:=(List.range h.objs.size).filter λa=>(H a).isSome
def eP (h:Heap) (H:Hp):Heap:=PySem.W.hideAll h (Pw h H)
theorem vc (h:Heap) (H:Hp):(eP h H).objs.size=h.objs.size:=PySem.W.hideAll_size _ _
theorem wZ {h:Heap}{H:Hp}{b:Addr}{o:Obj} (e:h.get? b=some o) (n:H b=none):(eP h H).get? b=some o :=
 PySem.W.hideAll_get _ e λhm=>by
  have q:(H b).isSome=true:=(Cr.mp hm).2;rw [n] at q;simp at q
theorem yF {h:Heap}{H:Hp}{b:Addr}{o:Obj} (e:(eP h H).get? b=some o):h.get? b=some o/\H b=none:=by
 have e':h.get? b=some o:=PySem.W.of_hideAll (Pw h H) e;refine⟨e',?_⟩;cases q:H b with
 | none=>rfl
 | some x =>
  have hm:b∈Pw h H:=Cr.mpr ⟨DC.mpr (Cp e'),by simp [q]⟩;have z:(eP h H).get? b=none:=PySem.W.hideAll_none (Pw h H) hm;rw [z] at e;cases e
def yO (g h:Heap) (L:Addr):List (Addr×Obj):=(List.range h.objs.size).filterMap λa=>if a=L\/(g.get? a).isSome=true then none else (h.get? a).map λo=>(a,o)
def rest (g h:Heap) (L d:Addr):List (Addr×Obj):=(yO g h L).filter λp=>decide (p.1≠d)
structure Mod (K:zz7) (mg:Str->Option zz9) (base:Heap):Prop where
 kin:K.In base
 glob:base.Ns mainGlobals mg
 blt:∃mb,base.Ns builtinsNs mb/\∀x:Str,x≠"__name__"->mb x=bootBuiltins x
 nolimit:base.NoLimit
structure Cx where
 prog:Program
 w:World
 K:zz7
 mg:Str->Option zz9
 base:Heap
 A:Around
 N:List Str
 s₀:zz8
 H₀:Hp
 env:Env
 outer:List Env
 stack:List Env
 ex:List Addr
 fn:Str->Bool
 calm:Bool
 pn:List (Addr×Obj)
 xe:zz9->zz8->Prop
def GR (l:List Env):List Addr:=l.filterMap (·.frame)
abbrev Cx.fs (X:Cx):List Addr:=GR X.outer
def Qw (sc:Scope) (x:Str):Prop:=sc.names.lookup x=some .local\/sc.names.lookup x=some .cell\/sc.names.lookup x=some .free
def Loc (sc:Scope) (x:Str):Prop:=sc.names.lookup x=some .local\/sc.names.lookup x=some .cell
def Look (env:Env) (h:Heap) (m:Str->Option zz9) (x:Str) (u:zz9):Prop :=
 (env.kindOf x=some .local/\m x=some u)\/((env.kindOf x=some .cell\/env.kindOf x=some .free)/\∃c,env.cells.lookup x=some c/\h.IsCell c (some u))
structure Cx.Ok (X:Cx):Prop where
 mod:Mod X.K X.mg X.base
 kind:X.env.scope.kind=.function
 glob:X.env.globals=mainGlobals
 blt:X.env.builtins=builtinsNs
 above:X.s₀.heap.objs.size<=X.env.locals
 inj:∀x y c,X.env.cells.lookup x=some c->X.env.cells.lookup y=some c->x=y
 has:∀x,(X.env.kindOf x=some .cell\/X.env.kindOf x=some .free)->∃c,X.env.cells.lookup x=some c
 cab:∀x c,X.fn x=true->X.env.cells.lookup x=some c->X.s₀.heap.objs.size<=c
 hd:X.calm=true->X.A.handled=none
 frames:X.A.frames=some X.stack
 stk:X.stack=X.outer\/(X.stack=X.env::X.outer/\X.env.frame=some X.env.locals)
 exf:∀b∈X.ex,b≠X.env.locals/\∀x c,X.env.cells.lookup x=some c->c≠b
 bs:∀b o,X.base.get? b=some o->X.s₀.heap.get? b=some o/\X.H₀ b=none
 bsz:X.base.objs.size<=X.s₀.heap.objs.size
 noex:∀b o,X.base.get? b=some o->b∉X.ex
 exfs:∀b∈X.ex,b∉X.fs
 funs:X.s₀.heap.FunFrames X.base X.outer
 frf:∀b∈X.fs,X.H₀ b=none
structure Inv (X:Cx) (pins:List (Addr×Obj)) (σ:List (Option V)) (H:Hp) (s:zz8):Prop where
 ok:X.Ok
 os:s.os=X.s₀.os
 bare:AllBare s.gens
 base:Un X.fs X.ex X.H₀ H X.s₀.heap s.heap
 loc:∃m,s.heap.Ns X.env.locals m/\∀(i:Nat) (x:Str) (v:V),X.N[i]?=some x->σ[i]?=some (some v)->Qw X.env.scope x->∃u,RelV v u/\Look X.env s.heap m x u
 cell:∀x c,X.env.cells.lookup x=some c->∃v,s.heap.IsCell c v
 free:H X.env.locals=none
 freeC:∀x c,X.env.cells.lookup x=some c->H c=none
 pin:∀p∈X.pn++pins,s.heap.get? p.1=some p.2/\H p.1=none/\p.1≠X.env.locals/\p.1∉X.fs/\∀v,p.2.data≠.cell v
 hok:GU X.prog X.w H s.heap
 len:σ.length=X.N.length
section
variable {X:Cx}{pins:List (Addr×Obj)}{σ:List (Option V)}{H H':Hp}{s:zz8}{h':Heap}
theorem Cx.Ok.nofr (ok:X.Ok) {b:Addr}{o:Obj} (e:X.base.get? b=some o):b∉X.fs:=λhb=>by
 have:=(ok.funs.mem hb).1;rw [e] at this;cases this
theorem Inv.bs (I:Inv X pins σ H s):∀b o,X.base.get? b=some o->s.heap.get? b=some o/\H b=none:=λb o e =>
 ⟨I.base.keep b o (I.ok.bs b o e).1 (I.ok.bs b o e).2 (I.ok.nofr e) (I.ok.noex b o e),I.base.free b o (I.ok.bs b o e).1 (I.ok.bs b o e).2 (I.ok.noex b o e)⟩
theorem Inv.bk (I:Inv X pins σ H s):∀b o,X.base.get? b=some o->s.heap.get? b=some o:=λb o e=>(I.bs b o e).1
theorem Inv.mod (I:Inv X pins σ H s):Mod X.K X.mg X.base:=I.ok.mod
theorem Inv.kIn (I:Inv X pins σ H s):X.K.In s.heap:=I.ok.mod.kin.keeps I.bk
theorem Inv.lt (I:Inv X pins σ H s):X.env.locals < s.heap.objs.size:=let ⟨_,hn,_⟩:=I.loc;hn.lt
theorem Inv.sz (I:Inv X pins σ H s):X.s₀.heap.objs.size<=s.heap.objs.size:=CB I.ok.above (CO I.lt)
theorem Inv.nofs (I:Inv X pins σ H s) {a:Addr} (h:s.heap.objs.size<=a):a∉X.fs:=λhb=>by
 obtain⟨_,o,ho,_⟩:=I.ok.funs.mem hb;exact absurd (CC (Cp ho) (CB I.sz h)) (DI _)
theorem Inv.cne (I:Inv X pins σ H s):∀x c,X.env.cells.lookup x=some c->c≠X.env.locals:=λx c e z=>by
 obtain⟨v,o,ho,hd⟩:=I.cell x c e;obtain⟨m,⟨o',es,ep,Iz,Ie,_⟩,_⟩:=I.loc;rw [z,Iz] at ho;cases ho;rw [Ie] at hd;cases hd
theorem Inv.funs (I:Inv X pins σ H s):s.heap.FunFrames X.base X.outer:=by
 have all:∀(l:List Env),(∀b∈GR l,b∈X.fs)->X.s₀.heap.FunFrames X.base l->s.heap.FunFrames X.base l:=by
  intro l
  induction l with
  | nil=>intro _ _;trivial
  | cons env r ih =>
   intro hs hl;obtain⟨hk,⟨L,o,hf,hn,ho,hd⟩,hr⟩:=hl;have hL:L∈X.fs:=hs L (by unfold GR;rw [Ej,hf];exact Cf);obtain⟨sl,e⟩:=I.base.slot L o ho (I.ok.frf L hL) hL λz=>I.ok.exfs L z hL;exact⟨hk,⟨L,_,hf,hn,e,hd⟩,ih (λb hb=>hs b (by unfold GR;rw [Ej,hf];exact Cj _ hb)) hr⟩
 exact all X.outer (λ_ hb=>hb) I.ok.funs
theorem Inv.stack (I:Inv X pins σ H s):s.heap.FunFrames X.base X.stack:=by
 rcases I.ok.stk with e | ⟨e,hf⟩
 ·rw [e];exact I.funs
 ·rw [e]
  obtain⟨m,hn,_⟩:=I.loc;refine .cons (by rw [I.ok.kind];decide) hf hn ?_ I.funs;exact Heap.get?_none_of_le (CB I.ok.bsz I.ok.above)
theorem Inv.stkSub (I:Inv X pins σ H s):∀b∈GR X.stack,b∈X.env.locals::X.fs:=λb hb=>by
 rcases I.ok.stk with e | ⟨e,hf⟩
 ·rw [e] at hb;exact Cj _ hb
 ·rw [e] at hb
  unfold GR at hb;rw [Ej,hf] at hb;exact hb
theorem Inv.stkFree (I:Inv X pins σ H s):∀b∈GR X.stack,H b=none:=λb hb=>by
 rcases Ci.mp (I.stkSub b hb) with e | hb
 ·rw [e];exact I.free
 ·obtain⟨_,o,ho,_⟩:=I.ok.funs.mem hb
  exact I.base.free b o ho (I.ok.frf b hb) λz=>I.ok.exfs b z hb
theorem Inv.step {g':Array GenState}{t':Nat}{d':Drawn}{ch:List Addr} (I:Inv X pins σ H s)
  (IB:∀b∈ch,(b∈X.ex\/X.s₀.heap.objs.size<=b)/\b≠X.env.locals/\(∀x c,X.env.cells.lookup x=some c->c≠b)/\∀p∈X.pn++pins,p.1≠b)
  (keep:∀b o,b≠X.env.locals->b∉X.fs->b∉ch->s.heap.get? b=some o->H b=none->h'.get? b=some o)
  (slot:∀b o,b≠X.env.locals->b∈X.fs->b∉ch->s.heap.get? b=some o->H b=none->∃sl,h'.get? b=some { o with slots:=sl }) (free:∀b o,b∉ch->s.heap.get? b=some o->H b=none->H' b=none)
  (there:∀b o,b∉ch->s.heap.get? b=some o->∃o',h'.get? b=some o')
  (tups:∀b xs,H b=some (.tup xs)->H' b=some (.tup xs)) (frzs:∀b o u,H b=some (.frz o u)->H' b=some (.frz o u)) (tbls:∀b ps,H b=some (.tbl ps)->∃more,H' b=some (.tbl (ps++more)))
  (ns:∀m,s.heap.Ns X.env.locals m->h'.Ns X.env.locals m) (hok:GU X.prog X.w H' h') (hg:AllBare g') :
  Inv X pins σ H' { s with heap:=h',gens:=g',drawn:=d',toks:=t' }:=by
 have Ol:∀b o,X.s₀.heap.get? b=some o->b≠X.env.locals:=λb o e=>CU (CC (Cp e) I.ok.above);have Ij:∀b o,X.s₀.heap.get? b=some o->b∉X.ex->b∉ch:=λb o e hx hb=>by
  rcases (IB b hb).1 with z | z
  ·exact hx z
  ·exact absurd (CC (Cp e) z) (DI _)
 have cellK:∀x c,X.env.cells.lookup x=some c->∀v,s.heap.IsCell c v->h'.IsCell c v:=λx c e v ⟨o,ho,hd⟩=>by
  have JO:c∉ch:=λz=>(IB c z).2.2.1 x c e rfl
  by_cases hc:c∈X.fs
  ·obtain⟨sl,q⟩:=slot c o (I.cne x c e) hc JO ho (I.freeC x c e)
   exact⟨_,q,hd⟩
  ·exact⟨o,keep c o (I.cne x c e) hc JO ho (I.freeC x c e),hd⟩
 refine⟨I.ok,I.os,hg,⟨λb o e n hb hx=>?_,λb o e n hb hx=>?_,λb o e n hx=>?_,λb o e hx=>?_,λb xs e=>tups b xs (I.base.tups b xs e),λb o xs e=>frzs b o xs (I.base.frzs b o xs e),λb ps e=>?_⟩,?_,λx c e=>?_,?_,λx c e=>?_,λp hp=>?_,hok,I.len⟩
 ·exact keep b o (Ol b o e) hb (Ij b o e hx) (I.base.keep b o e n hb hx) (I.base.free b o e n hx)
 ·obtain⟨sl,e1⟩:=I.base.slot b o e n hb hx
  obtain⟨Re,e2⟩:=slot b _ (Ol b o e) hb (Ij b o e hx) e1 (I.base.free b o e n hx);exact⟨Re,e2⟩
 ·obtain⟨o',e1⟩:=I.base.there b o e hx
  exact free b o' (Ij b o e hx) e1 (I.base.free b o e n hx)
 ·obtain⟨o',e1⟩:=I.base.there b o e hx
  exact there b o' (Ij b o e hx) e1
 ·obtain⟨m1,e1⟩:=I.base.tbls b ps e
  obtain⟨m2,e2⟩:=tbls b _ e1;exact⟨m1++m2,by rw [e2,Array.append_assoc]⟩
 ·obtain⟨m,hn,hl⟩:=I.loc
  refine⟨m,ns m hn,λi x v e1 e2 e3=>?_⟩;obtain⟨u,r,l⟩:=hl i x v e1 e2 e3;refine⟨u,r,?_⟩
  rcases l with l | ⟨k,c,e,z⟩
  ·exact .inl l
  ·exact .inr ⟨k,c,e,cellK x c e _ z⟩
 ·obtain⟨v,z⟩:=I.cell x c e
  exact⟨v,cellK x c e v z⟩
 ·obtain⟨m,⟨o,_,_,ho,_⟩,_⟩:=I.loc
  exact free _ o (λz=>(IB _ z).2.1 rfl) ho I.free
 ·obtain⟨v,o,ho,hd⟩:=I.cell x c e
  exact free c o (λz=>(IB c z).2.2.1 x c e rfl) ho (I.freeC x c e)
 ·obtain⟨e,n,ne,nf,d⟩:=I.pin p hp
  have JO:p.1∉ch:=λz=>(IB p.1 z).2.2.2 p hp rfl;exact⟨keep p.1 p.2 ne nf JO e n,free p.1 p.2 JO e n,ne,nf,d⟩
theorem Inv.un {t':Nat} (I:Inv X pins σ H s) (u:Un X.fs [] H H' s.heap h') (hok:GU X.prog X.w H' h'):Inv X pins σ H' { s with heap:=h',toks:=t' }:=by
 obtain⟨m,⟨o,es,ep,ho,r⟩,_⟩:=id I.loc;obtain⟨sl,hL⟩:=u.any ho I.free (by simp)
 exact I.step (g':=s.gens) (d':=s.drawn) (ch:=[]) (λ_ z=>nomatch z) (λb o _ hb _ e n=>u.keep b o e n hb (by simp)) (λb o _ hb _ e n=>u.slot b o e n hb (by simp)) (λb o _ e n=>u.free b o e n (by simp)) (λb o _ e=>u.there b o e (by simp)) u.tups u.frzs u.tbls (λm' hm=>by
  obtain⟨o',Tz,TB,Iz,r'⟩:=hm;rw [ho] at Iz;cases Iz
  exact⟨_,Tz,TB,hL,r'⟩) hok I.bare
theorem Inv.call {g':Array GenState}{t':Nat}{d':Drawn}{ch:List Addr} (I:Inv X pins σ H s) (u:Un (GR X.stack) ch H H' s.heap h') (hok:GU X.prog X.w H' h') (hg:AllBare g')
  (IB:∀b∈ch,(b∈X.ex\/X.s₀.heap.objs.size<=b)/\b≠X.env.locals/\(∀x c,X.env.cells.lookup x=some c->c≠b)/\∀p∈X.pn++pins,p.1≠b) :
  Inv X pins σ H' { s with heap:=h',gens:=g',drawn:=d',toks:=t' }:=by
 obtain⟨m,⟨o,es,ep,ho,r⟩,_⟩:=id I.loc;obtain⟨sl,hL⟩:=u.any ho I.free λz=>(IB _ z).2.1 rfl
 exact I.step (ch:=ch) IB (λb o hL hb hc e n=>u.keep b o e n (λz=>(Ci.mp (I.stkSub b z)).elim hL hb) hc) (λb o _ _ hc e n=>u.any e n hc) (λb o hc e n=>u.free b o e n hc) (λb o hc e=>u.there b o e hc) u.tups u.frzs u.tbls (λm' hm=>by
  obtain⟨o',Tz,TB,Iz,r'⟩:=hm;rw [ho] at Iz;cases Iz
  exact⟨_,Tz,TB,hL,r'⟩) hok hg
theorem Inv.turned {t':Nat}{it:Addr} (I:Inv X pins σ H s) (k:∀b o,b≠it->s.heap.get? b=some o->h'.get? b=some o) (hn:H it=none) (hL:it≠X.env.locals)
  (h1:it∈X.ex\/X.s₀.heap.objs.size<=it) (h2:∀x c,X.env.cells.lookup x=some c->c≠it) (h3:∀p∈X.pn++pins,p.1≠it):Inv X pins σ H { s with heap:=h',toks:=t' }:=by
 have Oj:∀b u,H b=some u->b≠it:=λb u e z=>by rw [z,hn] at e;cases e
 refine I.step (g':=s.gens) (d':=s.drawn) (ch:=[it]) (λb hb=>?_) (λb o _ _ hc e _=>k b o (λz=>hc (by simp [z])) e) (λb o _ _ hc e _=>⟨o.slots,k b o (λz=>hc (by simp [z])) e⟩) (λ_ _ _ _ n=>n)
  (λb o hc e=>⟨o,k b o (λz=>hc (by simp [z])) e⟩) (λ_ _ e=>e) (λ_ _ _ e=>e) (λb ps e=>⟨#[],by rw [e];simp⟩) (λm hm=>?_) (λb u e=>?_) I.bare
 ·have e:b=it:=by simpa using hb
  subst e;exact⟨h1,hL,h2,h3⟩
 ·obtain⟨o,es,ep,ho,r⟩:=hm
  exact⟨o,es,ep,k _ o (Dy hL) ho,r⟩
 ·refine (I.hok b u e).stay (λc v hc q=>k c v ?_ q) (λ_ q=>q) λ_ _ q=>q
  rcases hc with z | z
  ·rw [z];exact Oj b u e
  ·exact Oj c _ z
theorem Inv.tok (I:Inv X pins σ H s) (t:Nat):Inv X pins σ H { s with toks:=t }:=I.un (h':=s.heap) (t':=t) Un.refl I.hok
theorem Inv.kept {t':Nat} (I:Inv X pins σ H s) (k:∀b u,s.heap.get? b=some u->h'.get? b=some u):Inv X pins σ H { s with heap:=h',toks:=t' }:=I.un (Un.kept k) (I.hok.kept k)
theorem Inv.laid {a:Addr}{o:HO}{t':Nat} (I:Inv X pins σ H s) (k:∀b u,s.heap.get? b=some u->h'.get? b=some u) (hp:s.heap.objs.size<=a) (new:bg X.prog X.w (upd H a o) h' a o) :
  Inv X pins σ (upd H a o) { s with heap:=h',toks:=t' }:=I.un (Un.laid k hp (I.hok.fresh hp)) (I.hok.laid k hp new)
theorem Inv.write {x e:Addr}{o:HO}{t':Nat} (I:Inv X pins σ H s) (mu:Pf (H x)) (he:e=x\/H e=some (.own x)) (k:∀b u,b≠e->s.heap.get? b=some u->h'.get? b=some u) (M5:∃u,h'.get? e=some u)
  (new:bg X.prog X.w (upd H x o) h' x o):Inv X pins σ (upd H x o) { s with heap:=h',toks:=t' }:=I.un (Un.write mu he k M5) (I.hok.write mu he k M5 new)
theorem Inv.pins_of {pins':List (Addr×Obj)} (I:Inv X pins σ H s) (h:∀p∈pins',s.heap.get? p.1=some p.2/\H p.1=none/\p.1≠X.env.locals/\p.1∉X.fs/\∀v,p.2.data≠.cell v):Inv X pins' σ H s :=
 ⟨I.ok,I.os,I.bare,I.base,I.loc,I.cell,I.free,I.freeC,λp hp=>(Ck.mp hp).elim (λz=>I.pin p (CM _ z)) (h p),I.hok,I.len⟩
theorem ki {N:List Str} (hN:N.Nodup) {i j:Nat}{x:Str} (a:N[i]?=some x) (b:N[j]?=some x):i=j:=by
 obtain⟨h1,e1⟩:=Ca.mp a;obtain⟨h2,e2⟩:=Ca.mp b;exact (Ew hN).mp (e1.trans e2.symm)
theorem mY {M:Model}{A:Around}{E:zz9->zz8->Prop}{i:Nat}{x:Str}{v:V}{u:zz9}{Q:Unit->zz8->Prop} (I:Inv X pins σ H s) (hN:X.N.Nodup) (hi:X.N[i]?=some x) (hx:Loc X.env.scope x) (r:RelV v u)
  (h:∀s',Inv X pins (σ.set i (some v)) H s'->(∃a,Heap.SameBut a s.heap s'.heap/\(a=X.env.locals\/X.env.cells.lookup x=some a))->Q () s') (hf:X.fn x=true\/X.env.scope.names.lookup x=some .local:=by first | exact .inl rfl | exact .inr rfl | assumption):wpAny M A (storeName X.env x u) Q E s:=by
 obtain⟨m,hn,hl⟩:=id I.loc;have MG:(X.env.scope.kind == .class || (X.env.scope.kind == .module && X.env.locals != X.env.globals))=false:=by rw [I.ok.kind];rfl
 have VL:i < σ.length:=by rw [I.len];exact (Ca.mp hi).1
 have cne:=I.cne;have tracked:∀{a:Addr}{h':Heap},(∃o,s.heap.get? a=some o/\H a=none)->Heap.SameBut a s.heap h'->GU X.prog X.w H h':=λ{a h'} ha hs b ob e=>by
  obtain⟨_,_,LI⟩:=ha;refine (I.hok b ob e).stay (λc w' hc q=>(hs.2 c ?_).trans q) (λ_ q=>q) λ_ _ q=>q;rintro rfl
  rcases hc with rfl | hc
  ·rw [LI] at e;cases e
  ·rw [LI] at hc;cases hc
 rcases hx with hk | hk
 ·refine wpAny_storeName_local hk hn (λh' Kb hs=>?_) MG
  obtain⟨oL,_,_,Qi,_⟩:=id hn;refine h _ ⟨I.ok,I.os,I.bare,⟨λb o e n hb hx=>?_,λb o e n hb hx=>?_,I.base.free,λb o e hx=>?_,I.base.tups,I.base.frzs,I.base.tbls⟩,⟨_,Kb,λj y v' e1 e2 e3=>?_⟩,λy c e=>?_,I.free,I.freeC,λp hp=>?_,tracked ⟨oL,Qi,I.free⟩ hs,by simpa using I.len⟩ ⟨_,hs,.inl rfl⟩
  ·exact (hs.2 b (CU (CC (Cp e) I.ok.above))).trans (I.base.keep b o e n hb hx)
  ·obtain⟨sl,e1⟩:=I.base.slot b o e n hb hx
   exact⟨sl,(hs.2 b (CU (CC (Cp e) I.ok.above))).trans e1⟩
  ·obtain⟨o',e1⟩:=I.base.there b o e hx
   exact⟨o',(hs.2 b (CU (CC (Cp e) I.ok.above))).trans e1⟩
  ·by_cases hj:j=i
   ·subst hj
    rw [hi] at e1;cases e1;rw [DH VL] at e2;cases e2;exact⟨u,r,.inl ⟨hk,by simp⟩⟩
   ·rw [DP (Dy hj)] at e2
    obtain⟨u',r',q⟩:=hl j y v' e1 e2 e3;refine⟨u',r',?_⟩
    rcases q with ⟨k,e⟩ | ⟨k,c,e,z⟩
    ·refine .inl ⟨k,?_⟩
     have:y≠x:=λe=>hj (ki hN e1 (e ▸ hi));simp [this,e]
    ·exact .inr ⟨k,c,e,z.sameBut hs (cne y c e)⟩
  ·obtain⟨w',z⟩:=I.cell y c e
   exact⟨w',z.sameBut hs (cne y c e)⟩
  ·obtain⟨e,n,ne,nf,d⟩:=I.pin p hp
   exact⟨(hs.2 p.1 ne).trans e,n,ne,nf,d⟩
 ·have JY:X.fn x=true:=by
   rcases hf with z | z
   ·exact z
   ·rw [z] at hk;cases hk
  obtain⟨c,hc⟩:=I.ok.has x (.inl hk);obtain⟨w',z⟩:=I.cell x c hc;refine wpAny_storeName_cell I.ok.kind hk hc z (λh' KW hs=>?_);obtain⟨oc,Vw,SJ⟩:=id z;refine h { s with heap:=h' } ⟨I.ok,I.os,I.bare,⟨λb o e n hb hx=>?_,λb o e n hb hx=>?_,I.base.free,λb o e hx=>?_,I.base.tups,I.base.frzs,I.base.tbls⟩,⟨m,hn.sameBut hs (Dy (cne x c hc)),λj y v' e1 e2 e3=>?_⟩,λy c' e=>?_,I.free,I.freeC,λp hp=>?_,tracked ⟨oc,Vw,I.freeC x c hc⟩ hs,by simpa using I.len⟩ ⟨c,hs,.inr hc⟩
  ·exact (hs.2 b (CU (CC (Cp e) (I.ok.cab x c JY hc)))).trans (I.base.keep b o e n hb hx)
  ·obtain⟨sl,e1⟩:=I.base.slot b o e n hb hx
   exact⟨sl,(hs.2 b (CU (CC (Cp e) (I.ok.cab x c JY hc)))).trans e1⟩
  ·obtain⟨o',e1⟩:=I.base.there b o e hx
   exact⟨o',(hs.2 b (CU (CC (Cp e) (I.ok.cab x c JY hc)))).trans e1⟩
  ·by_cases hj:j=i
   ·subst hj
    rw [hi] at e1;cases e1;rw [DH VL] at e2;cases e2;exact⟨u,r,.inr ⟨.inl hk,c,hc,KW⟩⟩
   ·rw [DP (Dy hj)] at e2
    obtain⟨u',r',q⟩:=hl j y v' e1 e2 e3;refine⟨u',r',?_⟩
    rcases q with q | ⟨k,c',e,z'⟩
    ·exact .inl q
    ·refine .inr ⟨k,c',e,z'.sameBut hs ?_⟩
     rintro rfl;exact hj (ki hN e1 (I.ok.inj _ _ _ e hc ▸ hi))
  ·by_cases VR:c'=c
   ·subst VR;exact⟨_,KW⟩
   ·obtain⟨w2,z2⟩:=I.cell y c' e
    exact⟨w2,z2.sameBut hs VR⟩
  ·obtain⟨e,n,ne,nf,d⟩:=I.pin p hp
   refine⟨(hs.2 p.1 ?_).trans e,n,ne,nf,d⟩;intro q;rw [q,Vw] at e;have q':oc=p.2:=CZ e;exact d w' (by rw [<- q'];exact SJ)
theorem eW {M:Model}{A:Around}{E:zz9->zz8->Prop}{i:Nat}{x:Str}{v:V}{u:zz9}{Q:Unit->zz8->Prop} (I:Inv X pins σ H s) (hN:X.N.Nodup) (hi:X.N[i]?=some x) (hx:Loc X.env.scope x) (r:RelV v u)
  (h:∀s',Inv X pins (σ.set i (some v)) H s'->Q () s') (hf:X.fn x=true\/X.env.scope.names.lookup x=some .local:=by first | exact .inl rfl | exact .inr rfl | assumption):wpAny M A (storeName X.env x u) Q E s :=
 mY I hN hi hx r (λs' I' _=>h s' I') hf
theorem Inv.call' {s':zz8}{ch:List Addr} (I:Inv X pins σ H s) (ho:s'.os=s.os) (u:Un (GR X.stack) ch H H' s.heap s'.heap) (hok:GU X.prog X.w H' s'.heap) (hg:AllBare s'.gens)
  (IB:∀b∈ch,(b∈X.ex\/X.s₀.heap.objs.size<=b)/\b≠X.env.locals/\(∀x c,X.env.cells.lookup x=some c->c≠b)/\∀p∈X.pn++pins,p.1≠b):Inv X pins σ H' s':=by
 obtain⟨h',g',d',t',o'⟩:=s';have e:o'=s.os:=ho;subst e;exact I.call (g':=g') (t':=t') (d':=d') u hok hg IB
end
abbrev XK:=zz9->Option Addr->Hp->Prop
abbrev St:=List (Option V)
abbrev VK:=V->Hp->Prop
abbrev TE:=St->Hp->VK->Prop
abbrev TT:=St->Hp->(Bool->Hp->Prop)->Prop
abbrev TA:=St->Hp->(List V->Hp->Prop)->Prop
structure Ends where
 nx:St->Hp->Prop
 rt:VK
 bk:St->Hp->Prop:=λ_ _=>False
 ct:St->Hp->Prop:=λ_ _=>False
abbrev TS:=Ends->St->Hp->Prop
def EP (X:Cx) (pins:List (Addr×Obj)) (σ:St) (Q:VK) (u:zz9) (s':zz8):Prop:=∃v H',Inv X pins σ H' s'/\RelV v u/\Q v H'
def TP (X:Cx) (pins:List (Addr×Obj)) (σ:St) (Q:Bool->Hp->Prop) (b:Bool) (s':zz8):Prop:=∃H',Inv X pins σ H' s'/\Q b H'
def AP (X:Cx) (pins:List (Addr×Obj)) (σ:St) (Q:List V->Hp->Prop) (us:List zz9) (s':zz8):Prop:=∃vs H',Inv X pins σ H' s'/\aC vs us/\Q vs H'
def SP (X:Cx) (pins:List (Addr×Obj)) (D:Ends) (f:Flow) (s':zz8):Prop :=
 match f with
 | .next=>∃σ' H',Inv X pins σ' H' s'/\D.nx σ' H'
 | .brk=>∃σ' H',Inv X pins σ' H' s'/\D.bk σ' H'
 | .cont=>∃σ' H',Inv X pins σ' H' s'/\D.ct σ' H'
 | .ret u=>∃v σ' H',Inv X pins σ' H' s'/\RelV v u/\D.rt v H'
def PE (X:Cx) (e:Expr) (t:TE):Prop :=
 ∀(pins:List (Addr×Obj)) (s:zz8) (σ:St) (H:Hp) (Q:VK),Inv X pins σ H s->t σ H Q->wpAny (model X.prog X.w) X.A (eval e X.env) (EP X pins σ Q) X.xe s
def PT (X:Cx) (e:Expr) (t:TT):Prop :=
 ∀(pins:List (Addr×Obj)) (s:zz8) (σ:St) (H:Hp) (Q:Bool->Hp->Prop),Inv X pins σ H s->t σ H Q->wpAny (model X.prog X.w) X.A (isTrue e X.env (eval e X.env)) (TP X pins σ Q) X.xe s
def PW (X:Cx) (e:Expr) (t:TT):Prop :=
 ∀(whole:Sem zz9) (pins:List (Addr×Obj)) (s:zz8) (σ:St) (H:Hp) (Q:Bool->Hp->Prop),Inv X pins σ H s->t σ H Q->wpAny (model X.prog X.w) X.A (isTrue e X.env whole) (TP X pins σ Q) X.xe s
theorem PW.pt {X:Cx}{e:Expr}{t:TT} (h:PW X e t):PT X e t:=h _
def PA (X:Cx) (es:List Expr) (t:TA):Prop :=
 ∀(pos:Pos) (pins:List (Addr×Obj)) (s:zz8) (σ:St) (H:Hp) (Q:List V->Hp->Prop),Inv X pins σ H s->t σ H Q->wpAny (model X.prog X.w) X.A (spliced (backTo pos (starEach es X.env))) (AP X pins σ Q) X.xe s
def PS (X:Cx) (st:Stmt) (t:TS):Prop :=
 ∀(pins:List (Addr×Obj)) (s:zz8) (σ:St) (H:Hp) (D:Ends),Inv X pins σ H s->t D σ H->wpAny (model X.prog X.w) X.A (exec st X.env) (SP X pins D) X.xe s
def Ig (X:Cx) (st:List Stmt) (t:TS):Prop :=
 ∀(pins:List (Addr×Obj)) (s:zz8) (σ:St) (H:Hp) (D:Ends),Inv X pins σ H s->t D σ H->wpAny (model X.prog X.w) X.A (execs st X.env) (SP X pins D) X.xe s
theorem Gu {α:Type}{t:Sem α}{Q Q':α->zz8->Prop}{M:Model}{A:Around}{E:zz9->zz8->Prop}{s:zz8} (h:wpAny M A t Q E s) (hQ:∀a s,Q a s->Q' a s):wpAny M A t Q' E s:=DD h hQ λ_ _ x=>x
section
variable {X:Cx}
def bv (i:Nat):TE:=λσ H Q=>∃v,σ[i]?=some (some v)/\Q v H
def tC (v:V):TE:=λ_ H Q=>Q v H
theorem zx {i:Nat}{x:Str}{pos:Pos} (hN:X.N[i]?=some x) (hv:Qw X.env.scope x) (hd:(x == ("__debug__":Str))=false:=by decide) (Ip:(x == ("__classdict__":Str))=false:=by decide):PE X (.Name x pos) (bv i):=by
 intro pins s σ H Q I h;obtain⟨v,e,h⟩:=h;obtain⟨m,hn,hl⟩:=I.loc;obtain⟨u,r,l⟩:=hl i x v hN e hv;have fin:EP X pins σ Q u s:=⟨v,H,I,r,h⟩
 rcases l with ⟨hk,hm⟩ | ⟨hk,c,hc,IV⟩
 ·exact wpAny_Name (wpAny_loadName_local I.ok.kind hk hn hm fin) hd
 ·rcases hk with hk | hk
  ·exact wpAny_Name (wpAny_loadName_cell I.ok.kind hk hc IV fin) hd
  ·exact wpAny_Name (wpAny_loadName_free I.ok.kind hk hc IV fin Ip) hd
theorem ai {i j pos}:PE X (.Constant (.int i) j pos) (tC (.int i)):=λ_ _ _ H _ I h=>wpAny_Constant_int ⟨.int i,H,I.tok _,⟨_,rfl⟩,h⟩
theorem cb {b j pos}:PE X (.Constant (.bool b) j pos) (tC (.bl b)):=λ_ _ _ H _ I h=>Constant_bool ⟨.bl b,H,I,rfl,h⟩
theorem eM {j pos}:PE X (.Constant .none j pos) (tC .non):=λ_ _ _ H _ I h=>Constant_none ⟨.non,H,I,rfl,h⟩
theorem bq {x j pos}:PE X (.Constant (.str x) j pos) (tC (.str x)):=λ_ _ _ H _ I h=>Calls.Constant_str ⟨.str x,H,I.tok _,⟨_,rfl⟩,h⟩
def Gl (X:Cx) (x:Str):Prop:=X.env.kindOf x=some .globalImplicit
theorem gw {E:zz9->zz8->Prop}{pins:List (Addr×Obj)}{s:zz8}{σ:St}{H:Hp}{x:Str}{u:zz9}{pos:Pos}{Q:zz9->zz8->Prop} (I:Inv X pins σ H s) (hg:Gl X x) (hm:X.mg x=some u) (h:Q u s)
  (hd:(x == ("__debug__":Str))=false:=by decide):wpAny (model X.prog X.w) X.A (eval (.Name x pos) X.env) Q E s :=
 Calls.Name_function_global I.ok.kind hg (Calls.loadGlobal_global (by rw [I.ok.glob];exact I.mod.glob.keeps I.bk) hm h) hd
theorem e7 {E:zz9->zz8->Prop}{pins:List (Addr×Obj)}{s:zz8}{σ:St}{H:Hp}{x:Str}{u:zz9}{pos:Pos}{Q:zz9->zz8->Prop} (I:Inv X pins σ H s) (hg:Gl X x) (hm:X.mg x=none) (hv:bootBuiltins x=some u) (h:Q u s)
  (hn:x≠"__name__":=by decide) (hd:(x == ("__debug__":Str))=false:=by decide):wpAny (model X.prog X.w) X.A (eval (.Name x pos) X.env) Q E s:=by
 obtain⟨mb,h1,h2⟩:=I.mod.blt;exact Calls.Name_function_global I.ok.kind hg (Calls.loadGlobal_builtin (by rw [I.ok.glob];exact I.mod.glob.keeps I.bk) hm (by rw [I.ok.blt];exact h1.keeps I.bk) ((h2 x hn).trans hv) h) hd
theorem dS {x:Str}{v:V}{u:zz9}{pos:Pos} (hg:Gl X x) (hm:X.mg x=some u) (r:RelV v u) (hd:(x == ("__debug__":Str))=false:=by decide):PE X (.Name x pos) (tC v) :=
 λ_ _ _ H _ I h=>gw I hg hm ⟨v,H,I,r,h⟩ hd
theorem b8 {x:Str}{v:V}{u:zz9}{pos:Pos} (hg:Gl X x) (hm:X.mg x=none) (hv:bootBuiltins x=some u) (r:RelV v u) (hn:x≠"__name__":=by decide) (hd:(x == ("__debug__":Str))=false:=by decide):PE X (.Name x pos) (tC v) :=
 λ_ _ _ H _ I h=>e7 I hg hm hv ⟨v,H,I,r,h⟩ hn hd
variable {a b:Expr}{ta tb:TE}{pos:Pos}
def PC (X:Cx) (op:CmpOp) (a b:Expr) (t:TE):Prop :=
 ∀(pins:List (Addr×Obj)) (s:zz8) (σ:St) (H:Hp) (Q:VK),Inv X pins σ H s->t σ H Q ->
  wpAny (model X.prog X.w) X.A (eval a X.env) (λv s₁=>wpAny (model X.prog X.w) X.A (eval b X.env) (λu s₂=>wpAny (model X.prog X.w) X.A (compareOp op v u) (EP X pins σ Q) X.xe s₂) X.xe s₁) X.xe s
def tB (t:TE):TT:=λσ H Q=>t σ H λx H1=>∃c,x=.bl c/\Q c H1
theorem qQ {op:CmpOp}{t:TE} (h:PC X op a b t) (h1:behindInMarks op b=false:=by first | exact Oh _ (by decide) (by decide) | rfl):PT X (.Compare a [op] [b] pos) (tB t):=by
 intro pins s σ H Q I hw;refine wpAny_isTrue_Compare1 (Gu (h pins s σ H _ I hw) λv s1 h1=>Gu h1 λu s2 h2=>Gu h2 λc s3 ⟨x,H1,I1,r1,q1⟩=>?_) h1;obtain⟨d,rfl,q⟩:=q1;cases r1;exact Dt ⟨H1,I1,q⟩
theorem bG {e:Expr}{t:TE} (h:PE X e t) (he:∀whole,isTrue e X.env whole=(do let v <- whole;standAt e.pos;holding [v] (truthy v)):=by intro _;rfl):PT X e (tB t):=by
 intro pins s σ H Q I hw;refine isTrue_plain (Gu (h pins s σ H _ I hw) λv s1 ⟨x,H1,I1,r1,q1⟩=>?_) (he _);obtain⟨d,rfl,q⟩:=q1;cases r1;exact Dt ⟨H1,I1,q⟩
variable {tA PB:TT}{rest:List Expr}
def A0 (t u:TT):TT:=λσ H Q=>t σ H λc H1=>if c=true then u σ H1 Q else Q false H1
def Xp (t u:TT):TT:=λσ H Q=>t σ H λc H1=>if c=true then Q true H1 else u σ H1 Q
def AY (t:TT):TT:=λσ H Q=>t σ H λc H1=>Q (!c) H1
theorem oO (ha:PT X a tA):PW X (.BoolOp .And [a] pos) tA:=by
 intro wh pins s σ H Q I h;refine isTrue_and (Gu (ha pins s σ H Q I h) λc s1 e=>?_);cases c with
 | true=>exact isTrue_and_nil e
 | false=>exact e
theorem cZ (ha:PT X a tA):PW X (.BoolOp .Or [a] pos) tA:=by
 intro wh pins s σ H Q I h;refine isTrue_or (Gu (ha pins s σ H Q I h) λc s1 e=>?_);cases c with
 | false=>exact isTrue_or_nil e
 | true=>exact e
theorem qu (ha:PT X a tA) (hb:PW X (.BoolOp .And (b::rest) pos) PB):PW X (.BoolOp .And (a::b::rest) pos) (A0 tA PB):=by
 intro wh pins s σ H Q I h;refine isTrue_and (Gu (ha pins s σ H _ I h) λc s1 ⟨H1,I1,q1⟩=>?_);cases c with
 | true=>exact hb wh pins s1 σ H1 Q I1 q1
 | false=>exact⟨H1,I1,q1⟩
theorem cM (ha:PT X a tA) (hb:PW X (.BoolOp .Or (b::rest) pos) PB):PW X (.BoolOp .Or (a::b::rest) pos) (Xp tA PB):=by
 intro wh pins s σ H Q I h;refine isTrue_or (Gu (ha pins s σ H _ I h) λc s1 ⟨H1,I1,q1⟩=>?_);cases c with
 | true=>exact⟨H1,I1,q1⟩
 | false=>exact hb wh pins s1 σ H1 Q I1 q1
theorem bz (ha:PT X a tA):PT X (.UnaryOp .Not a pos) (AY tA):=by
 intro pins s σ H Q I h;exact isTrue_not (ha pins s σ H (λc H1=>Q (!c) H1) I h)
def AB (ta tb:TE):TE:=λσ H Q=>ta σ H λx H1=>∃c,x=.bl c/\if c=true then tb σ H1 Q else Q (.bl false) H1
def AJ (ta:TE):TE:=λσ H Q=>ta σ H λx H1=>∃c,x=.bl c/\Q (.bl (!c)) H1
theorem di {op}{t:TE} (h:PE X a t):PE X (.BoolOp op [a] pos) t:=λpins s σ H Q I hw=>BoolOp_one (h pins s σ H Q I hw)
theorem cH (ha:PE X a ta) (hb:PE X (.BoolOp .And (b::rest) pos) tb):PE X (.BoolOp .And (a::b::rest) pos) (AB ta tb):=by
 intro pins s σ H Q I h;refine BoolOp_and (Gu (ha pins s σ H _ I h) λv s1 ⟨x,H1,I1,r1,q1⟩=>?_);obtain⟨c,rfl,q1⟩:=q1;cases r1;refine Dt ?_;cases c with
 | true=>exact hb pins s1 σ H1 Q I1 q1
 | false=>exact⟨.bl false,H1,I1,rfl,q1⟩
theorem qd (ha:PE X a ta):PE X (.UnaryOp .Not a pos) (AJ ta):=by
 intro pins s σ H Q I h;refine UnaryOp_ (Gu (ha pins s σ H _ I h) λv s1 ⟨x,H1,I1,r1,q1⟩=>?_);obtain⟨c,rfl,q1⟩:=q1;cases r1;exact not_of (Dt ⟨.bl (!c),H1,I1,rfl,q1⟩)
def Xq (t:TT) (ta tb:TE):TE:=λσ H Q=>t σ H λc H1=>if c=true then ta σ H1 Q else tb σ H1 Q
theorem wI {c:Expr} (hc:PT X c tA) (ha:PE X a ta) (hb:PE X b tb):PE X (.IfExp c a b pos) (Xq tA ta tb):=by
 intro pins s σ H Q I h;refine wpAny_IfExp (Gu (hc pins s σ H _ I h) λd s1 ⟨H1,I1,q1⟩=>?_);cases d with
 | true=>exact ha pins s1 σ H1 Q I1 q1
 | false=>exact hb pins s1 σ H1 Q I1 q1
end
def Gq (K:zz7) (H:Hp) (a:Addr) (xs:List V):Prop :=
 Rd H a (.lst xs) \/
  ∃(o:Obj) (Gm:Array zz9) (n:Nat),K.lookup a=some o/\o.cls=.type "list"/\o.dict=none/\o.data=.seq Gm n/\Gm.size<=sizeLine/\aC xs Gm.toList
def Gp (K:zz7) (H:Hp) (a:Addr) (xs:List V):Prop :=
 Rd H a (.tup xs) \/
  ∃(o:Obj) (Gm:Array zz9) (n:Nat),K.lookup a=some o/\o.cls=.type "tuple"/\o.data=.seq Gm n/\Gm.size<=sizeLine/\aC xs Gm.toList
def Be:zz9->Option V
 | .none=>some .non
 | .bool b=>some (.bl b)
 | .int i _=>some (.int i)
 | .str x _=>some (.str x)
 | .bytes b _=>some (.byt b)
 | .float b _=>some (.flt b)
 | .ref a=>some (.ref a)
 | .type n=>some (.ty n)
 | _=>none
theorem RelV.abs {x:V}{u:zz9} (r:RelV x u):Be u=some x:=by
 cases x with
 | non=>cases r;rfl
 | bl _=>cases r;rfl
 | int _=>obtain⟨t,rfl⟩:=r;rfl
 | str _=>obtain⟨t,rfl⟩:=r;rfl
 | byt _=>obtain⟨t,rfl⟩:=r;rfl
 | flt _=>obtain⟨t,rfl⟩:=r;rfl
 | ref _=>cases r;rfl
 | ty _=>cases r;rfl
theorem RelV.inj {x y:V}{u:zz9} (r:RelV x u) (q:RelV y u):x=y:=CZ (r.abs.symm.trans q.abs)
theorem aC.inj:∀{xs ys:List V}{us:List zz9},aC xs us->aC ys us->xs=ys
 | _,_,_,.nil,.nil=>rfl
 | _,_,_,.cons r t,.cons r' t'=>by rw [r.inj r',aC.inj t t']
section
variable {X:Cx}{pins:List (Addr×Obj)}{σ:St}{H:Hp}{s:zz8}{a:Addr}{xs ys:List V}
theorem Gq.of {K:zz7} (h:H a=some (.lst xs)):Gq K H a xs:=.inl (.inl h)
theorem Gp.of {K:zz7} (h:H a=some (.tup xs)):Gp K H a xs:=.inl (.inl h)
theorem Inv.list (I:Inv X pins σ H s) (h:Gq X.K H a xs):∃Gm:List zz9,aC xs Gm/\PlainL s.heap a Gm.toArray/\xs.length<=sizeLine:=by
 rcases h with h | ⟨o,Gm,n,hk,hc,hd,hs,hz,r⟩
 ·obtain⟨z,Gm,n,r,e⟩:=h.ok I.hok
  exact⟨Gm,r,⟨_,n,e,rfl,rfl,rfl⟩,z⟩
 ·refine⟨Gm.toList,r,⟨o,n,I.kIn a o hk,hc,hd,by simpa using hs⟩,?_⟩
  have e:=r.length;simp only [DW] at e;omega
theorem Inv.tuple (I:Inv X pins σ H s) (h:Gp X.K H a xs):∃Gm:List zz9,aC xs Gm/\IsTup s.heap a Gm.toArray/\xs.length<=sizeLine:=by
 rcases h with h | ⟨o,Gm,n,hk,hc,hs,hz,r⟩
 ·obtain⟨z,Gm,r,p⟩:=h.ok I.hok
  exact⟨Gm,r,p,z⟩
 ·refine⟨Gm.toList,r,⟨o,I.kIn a o hk,hc,n,by simpa using hs⟩,?_⟩
  have e:=r.length;simp only [DW] at e;omega
theorem Inv.list_inj (I:Inv X pins σ H s) (h:Gq X.K H a xs) (h':Gq X.K H a ys):xs=ys:=by
 obtain⟨Gm,r,⟨o,n,e,_,_,d⟩,_⟩:=I.list h;obtain⟨its',r',⟨o',n',e',_,_,d'⟩,_⟩:=I.list h';rw [e] at e';cases e';rw [d] at d'
 injection d' with d1 _
 have:Gm=its':=by simpa using congrArg Array.toList d1
 subst this;exact r.inj r'
theorem Inv.tuple_inj (I:Inv X pins σ H s) (h:Gp X.K H a xs) (h':Gp X.K H a ys):xs=ys:=by
 obtain⟨Gm,r,⟨o,e,_,n,d⟩,_⟩:=I.tuple h;obtain⟨its',r',⟨o',e',_,n',d'⟩,_⟩:=I.tuple h';rw [e] at e';cases e';rw [d] at d'
 injection d' with d1 _
 have:Gm=its':=by simpa using congrArg Array.toList d1
 subst this;exact r.inj r'
end
abbrev Cx.wish (X:Cx) (E:zz9->zz8->Prop):Cx:={ X with xe:=E }
abbrev Cx.nox (X:Cx):Cx:=X.wish λ_ _=>False
theorem Cx.Ok.wish {X:Cx} (ok:X.Ok) (E:zz9->zz8->Prop):(X.wish E).Ok :=
 ⟨ok.mod,ok.kind,ok.glob,ok.blt,ok.above,ok.inj,ok.has,ok.cab,ok.hd,ok.frames,ok.stk,ok.exf,ok.bs,ok.bsz,ok.noex,ok.exfs,ok.funs,ok.frf⟩
theorem Cx.Ok.unwish {X:Cx}{E:zz9->zz8->Prop} (ok:(X.wish E).Ok):X.Ok :=
 ⟨ok.mod,ok.kind,ok.glob,ok.blt,ok.above,ok.inj,ok.has,ok.cab,ok.hd,ok.frames,ok.stk,ok.exf,ok.bs,ok.bsz,ok.noex,ok.exfs,ok.funs,ok.frf⟩
section
variable {X:Cx}{pins:List (Addr×Obj)}{σ:St}{H:Hp}{s:zz8}{E:zz9->zz8->Prop}
theorem Inv.wish (I:Inv X pins σ H s) (E:zz9->zz8->Prop):Inv (X.wish E) pins σ H s:=⟨I.ok.wish E,I.os,I.bare,I.base,I.loc,I.cell,I.free,I.freeC,I.pin,I.hok,I.len⟩
theorem Inv.unwish (I:Inv (X.wish E) pins σ H s):Inv X pins σ H s:=⟨I.ok.unwish,I.os,I.bare,I.base,I.loc,I.cell,I.free,I.freeC,I.pin,I.hok,I.len⟩
theorem SP.unwish {D:Ends}{f:Flow}{s':zz8} (h:SP (X.wish E) pins D f s'):SP X pins D f s':=by
 cases f with
 | next=>obtain⟨σ',H',I,q⟩:=h;exact⟨σ',H',I.unwish,q⟩
 | brk=>obtain⟨σ',H',I,q⟩:=h;exact⟨σ',H',I.unwish,q⟩
 | cont=>obtain⟨σ',H',I,q⟩:=h;exact⟨σ',H',I.unwish,q⟩
 | ret u=>obtain⟨v,σ',H',I,r,q⟩:=h;exact⟨v,σ',H',I.unwish,r,q⟩
theorem Ig.nox {st:List Stmt}{t:TS} (h:Ig X.nox st t):Ig X st t:=λpins s σ H D I hw =>
 DD (h pins s σ H D (I.wish _) hw) (λ_ _ q=>q.unwish) λ_ _ z=>False.elim z
end
section
variable {X:Cx}{st:Stmt}{rest:List Stmt}{t u:TS}{e:Expr}{te:TE}{pos:Pos}
def rO:TS:=λD σ H=>D.nx σ H
def eh (t u:TS):TS:=λD σ H=>t { D with nx:=u D } σ H
theorem aS:Ig X [] rO:=λ_ _ σ H _ I h=>En ⟨σ,H,I,h⟩
theorem aj (h1:PS X st t) (h2:Ig X rest u):Ig X (st::rest) (eh t u):=by
 intro pins s σ H D I h;refine wpAny_execs_cons (Gu (h1 pins s σ H { D with nx:=u D } I h) λf s1 q=>?_);cases f with
 | next =>
  obtain⟨σ',H',I',q⟩:=q;exact h2 pins s1 σ' H' D I' q
 | ret v=>exact q
 | brk=>exact q
 | cont=>exact q
theorem aq (h1:PS X st t):Ig X [st] t:=by
 intro pins s σ H D I h;refine wpAny_execs_cons (Gu (h1 pins s σ H D I h) λf s1 q=>?_);cases f with
 | next=>exact En q
 | ret v=>exact q
 | brk=>exact q
 | cont=>exact q
theorem Inv.quiet {pins:List (Addr×Obj)}{σ:St}{H:Hp}{s:zz8} (I:Inv X pins σ H s):interactive X.env=false:=by simp [interactive,I.ok.kind]
def AH (te:TE):TS:=λD σ H=>te σ H λ_ H1=>D.nx σ H1
theorem bp (he:PE X e te) (hs:swapsWith e none pos.line X.env=pure false:=by rfl):PS X (.Expr e pos) (AH te):=by
 intro pins s σ H D I h;exact wpAny_Expr_any (Gu (he pins s σ H _ I h) λv s1 ⟨x,H1,I1,r1,q1⟩=>⟨σ,H1,I1,q1⟩) I.quiet hs
def Bb (te:TE):TS:=λD σ H=>te σ H D.rt
theorem aG (he:PE X e te):PS X (.Return (some e) pos) (Bb te):=by
 intro pins s σ H D I h;exact wpAny_Return_some (Gu (he pins s σ H _ I h) λv s1 ⟨x,H1,I1,r1,q1⟩=>⟨x,σ,H1,I1,r1,q1⟩)
def lY (c:TT) (t u:TS):TS:=λD σ H=>c σ H λb H1=>if b=true then t D σ H1 else u D σ H1
theorem aQ {c:Expr}{a b:List Stmt}{tc:TT} (hc:PT X c tc) (ha:Ig X a t) (hb:Ig X b u):PS X (.If c a b pos) (lY tc t u):=by
 intro pins s σ H D I h;refine wpAny_If (Gu (hc pins s σ H _ I h) λd s1 ⟨H1,I1,q1⟩=>?_);cases d with
 | true=>exact ha pins s1 σ H1 D I1 q1
 | false=>exact hb pins s1 σ H1 D I1 q1
def zZ:TS:=λ_ _ _=>False
theorem bO {Xx:List Stmt}:Ig X Xx zZ:=λ_ _ _ _ _ _ h=>h.elim
end
abbrev TG:=V->St->Hp->(St->Hp->Prop)->Prop
abbrev LM:=List V->St->Hp->(St->Hp->Prop)->Prop
def PG (X:Cx) (target:Expr) (t:TG):Prop :=
 ∀(pins:List (Addr×Obj)) (s:zz8) (σ:St) (H:Hp) (v:V) (u:zz9) (Q:St->Hp->Prop),Inv X pins σ H s->RelV v u->t v σ H Q ->
  wpAny (model X.prog X.w) X.A (assign target X.env u) (λ_ s'=>∃σ' H',Inv X pins σ' H' s'/\Q σ' H') X.xe s
def Pd (X:Cx) (ts:List Expr) (t:LM):Prop :=
 ∀(pins:List (Addr×Obj)) (s:zz8) (σ:St) (H:Hp) (vs:List V) (us:List zz9) (Q:St->Hp->Prop),Inv X pins σ H s->aC vs us->t vs σ H Q ->
  wpAny (model X.prog X.w) X.A (assignInOrder ((assignEach ts X.env).map (·.2)) us) (λ_ s'=>∃σ' H',Inv X pins σ' H' s'/\Q σ' H') X.xe s
abbrev iJ:=V->V->V->Hp->(Hp->Prop)->Prop
def lS (X:Cx) (t:iJ):Prop :=
 ∀(pins:List (Addr×Obj)) (s:zz8) (σ:St) (H:Hp) (o i v:V) (ov iv u:zz9) (Q:Hp->Prop),Inv X pins σ H s->RelV o ov->RelV i iv->RelV v u->t o i v H Q ->
  wpAny (model X.prog X.w) X.A (setItem ov iv u) (λ_ s'=>∃H',Inv X pins σ H' s'/\Q H') X.xe s
abbrev Ng:=V->V->Hp->VK->Prop
def QB (X:Cx) (op:Operator) (t:Ng):Prop :=
 ∀(pins:List (Addr×Obj)) (s:zz8) (σ:St) (H:Hp) (x y:V) (v u:zz9) (Q:VK),Inv X pins σ H s->RelV x v->RelV y u->t x y H Q ->
  wpAny (model X.prog X.w) X.A (inplaceOp op v u) (EP X pins σ Q) X.xe s
section
variable {X:Cx}{pos:Pos}
def c7 (i:Nat):TG:=λv σ H Q=>Q (σ.set i (some v)) H
theorem bt {i:Nat}{x:Str} (hN:X.N.Nodup) (hi:X.N[i]?=some x) (hx:Loc X.env.scope x) (hf:X.fn x=true\/X.env.scope.names.lookup x=some .local:=by first | exact .inl rfl | exact .inr rfl | assumption):PG X (.Name x pos) (c7 i):=by
 intro pins s σ H v u Q I r h;exact wpAny_assign_Name (eW I hN hi hx r (λs' I'=>⟨_,H,I',h⟩) hf)
def Bm:LM:=λvs σ H Q=>vs=[]/\Q σ H
def Ap (t:TG) (u:LM):LM:=λvs σ H Q=>∃v r,vs=v::r/\t v σ H λσ' H'=>u r σ' H' Q
theorem cX:Pd X [] Bm:=by
 intro pins s σ H vs us Q I r h;obtain⟨e,h⟩:=h;subst e;cases r;exact assignInOrder_nil ⟨σ,H,I,h⟩
theorem bB {e:Expr}{es:List Expr}{t:TG}{u:LM} (h1:PG X e t) (h2:Pd X es u)
  (hs:(assignEach (e::es) X.env).map (·.2)=assign e X.env::(assignEach es X.env).map (·.2):=by rfl):Pd X (e::es) (Ap t u):=by
 intro pins s σ H vs us Q I r h;obtain⟨v,vr,e1,h⟩:=h;subst e1;cases r with
 | cons r rr =>
  rw [hs];refine EH (Gu (h1 pins s σ H _ _ _ I r h) λ_ s1 ⟨σ1,H1,I1,q1⟩=>?_);exact h2 pins s1 σ1 H1 _ _ Q I1 rr q1
def sE (K:zz7) (n:Nat) (t:LM):TG:=λv σ H Q=>∃a xs,v=.ref a/\Gp K H a xs/\xs.length=n/\t xs σ H Q
theorem dI {es:List Expr}{k:Nat}{t:LM}{n:Nat} (hc:X.calm=true) (h:Pd X es t)
  (hn:(assignEach es X.env).length=n:=by rfl) (Ms:(assignEach es X.env).findIdx? (·.1)=none:=by rfl):PG X (.Tuple es k pos) (sE X.K n t):=by
 intro pins s σ H v u Q I r hw;obtain⟨a,xs,e1,hq,hl,hw⟩:=hw;subst e1;cases r;obtain⟨Gm,rv,ht,hz⟩:=I.tuple hq;refine assign_Tuple_tuple (I.ok.hd hc) ht (by simp [hn,<- hl,rv.length]) Ms λh' hx=>?_;have I1:Inv X pins σ H { s with heap:=h' }:=I.kept (t':=s.toks) λb o e=>hx b o (CU (Cp e)) e;exact h pins _ σ H xs _ Q I1 (by simpa using rv) hw
def Bz (to ti:TE) (t:iJ):TG:=λv σ H Q=>to σ H λo H1=>ti σ H1 λi H2=>t o i v H2 λH3=>Q σ H3
theorem jz {o i:Expr}{to ti:TE}{t:iJ} (ho:PE X o to) (hi:PE X i ti) (hs:lS X t)
  (ha:∀v,assign (.Subscript o i pos) X.env v=(do
   let ov <- holding [v] (eval o X.env)
   let iv <- holding [v,ov] (eval i X.env)
   standAt pos
   holding [v,ov,iv] (setItem ov iv v)
   release [v,ov,iv] []):=by intro _;rfl):PG X (.Subscript o i pos) (Bz to ti t):=by
 intro pins s σ H v u Q I r h;rw [ha];refine B6 (Dr (Gu (ho pins s σ H _ I h) λov s1 ⟨x,H1,I1,r1,q1⟩=>?_));refine B6 (Dr (Gu (hi pins s1 σ H1 _ I1 q1) λiv s2 ⟨y,H2,I2,r2,q2⟩=>?_));refine B6 (EC (B6 (Dr (Gu (hs pins s2 σ H2 x y v ov iv u _ I2 r1 r2 r q2) λ_ s3 ⟨H3,I3,q3⟩=>?_))));exact wpAny_release ⟨σ,H3,I3,q3⟩
def fq (te:TE) (g:TG):TS:=λD σ H=>te σ H λx H1=>g x σ H1 D.nx
theorem dX {tg e:Expr}{te:TE}{g:TG} (he:PE X e te) (hg:PG X tg g) (hs:swapsWithSole [tg] e pos.line X.env=pure false:=by rfl) (hw:swappedStores [tg] e X.env=pure none:=by rfl)
  (h1:(assignEach [tg] X.env).map (·.2)=[assign tg X.env]:=by rfl):PS X (.Assign [tg] e pos) (fq te g):=by
 intro pins s σ H D I h;refine wpAny_Assign_stores (Gu (he pins s σ H _ I h) λv s1 ⟨x,H1,I1,r1,q1⟩=>?_) hs hw;rw [h1];exact Gu (hg pins s1 σ H1 x v _ I1 r1 q1) λ_ s2 q=>q
theorem aJ {i:Nat}{x:Str}{e:Expr}{te:TE}{HU:Pos} (hN:X.N.Nodup) (hi:X.N[i]?=some x) (hx:Loc X.env.scope x) (he:PE X e te) (hs:swapsWith e (some (.Name x HU)) pos.line X.env=pure false:=by rfl) (hf:X.fn x=true\/X.env.scope.names.lookup x=some .local:=by first | exact .inl rfl | exact .inr rfl | assumption) :
  PS X (.Assign [.Name x HU] e pos) (fq te (c7 i)):=by
 intro pins s σ H D I h;refine wpAny_Assign_Name (Gu (he pins s σ H _ I h) λv s1 ⟨y,H1,I1,r1,q1⟩=>?_) hs;exact eW I1 hN hi hx r1 (λs2 I2=>⟨_,H1,I2,q1⟩) hf
def AR (i:Nat) (te:TE) (ti:Ng):TS:=λD σ H=>∃x,σ[i]?=some (some x)/\te σ H λy H1=>ti x y H1 λz H2=>D.nx (σ.set i (some z)) H2
theorem lB {i:Nat}{x:Str}{e:Expr}{te:TE}{op:Operator}{ti:Ng}{HU:Pos} (hN:X.N.Nodup) (hi:X.N[i]?=some x) (hx:Loc X.env.scope x) (he:PE X e te) (ho:QB X op ti) (hf:X.fn x=true\/X.env.scope.names.lookup x=some .local:=by first | exact .inl rfl | exact .inr rfl | assumption) :
  PS X (.AugAssign (.Name x HU) op e pos) (AR i te ti):=by
 intro pins s σ H D I h;obtain⟨v,e1,h⟩:=h;obtain⟨m,hn,hl⟩:=I.loc;have WQ:Qw X.env.scope x:=by rcases hx with k | k;exact .inl k;exact .inr (.inl k)
 obtain⟨u,r,l⟩:=hl i x v hi e1 WQ;refine wpAny_AugAssign_Name ?_;have go:wpAny (model X.prog X.w) X.A (eval e X.env) (λw s₂=>wpAny (model X.prog X.w) X.A (inplaceOp op u w) (λr s₃=>wpAny (model X.prog X.w) X.A (storeName X.env x r) (λ_=>SP X pins D .next) X.xe s₃) X.xe s₂) X.xe s:=by
  refine Gu (he pins s σ H _ I h) λw s1 ⟨y,H1,I1,r1,q1⟩=>?_;refine Gu (ho pins s1 σ H1 v y u w _ I1 r r1 q1) λz s2 ⟨zv,H2,I2,r2,q2⟩=>?_;exact eW I2 hN hi hx r2 (λs3 I3=>⟨_,H2,I3,q2⟩) hf
 rcases l with ⟨hk,hm⟩ | ⟨hk,c,hc,IV⟩
 ·exact wpAny_loadName_local I.ok.kind hk hn hm go
 ·rcases hk with hk | hk
  ·exact wpAny_loadName_cell I.ok.kind hk hc IV go
  ·rcases hx with k | k
   ·have:X.env.scope.names.lookup x=some .free:=hk
    rw [k] at this;cases this
   ·have:X.env.scope.names.lookup x=some .free:=hk
    rw [k] at this;cases this
def AK (to ti te:TE) (KC:V->V->Hp->VK->Prop) (Pz:Ng) (Kz:iJ):TS:=λD σ H=>to σ H λo H1=>ti σ H1 λi H2=>KC o i H2 λx H3=>te σ H3 λy H4=>Pz x y H4 λz H5=>Kz o i z H5 λH6=>D.nx σ H6
def rY (X:Cx) (t:V->V->Hp->VK->Prop):Prop :=
 ∀(pins:List (Addr×Obj)) (s:zz8) (σ:St) (H:Hp) (o i:V) (ov iv:zz9) (Q:VK),Inv X pins σ H s->RelV o ov->RelV i iv->t o i H Q ->
  wpAny (model X.prog X.w) X.A (getItem ov iv) (EP X pins σ Q) X.xe s
theorem oV {o i e:Expr}{to ti te:TE}{KC:V->V->Hp->VK->Prop}{Pz:Ng}{Kz:iJ}{op:Operator}{HQ:Pos} (ho:PE X o to) (hi:PE X i ti) (hg:rY X KC) (he:PE X e te) (hp:QB X op Pz) (hs:lS X Kz)
  (ha:∀ov iv new,augStore i ov iv new=(do holding [new,ov,iv] (setItem ov iv new);release [new,ov,iv] [];pure .next):=by intros;rfl):PS X (.AugAssign (.Subscript o i HQ) op e pos) (AK to ti te KC Pz Kz):=by
 intro pins s σ H D I h;refine wpAny_AugAssign_SubscriptAny (Gu (ho pins s σ H _ I h) λov s1 ⟨x1,H1,I1,r1,q1⟩=>?_) ha;refine Gu (hi pins s1 σ H1 _ I1 q1) λiv s2 ⟨x2,H2,I2,r2,q2⟩=>?_;refine Gu (hg pins s2 σ H2 x1 x2 ov iv _ I2 r1 r2 q2) λold s3 ⟨x3,H3,I3,r3,q3⟩=>?_;refine Gu (he pins s3 σ H3 _ I3 q3) λv s4 ⟨x4,H4,I4,r4,q4⟩=>?_;refine Gu (hp pins s4 σ H4 x3 x4 old v _ I4 r3 r4 q4) λnew s5 ⟨x5,H5,I5,r5,q5⟩=>?_;exact Gu (hs pins s5 σ H5 x1 x2 x5 ov iv new _ I5 r1 r2 r5 q5) λ_ s6 ⟨H6,I6,q6⟩=>⟨σ,H6,I6,q6⟩
def Vd (f:Int->Int->Int):Ng:=λx y H Q=>∃i j,x=.int i/\y=.int j/\Q (.int (f i j)) H
theorem la:QB X .Add (Vd λi j=>i + j):=by
 intro pins s σ H x y v u Q I r1 r2 h;obtain⟨i,j,e1,e2,q⟩:=h;subst e1;subst e2;obtain⟨t,rfl⟩:=r1;obtain⟨t',rfl⟩:=r2;exact iadd_int ⟨.int _,H,I.tok _,⟨_,rfl⟩,q⟩
theorem qz:QB X .Sub (Vd λi j=>i - j):=by
 intro pins s σ H x y v u Q I r1 r2 h;obtain⟨i,j,e1,e2,q⟩:=h;subst e1;subst e2;obtain⟨t,rfl⟩:=r1;obtain⟨t',rfl⟩:=r2;exact isub_int ⟨.int _,H,I.tok _,⟨_,rfl⟩,q⟩
end
section
variable {X:Cx}{pos:Pos}
def zc (c:TT) (tb:TS):TS:=λD σ H=>∃W:Nat->St->Hp->Prop,(∃m,W m σ H)/\∀m σ H,W m σ H ->
 c σ H λb H1=>if b=true then ∃N:St->Hp->Prop,(∀σ' H',N σ' H'->∃m',m' < m/\W m' σ' H')/\tb { D with nx:=N,ct:=N,bk:=D.nx } σ H1 else D.nx σ H1
theorem kz {c:Expr}{body:List Stmt}{tc:TT}{tb:TS} (hp:PassesOwn (model X.prog X.w) X.A X.env X.xe) (hc:PT X c tc) (hb:Ig X body tb):PS X (.While c body [] pos) (zc tc tb):=by
 intro pins s σ H D I h;obtain⟨W,⟨m0,w0⟩,turn⟩:=h;refine wpAny_While (codeAny_whileLoop (λn s'=>∃σ' H',Inv X pins σ' H' s'/\W n σ' H') ?_ m0 ⟨σ,H,I,w0⟩);rintro n s1 ⟨σ1,H1,I1,w1⟩;refine D0 hp (Gu (hc pins s1 σ1 H1 _ I1 (turn n σ1 H1 w1)) λb s2 ⟨H2,I2,q2⟩=>?_);cases b with
 | true =>
  obtain⟨N,hN,q2⟩:=q2;rw [if_pos rfl];refine D0 hp (Gu (hb pins s2 σ1 H2 _ I2 q2) λf s3 q3=>?_);cases f with
  | next =>
   obtain⟨σ3,H3,I3,n3⟩:=q3;obtain⟨m',hm,w3⟩:=hN σ3 H3 n3;exact⟨m',hm,σ3,H3,I3,w3⟩
  | cont =>
   obtain⟨σ3,H3,I3,n3⟩:=q3;obtain⟨m',hm,w3⟩:=hN σ3 H3 n3;exact⟨m',hm,σ3,H3,I3,w3⟩
  | brk=>exact q3
  | ret v=>exact q3
 | false =>
  rw [if_neg Cs];exact En ⟨σ1,H2,I2,q2⟩
end
structure It where
 go:Nat->Hp->Prop
 yld:Nat->Hp->V->Hp->Prop
 stop:Nat->Hp->Prop
def cj (X:Cx) (pins:List (Addr×Obj)) (H:Hp) (b:Addr):Prop :=
 H b=none/\b≠X.env.locals/\b∉X.fs/\(b∈X.ex\/X.s₀.heap.objs.size<=b)/\(∀x c,X.env.cells.lookup x=some c->c≠b)/\∀p∈X.pn++pins,p.1≠b
theorem Inv.fpOk {X:Cx}{pins:List (Addr×Obj)}{σ:St}{H H':Hp}{s:zz8}{b:Addr} (I:Inv X pins σ H s) (hb:s.heap.objs.size<=b) (hn:H' b=none):cj X pins H' b:=by
 refine⟨hn,FZ (CC I.lt hb),I.nofs hb,.inr (CB I.sz hb),λx c e z=>?_,λp hp z=>?_⟩
 ·obtain⟨v,q⟩:=I.cell x c e
  exact absurd (CC q.lt (by rw [z];exact hb)) (DI _)
 ·exact absurd (CC (Cp (I.pin p hp).1) (by rw [z];exact hb)) (DI _)
structure Turn (P:Program) (w:World) (K:zz7) (tg:Expr) (J:It) (fp:List Addr) (it:Addr) (tn:Nat->Heap->Prop):Prop where
 mem:it∈fp
 obj:∀i h,tn i h->∀b∈fp,∃o,h.get? b=some o/\∀v,o.data≠.cell v
 keep:∀i h h',tn i h->(∀b∈fp,∀o,h.get? b=some o->h'.get? b=some o)->tn i h'
 item:∀(X:Cx),X.prog=P->X.w=w->X.K=K->X.calm=true->∀(i:Nat) (pins:List (Addr×Obj)) (s:zz8) (σ:St) (H:Hp) (E:zz9->zz8->Prop),Inv X pins σ H s->(∀b∈fp,cj X pins H b)->tn i s.heap->J.go i H ->
  wpAny (model P w) X.A (pyNext (.ref it)) (λr s1=>∃u,r=some u /\
   wpAny (model P w) X.A (letOwnedTupleGo tg (.ref it) u) (λ_ s2=>∃x H',Inv X pins σ H' s2/\RelV x u/\J.yld i H x H'/\tn (i + 1) s2.heap/\∀b∈fp,H' b=none) E s1) E s
 done:∀(X:Cx),X.prog=P->X.w=w->X.K=K->X.calm=true->∀(i:Nat) (pins:List (Addr×Obj)) (s:zz8) (σ:St) (H:Hp) (E:zz9->zz8->Prop),Inv X pins σ H s->(∀b∈fp,cj X pins H b)->tn i s.heap->J.stop i H ->
  wpAny (model P w) X.A (pyNext (.ref it)) (λr s1=>r=none/\Inv X pins σ H s1) E s
 self:∀(A:Around) (i:Nat) (s:zz8) (Q:zz9->zz8->Prop) (E:zz9->zz8->Prop),tn i s.heap->Q (.ref it) s->wpAny (model P w) A (pyIter (.ref it)) Q E s
abbrev TI:=St->Hp->(It->Hp->Prop)->Prop
def Wp (X:Cx) (pins:List (Addr×Obj)) (σ:St) (tg:Expr) (R:It->Hp->Prop) (Ov:zz9) (s2:zz8):Prop :=
 ∃(it:Addr) (fp:List Addr) (tn:Nat->Heap->Prop) (J:It) (H':Hp),Ov=.ref it/\Inv X pins σ H' s2/\Turn X.prog X.w X.K tg J fp it tn/\tn 0 s2.heap/\(∀b∈fp,cj X pins H' b)/\R J H'
def PI (X:Cx) (tg iter:Expr) (wi:TI):Prop :=
 ∀(pins:List (Addr×Obj)) (s:zz8) (σ:St) (H:Hp) (R:It->Hp->Prop),Inv X pins σ H s->wi σ H R ->
  wpAny (model X.prog X.w) X.A (eval iter X.env) (λv s1=>wpAny (model X.prog X.w) X.A (pyIter v) (Wp X pins σ tg R) X.xe s1) X.xe s
theorem iB {M:Model}{A:Around}{E:zz9->zz8->Prop}{s:zz8}{tg:Expr}{it:Addr}{u:zz9}{o:Obj}{n:String}{vs:Array zz9}{Q:Unit->zz8->Prop} (ho:s.heap.get? it=some o) (hc:o.cls=.type n) (hd:o.data=.fields vs)
  (hn:["enumerate","zip","dict_itemiterator","dict_reverseitemiterator","odict_iterator","itertools.zip_longest","itertools.pairwise"].contains n=false) (hQ:Q () s):wpAny M A (letOwnedTupleGo tg (.ref it) u) Q E s:=by
 unfold letOwnedTupleGo;cases tg <;> first
  | exact B9 hQ
  | (cases u <;> first
    | exact B9 hQ
    | (refine B6 (wpAny_load ho ?_)
       rw [hc,hd];show wpAny M A (if (["enumerate","zip","dict_itemiterator","dict_reverseitemiterator","odict_iterator","itertools.zip_longest","itertools.pairwise"].contains n && vs[0]? == some (rawInt _))=true then _ else _) Q E s;rw [if_neg (by intro h;rw [hn,Bool.false_and] at h;cases h)]
       exact B9 hQ))
def LP (K:zz7) (a:Addr):It :=
 ⟨λi H=>∃xs x,Gq K H a xs/\xs[i]?=some x,λi H x H'=>H'=H/\∀xs,Gq K H a xs->xs[i]?=some x,λi H=>∃xs,Gq K H a xs/\xs.length<=i⟩
def LO (K:zz7) (a:Addr):It :=
 ⟨λi H=>∃xs x,Gp K H a xs/\xs[i]?=some x,λi H x H'=>H'=H/\∀xs,Gp K H a xs->xs[i]?=some x,λi H=>∃xs,Gp K H a xs/\xs.length<=i⟩
def Lh (lo:Int) (n:Nat):It:=⟨λi _=>i < n,λi H x H'=>H'=H/\x=.int (lo + i),λi _=>n<=i⟩
theorem vb {P:Program}{w:World}{K:zz7}{tg:Expr} (a it:Addr):Turn P w K tg (LP K a) [it] it (λi h=>h.IsListIter it a i) where
 mem:=by simp
 obj:=λi h st b hb=>by
  have e:b=it:=by simpa using hb
  subst e;obtain⟨o,e,c,d⟩:=st;exact⟨o,e,λv z=>by rw [d] at z;cases z⟩
 keep:=λi h h' st k=>st.at λo e=>k it (by simp) o e
 item:=by
  intro X hP hw hK hc i pins s σ H E I hf st hg;subst hP hw hK;obtain⟨xs,x,hq,hx⟩:=hg;obtain⟨Gm,rv,p,hz⟩:=I.list hq;obtain⟨u,hu,ru⟩:=rv.get hx;obtain⟨f0,f1,f2,f3,f4,f5⟩:=hf it (by simp);refine wpAny_pyNext_list_item st p.isList (x:=u) (by simpa using hu) λh' G9 sb=>?_;have I1:Inv X pins σ H { s with heap:=h' }:=I.turned (t':=s.toks) (λb o hb e=>(sb.2 b hb).trans e) f0 f1 f3 f4 f5;obtain⟨o,e,c,d⟩:=id G9;exact⟨u,rfl,iB (s:={ s with heap:=h' }) e c d (by decide) ⟨x,H,I1,ru,⟨rfl,λys hy=>by rw [I.list_inj hy hq];exact hx⟩,G9,λb hb=>(hf b hb).1⟩⟩
 done:=by
  intro X hP hw hK hc i pins s σ H E I hf st hg;subst hP hw hK;obtain⟨xs,hq,hx⟩:=hg;obtain⟨Gm,rv,p,hz⟩:=I.list hq;obtain⟨f0,f1,f2,f3,f4,f5⟩:=hf it (by simp);have hl:=rv.length;exact wpAny_pyNext_list_end (I.ok.hd hc) st p.isList (by simp;omega) λh' eb=>⟨rfl,I.turned (t':=s.toks) (λb o hb e=>eb b o hb e) f0 f1 f3 f4 f5⟩
 self:=λ_ _ _ _ _ st h=>wpAny_pyIter_listiter st h
theorem uy {P:Program}{w:World}{K:zz7}{tg:Expr} (a it:Addr):Turn P w K tg (LO K a) [it] it (λi h=>h.IsTupleIter it a i) where
 mem:=by simp
 obj:=λi h st b hb=>by
  have e:b=it:=by simpa using hb
  subst e;obtain⟨o,e,c,d⟩:=st;exact⟨o,e,λv z=>by rw [d] at z;cases z⟩
 keep:=λi h h' st k=>st.at λo e=>k it (by simp) o e
 item:=by
  intro X hP hw hK hc i pins s σ H E I hf st hg;subst hP hw hK;obtain⟨xs,x,hq,hx⟩:=hg;obtain⟨Gm,rv,p,hz⟩:=I.tuple hq;obtain⟨u,hu,ru⟩:=rv.get hx;obtain⟨f0,f1,f2,f3,f4,f5⟩:=hf it (by simp);refine wpAny_pyNext_tuple_item st (show s.heap.IsTuple a Gm.toArray from p) (x:=u) (by simpa using hu) λh' G9 sb=>?_;have I1:Inv X pins σ H { s with heap:=h' }:=I.turned (t':=s.toks) (λb o hb e=>(sb.2 b hb).trans e) f0 f1 f3 f4 f5;obtain⟨o,e,c,d⟩:=id G9;exact⟨u,rfl,iB (s:={ s with heap:=h' }) e c d (by decide) ⟨x,H,I1,ru,⟨rfl,λys hy=>by rw [I.tuple_inj hy hq];exact hx⟩,G9,λb hb=>(hf b hb).1⟩⟩
 done:=by
  intro X hP hw hK hc i pins s σ H E I hf st hg;subst hP hw hK;obtain⟨xs,hq,hx⟩:=hg;obtain⟨Gm,rv,p,hz⟩:=I.tuple hq;obtain⟨f0,f1,f2,f3,f4,f5⟩:=hf it (by simp);have hl:=rv.length;exact wpAny_pyNext_tuple_end (I.ok.hd hc) st (show s.heap.IsTuple a Gm.toArray from p) (by simp;omega) λh' eb=>⟨rfl,I.turned (t':=s.toks) (λb o hb e=>eb b o hb e) f0 f1 f3 f4 f5⟩
 self:=λ_ _ _ _ _ st h=>wpAny_pyIter_tupleiter st h
theorem uz {P:Program}{w:World}{K:zz7}{tg:Expr} (it:Addr) (lo:Int) (n:Nat):Turn P w K tg (Lh lo n) [it] it (λi h=>IsRangeIter h it (lo + (i:Nat) * 1) ((n:Int) - (i:Nat)) 1) where
 mem:=by simp
 obj:=λi h st b hb=>by
  have e:b=it:=by simpa using hb
  subst e
  exact⟨_,st,λv z=>by
   have z':Data.fields _=Data.cell v:=z
   cases z'⟩
 keep:=λi h h' st k=>k it (by simp) _ st
 item:=by
  intro X hP hw hK hc i pins s σ H E I hf st hg;subst hP hw hK;obtain⟨f0,f1,f2,f3,f4,f5⟩:=hf it (by simp);have W:=Walks.range (prog:=X.prog) (w:=X.w) (I.ok.hd hc) it lo 1 n;refine W.item i s _ _ hg st λv h' tk hv G9 kk=>?_;obtain⟨t,rfl⟩:=hv;have I1:Inv X pins σ H { s with heap:=h',toks:=tk }:=I.turned (λb o hb e=>kk b o (by simpa using hb) e) f0 f1 f3 f4 f5;refine⟨_,rfl,iB (s:={ s with heap:=h',toks:=tk }) (n:="range_iterator") G9 rfl rfl (by decide) ⟨.int (lo + i),H,I1,⟨t,?_⟩,⟨rfl,rfl⟩,G9,λb hb=>(hf b hb).1⟩⟩;rw [Int.mul_one]
 done:=by
  intro X hP hw hK hc i pins s σ H E I hf st hg;subst hP hw hK;obtain⟨f0,f1,f2,f3,f4,f5⟩:=hf it (by simp);exact wpAny_pyNext_range_end (I.ok.hd hc) st (by have:n<=i:=hg;omega) λh' eb=>⟨rfl,I.turned (t':=s.toks) (λb o hb e=>eb b o hb e) f0 f1 f3 f4 f5⟩
 self:=λ_ _ _ _ _ st h=>wpAny_pyIter_rangeiter st h
section
variable {X:Cx}{tg:Expr}
def jI (K:zz7) (tl:TE):TI:=λσ H R=>tl σ H λx H1=>∃a,x=.ref a/\(∃xs,Gq K H1 a xs)/\R (LP K a) H1
def jN (K:zz7) (tl:TE):TI:=λσ H R=>tl σ H λx H1=>∃a,x=.ref a/\(∃xs,Gp K H1 a xs)/\R (LO K a) H1
theorem dr {l:Expr}{tl:TE} (hl:PE X l tl):PI X tg l (jI X.K tl):=by
 intro pins s σ H R I h;refine Gu (hl pins s σ H _ I h) λv s1 ⟨x,H1,I1,r1,q1⟩=>?_;obtain⟨a,e,⟨xs,hq⟩,q⟩:=q1;subst e;cases r1;obtain⟨Gm,rv,p,hz⟩:=I1.list hq;refine wpAny_pyIter_list p.isList ?_;refine⟨s1.heap.objs.size,[s1.heap.objs.size],_,_,H1,rfl,I1.kept (t':=s1.toks) λb o e=>Ce _ e,vb a _,⟨_,Cy _ rfl,rfl,rfl⟩,λb hb=>?_,q⟩;have e:b=s1.heap.objs.size:=by simpa using hb
 subst e;exact I1.fpOk (Cc _) (I1.hok.fresh (Cc _))
theorem bW {l:Expr}{tl:TE} (hl:PE X l tl):PI X tg l (jN X.K tl):=by
 intro pins s σ H R I h;refine Gu (hl pins s σ H _ I h) λv s1 ⟨x,H1,I1,r1,q1⟩=>?_;obtain⟨a,e,⟨xs,hq⟩,q⟩:=q1;subst e;cases r1;obtain⟨Gm,rv,p,hz⟩:=I1.tuple hq;refine FH (show s1.heap.IsTuple a Gm.toArray from p) ?_;refine⟨s1.heap.objs.size,[s1.heap.objs.size],_,_,H1,rfl,I1.kept (t':=s1.toks) λb o e=>Ce _ e,uy a _,⟨_,Cy _ rfl,rfl,rfl⟩,λb hb=>?_,q⟩;have e:b=s1.heap.objs.size:=by simpa using hb
 subst e;exact I1.fpOk (Cc _) (I1.hok.fresh (Cc _))
theorem nB {pins:List (Addr×Obj)}{σ:St}{H:Hp}{s:zz8}{R:It->Hp->Prop}{E:zz9->zz8->Prop}{lo hi:Int}{t u v:Tok}{tk:Nat} (I:Inv X pins σ H s) (h1:-(2 ^ 62)<=lo) (h2:lo < 2 ^ 62) (h3:-(2 ^ 62)<=hi) (h4:hi < 2 ^ 62)
  (q:R (Lh lo (hi - lo).toNat) H):wpAny (model X.prog X.w) X.A (pyIter (.ref s.heap.objs.size)) (Wp X pins σ tg R) E { s with heap:=s.heap.push { cls:=.type "range",data:=.fields #[.int lo t,.int hi u,.int 1 v] },toks:=tk }:=by
 refine wpAny_pyIter_range (IsRange.new ..) (small_one h1 h2 h3 h4) ?_;have I1:Inv X pins σ H { s with heap:=s.heap.push { cls:=.type "range",data:=.fields #[.int lo t,.int hi u,.int 1 v] },toks:=tk }:=I.kept λb o e=>Ce _ e
 refine⟨(s.heap.push { cls:=.type "range",data:=.fields #[.int lo t,.int hi u,.int 1 v] }).objs.size,[(s.heap.push { cls:=.type "range",data:=.fields #[.int lo t,.int hi u,.int 1 v] }).objs.size],_,_,H,rfl,
  I1.kept (t':=tk) λb o e=>Ce _ e,uz _ lo (hi - lo).toNat,?_,λb hb=>?_,q⟩
 ·have e1:lo + ((0:Nat):Int) * 1=lo:=by simp
  have e2:(((hi - lo).toNat:Nat):Int) - ((0:Nat):Int)=Builtin.Range.rangeSize lo hi 1:=by rw [rangeSize_one];split <;> omega
  show IsRangeIter _ _ (lo + ((0:Nat):Int) * 1) ((((hi - lo).toNat:Nat):Int) - ((0:Nat):Int)) 1;rw [e1,e2];exact Cy _ rfl
 ·have e:b=(s.heap.push { cls:=.type "range",data:=.fields #[.int lo t,.int hi u,.int 1 v] }).objs.size:=by simpa using hb
  subst e;exact I1.fpOk (Cc _) (I1.hok.fresh (Cc _))
def Aq (ta:TA):TI:=λσ H R=>ta σ H λvs H1=>∃j:Int,vs=[.int j]/\-(2 ^ 62)<=j/\j < 2 ^ 62/\R (Lh 0 j.toNat) H1
def Ak (ta:TA):TI:=λσ H R=>ta σ H λvs H1=>∃i j:Int,vs=[.int i,.int j]/\(-(2 ^ 62)<=i/\i < 2 ^ 62/\-(2 ^ 62)<=j/\j < 2 ^ 62)/\R (Lh i (j - i).toNat) H1
theorem eF {a:Expr}{ta:TA}{p pos:Pos} (hg:Gl X "range") (hm:X.mg "range"=none) (ha:PA X [a] ta) (hs:starEach [a] X.env=[(false,eval a X.env)]:=by rfl):PI X tg (.Call (.Name "range" p) [a] [] pos) (Aq ta):=by
 intro pins s σ H R I h;refine Call_ (e7 I hg hm boot_range (Dp (Gu (ha pos pins s σ H _ I h) λus s1 ⟨vs,H1,I1,r1,q1⟩=>?_) hs rfl));obtain⟨j,e,q1,q2,q⟩:=q1;subst e;cases r1 with
 | cons r rr =>
  cases rr;obtain⟨t,rfl⟩:=r;exact call_range_1 (nB I1 (by omega) (by omega) q1 q2 (by simpa using q))
theorem nk {a b:Expr}{ta:TA}{p pos:Pos} (hg:Gl X "range") (hm:X.mg "range"=none) (ha:PA X [a,b] ta) (hs:starEach [a,b] X.env=[(false,eval a X.env),(false,eval b X.env)]:=by rfl) (Hq:starEach [b] X.env=[(false,eval b X.env)]:=by rfl) :
  PI X tg (.Call (.Name "range" p) [a,b] [] pos) (Ak ta):=by
 intro pins s σ H R I h;refine Call_ (e7 I hg hm boot_range (Dp (Gu (ha pos pins s σ H _ I h) λus s1 ⟨vs,H1,I1,r1,q1⟩=>?_) (by rw [hs,Hq]) (by rw [Hq];rfl)));obtain⟨i,j,e,⟨q1,q2,q3,q4⟩,q⟩:=q1;subst e;cases r1 with
 | cons r rr =>
  cases rr with
  | cons r' rr =>
   cases rr;obtain⟨t,rfl⟩:=r;obtain⟨t',rfl⟩:=r';exact call_range_2 (nB I1 q1 q2 q3 q4 q)
def sv (wi:TI) (g:TG) (tb:TS):TS:=λD σ H=>wi σ H λJ H1=>∃W:Nat->Nat->St->Hp->Prop,(∃m,W 0 m σ H1)/\∀i m σ H,W i m σ H ->
 (J.stop i H/\D.nx σ H)\/(J.go i H/\∃N:St->Hp->Prop,(∀σ' H',N σ' H'->∃m',m' < m/\W (i + 1) m' σ' H')/\∀x H',J.yld i H x H'->g x σ H' λσ2 H2=>tb { D with nx:=N,ct:=N,bk:=D.nx } σ2 H2)
def gA (fp:List Addr) (h:Heap):List (Addr×Obj):=fp.filterMap λb=>(h.get? b).map λo=>(b,o)
theorem gj {fp:List Addr}{h:Heap}{b:Addr}{o:Obj} (hb:b∈fp) (e:h.get? b=some o):(b,o)∈gA fp h:=List.mem_filterMap.mpr ⟨b,hb,by rw [e];rfl⟩
theorem uN {fp:List Addr}{h:Heap}{p:Addr×Obj} (hp:p∈gA fp h):p.1∈fp/\h.get? p.1=some p.2:=by
 obtain⟨b,hb,e⟩:=List.mem_filterMap.mp hp;cases q:h.get? b with
 | none=>rw [q] at e;cases e
 | some o =>
  rw [q] at e;have e':(b,o)=p:=CZ e;subst e';exact⟨hb,q⟩
theorem Inv.pinned {pins:List (Addr×Obj)}{σ:St}{H:Hp}{s:zz8}{fp:List Addr} (I:Inv X pins σ H s) (hf:∀b∈fp,cj X pins H b) (ho:∀b∈fp,∃o,s.heap.get? b=some o/\∀v,o.data≠.cell v):Inv X (pins++gA fp s.heap) σ H s :=
 I.pins_of λp hp=>(Ck.mp hp).elim (λz=>I.pin p (Cv _ z)) λz=>by
  obtain⟨hb,e⟩:=uN z;obtain⟨f0,f1,f2,_⟩:=hf p.1 hb;obtain⟨o,e',d⟩:=ho p.1 hb;rw [e] at e';cases e';exact⟨e,f0,f1,f2,d⟩
theorem Inv.unpinned {pins pl:List (Addr×Obj)}{σ:St}{H:Hp}{s:zz8} (I:Inv X (pins++pl) σ H s):Inv X pins σ H s:=I.pins_of λp hp=>I.pin p (Cv _ (CM _ hp))
theorem cY {iter:Expr}{body:List Stmt}{wi:TI}{g:TG}{tb:TS}{pos:Pos} (hp:PassesOwn (model X.prog X.w) X.A X.env X.xe) (hc:X.calm=true) (hi:PI X tg iter wi) (hg:PG X tg g) (hb:Ig X body tb)
  (hs:∀x,foldedSetIterable iter X.env x=pure x:=by intro _;rfl):PS X (.For tg iter body [] pos) (sv wi g tb):=by
 intro pins s σ H D I h;refine wpAny_For (Gu (hi pins s σ H _ I h) λv s1 h1=>Gu h1 λOv s2 h2=>?_) hs;obtain⟨it,fp,tn,J,H2,e,I2,T,KF,f2,W,⟨m0,w0⟩,turn⟩:=h2;subst e;have stat:∀{H':Hp},(∀b∈fp,H' b=none)->∀b∈fp,cj X pins H' b:=λhn b hb=>⟨hn b hb,(f2 b hb).2⟩
 refine codeAny_forLoop_any (λn s'=>∃i σ' H',Inv X pins σ' H' s'/\tn i s'.heap/\(∀b∈fp,H' b=none)/\W i n σ' H') ?_ m0 ⟨0,σ,H2,I2,KF,λb hb=>(f2 b hb).1,w0⟩;rintro n s3 ⟨i,σ3,H3,I3,UB,V9,w3⟩
 rcases turn i n σ3 H3 w3 with ⟨stop,qn⟩ | ⟨go,N,hN,step⟩
 ·refine D0 hp (Gu (T.done X rfl rfl rfl hc i pins s3 σ3 H3 X.xe I3 (stat V9) UB stop) λr s4 ⟨hr,I4⟩=>?_)
  subst hr;exact En ⟨σ3,H3,I4,qn⟩
 ·refine D0 hp (Gu (T.item X rfl rfl rfl hc i pins s3 σ3 H3 X.xe I3 (stat V9) UB go) λr s4 ⟨u,hr,h4⟩=>?_)
  subst hr;refine D0 hp (Gu h4 λ_ s5 ⟨x,H5,I5,r5,y5,Q6,Z1⟩=>?_);have I5':=I5.pinned (stat Z1) (T.obj _ _ Q6);refine D0 hp (Gu (hg _ s5 σ3 H5 x u _ I5' r5 (step x H5 y5)) λ_ s6 ⟨σ6,H6,I6,q6⟩=>?_);refine D0 hp (Gu (hb _ s6 σ6 H6 _ I6 q6) λf s7 q7=>?_);have again:∀{σ7:St}{H7:Hp},Inv X (pins++gA fp s5.heap) σ7 H7 s7->N σ7 H7->∃m,m < n/\∃i σ' H',Inv X pins σ' H' s7/\tn i s7.heap/\(∀b∈fp,H' b=none)/\W i m σ' H':=λ{σ7 H7} I7 n7=>by
   obtain⟨m',hm,w7⟩:=hN σ7 H7 n7;refine⟨m',hm,i + 1,σ7,H7,I7.unpinned,T.keep _ _ _ Q6 λb hb o e=>(I7.pin (b,o) (Cv _ (Cv _ (gj hb e)))).1,λb hb=>?_,w7⟩;obtain⟨o,e,d⟩:=T.obj _ _ Q6 b hb;exact (I7.pin (b,o) (Cv _ (Cv _ (gj hb e)))).2.1
  cases f with
  | next=>obtain⟨σ7,H7,I7,n7⟩:=q7;exact again I7 n7
  | cont=>obtain⟨σ7,H7,I7,n7⟩:=q7;exact again I7 n7
  | brk=>obtain⟨σ7,H7,I7,q7⟩:=q7;exact⟨σ7,H7,I7.unpinned,q7⟩
  | ret v=>obtain⟨x7,σ7,H7,I7,r7,q7⟩:=q7;exact⟨x7,σ7,H7,I7.unpinned,r7,q7⟩
end
theorem i9 {K:zz7}{a:Addr}{xs:List V}{g:TG}{tb:TS}{D:Ends}{σ:St}{H:Hp} (Pv:Nat->St->Hp->Prop) (h0:Pv 0 σ H) (hl:∀i σ H,i<=xs.length->Pv i σ H->Gq K H a xs)
  (hs:∀i x σ H,xs[i]?=some x->Pv i σ H->g x σ H λσ2 H2=>tb { D with nx:=Pv (i + 1),ct:=Pv (i + 1),bk:=D.nx } σ2 H2) (hd:∀σ H,Pv xs.length σ H->D.nx σ H) :
  ∃W:Nat->Nat->St->Hp->Prop,(∃m,W 0 m σ H)/\∀i m σ H,W i m σ H ->
   ((LP K a).stop i H/\D.nx σ H)\/((LP K a).go i H/\∃N:St->Hp->Prop,(∀σ' H',N σ' H'->∃m',m' < m/\W (i + 1) m' σ' H')/\∀x H',(LP K a).yld i H x H'->g x σ H' λσ2 H2=>tb { D with nx:=N,ct:=N,bk:=D.nx } σ2 H2):=by
 refine⟨λi m σ H=>m=xs.length - i/\i<=xs.length/\Pv i σ H,⟨xs.length,by simp,Cz _,h0⟩,?_⟩;rintro i m σ H ⟨rfl,hi,p⟩;have q:=hl i σ H hi p
 by_cases GO:i < xs.length
 ·refine .inr ⟨⟨xs,xs[i],q,by simp [GO]⟩,Pv (i + 1),λσ' H' p'=>⟨xs.length - (i + 1),by omega,rfl,GO,p'⟩,λx H' y=>?_⟩
  obtain⟨e,y⟩:=y;subst e;exact hs i x σ _ (y xs q) p
 ·have e:i=xs.length:=by omega
  subst e;exact .inl ⟨⟨xs,q,Cc _⟩,hd σ H p⟩
theorem fH {K:zz7}{a:Addr}{xs:List V}{g:TG}{tb:TS}{D:Ends}{σ:St}{H:Hp} (Pv:Nat->St->Hp->Prop) (h0:Pv 0 σ H) (hl:∀i σ H,i<=xs.length->Pv i σ H->Gp K H a xs)
  (hs:∀i x σ H,xs[i]?=some x->Pv i σ H->g x σ H λσ2 H2=>tb { D with nx:=Pv (i + 1),ct:=Pv (i + 1),bk:=D.nx } σ2 H2) (hd:∀σ H,Pv xs.length σ H->D.nx σ H) :
  ∃W:Nat->Nat->St->Hp->Prop,(∃m,W 0 m σ H)/\∀i m σ H,W i m σ H ->
   ((LO K a).stop i H/\D.nx σ H)\/((LO K a).go i H/\∃N:St->Hp->Prop,(∀σ' H',N σ' H'->∃m',m' < m/\W (i + 1) m' σ' H')/\∀x H',(LO K a).yld i H x H'->g x σ H' λσ2 H2=>tb { D with nx:=N,ct:=N,bk:=D.nx } σ2 H2):=by
 refine⟨λi m σ H=>m=xs.length - i/\i<=xs.length/\Pv i σ H,⟨xs.length,by simp,Cz _,h0⟩,?_⟩;rintro i m σ H ⟨rfl,hi,p⟩;have q:=hl i σ H hi p
 by_cases GO:i < xs.length
 ·refine .inr ⟨⟨xs,xs[i],q,by simp [GO]⟩,Pv (i + 1),λσ' H' p'=>⟨xs.length - (i + 1),by omega,rfl,GO,p'⟩,λx H' y=>?_⟩
  obtain⟨e,y⟩:=y;subst e;exact hs i x σ _ (y xs q) p
 ·have e:i=xs.length:=by omega
  subst e;exact .inl ⟨⟨xs,q,Cc _⟩,hd σ H p⟩
theorem iT {lo:Int}{n:Nat}{g:TG}{tb:TS}{D:Ends}{σ:St}{H:Hp} (Pv:Nat->St->Hp->Prop) (h0:Pv 0 σ H)
  (hs:∀i σ H,i < n->Pv i σ H->g (.int (lo + i)) σ H λσ2 H2=>tb { D with nx:=Pv (i + 1),ct:=Pv (i + 1),bk:=D.nx } σ2 H2) (hd:∀σ H,Pv n σ H->D.nx σ H) :
  ∃W:Nat->Nat->St->Hp->Prop,(∃m,W 0 m σ H)/\∀i m σ H,W i m σ H ->
   ((Lh lo n).stop i H/\D.nx σ H)\/((Lh lo n).go i H/\∃N:St->Hp->Prop,(∀σ' H',N σ' H'->∃m',m' < m/\W (i + 1) m' σ' H')/\∀x H',(Lh lo n).yld i H x H'->g x σ H' λσ2 H2=>tb { D with nx:=N,ct:=N,bk:=D.nx } σ2 H2):=by
 refine⟨λi m σ H=>m=n - i/\i<=n/\Pv i σ H,⟨n,by simp,Cz _,h0⟩,?_⟩;rintro i m σ H ⟨rfl,hi,p⟩
 by_cases GO:i < n
 ·refine .inr ⟨GO,Pv (i + 1),λσ' H' p'=>⟨n - (i + 1),by omega,rfl,GO,p'⟩,λx H' y=>?_⟩
  obtain⟨e,y⟩:=y;subst e y;exact hs i σ _ GO p
 ·have e:i=n:=by omega
  subst e;exact .inl ⟨Cc _,hd σ H p⟩
abbrev R2:=V->V->Hp->VK->Prop
def GT (X:Cx) (f:zz9->zz9->Sem zz9) (r:R2):Prop :=
 ∀(pins:List (Addr×Obj)) (s:zz8) (σ:St) (H:Hp) (x y:V) (v u:zz9) (Q:VK),Inv X pins σ H s->RelV x v->RelV y u->r x y H Q ->
  wpAny (model X.prog X.w) X.A (f v u) (EP X pins σ Q) X.xe s
def T8 (X:Cx) (f:zz9->Sem zz9) (r:V->Hp->VK->Prop):Prop :=
 ∀(pins:List (Addr×Obj)) (s:zz8) (σ:St) (H:Hp) (x:V) (v:zz9) (Q:VK),Inv X pins σ H s->RelV x v->r x H Q ->
  wpAny (model X.prog X.w) X.A (f v) (EP X pins σ Q) X.xe s
def cC (X:Cx) (f:zz9) (r:List V->Hp->VK->Prop):Prop :=
 ∀(pins:List (Addr×Obj)) (s:zz8) (σ:St) (H:Hp) (xs:List V) (us:List zz9) (Q:VK),Inv X pins σ H s->aC xs us->r xs H Q ->
  wpAny (model X.prog X.w) X.A (call f us) (EP X pins σ Q) X.xe s
def HZ (r:R2) (ta tb:TE):TE:=λσ H Q=>ta σ H λx H1=>tb σ H1 λy H2=>r x y H2 Q
def NR (r:V->Hp->VK->Prop) (ta:TE):TE:=λσ H Q=>ta σ H λx H1=>r x H1 Q
def rI (C:Int->Int->Prop) (g:Int->Int->V):R2:=λx y H Q=>∃i j,x=.int i/\y=.int j/\C i j/\Q (g i j) H
def J8 (g:Int->Int->V):R2:=λx y H Q=>∃i j,x=.int i/\y=.int j/\Q (g i j) H
def rU (g:Int->V):V->Hp->VK->Prop:=λx H Q=>∃i,x=.int i/\Q (g i) H
section
variable {X:Cx}{a b c:Expr}{ta tb tc:TE}{pos:Pos}
theorem mf (ha:PE X a ta) (hb:PE X b tb) {pins:List (Addr×Obj)}{s:zz8}{σ:St}{H:Hp}{R:V->V->Hp->Prop} (I:Inv X pins σ H s)
  (h:ta σ H λx H1=>tb σ H1 λy H2=>R x y H2) {Q:zz9->zz8->Prop}{f:zz9->zz9->Sem zz9}
  (hf:∀v u s2 x y H2,Inv X pins σ H2 s2->RelV x v->RelV y u->R x y H2->wpAny (model X.prog X.w) X.A (f v u) Q X.xe s2) :
  wpAny (model X.prog X.w) X.A (eval a X.env) (λv s₁=>wpAny (model X.prog X.w) X.A (eval b X.env) (λu s₂=>wpAny (model X.prog X.w) X.A (f v u) Q X.xe s₂) X.xe s₁) X.xe s:=by
 refine Gu (ha pins s σ H _ I h) λv s1 ⟨x,H1,I1,r1,q1⟩=>?_;refine Gu (hb pins s1 σ H1 _ I1 q1) λu s2 ⟨y,H2,I2,r2,q2⟩=>?_;exact hf v u s2 x y H2 I2 r1 r2 q2
theorem aK {op:Operator}{r:R2} (ho:GT X (binaryOp op) r) (ha:PE X a ta) (hb:PE X b tb):PE X (.BinOp a op b pos) (HZ r ta tb):=by
 intro pins s σ H Q I h;exact wpAny_BinOp (mf ha hb I h λv u s2 x y H2 I2 rx ry q=>ho pins s2 σ H2 x y v u Q I2 rx ry q)
theorem gG {op:UnaryOp}{r:V->Hp->VK->Prop} (ho:T8 X (unaryOp op) r) (ha:PE X a ta):PE X (.UnaryOp op a pos) (NR r ta):=by
 intro pins s σ H Q I h;exact UnaryOp_ (Gu (ha pins s σ H _ I h) λv s1 ⟨x,H1,I1,r1,q1⟩=>ho pins s1 σ H1 x v Q I1 r1 q1)
theorem MT {f:zz9->zz9->Sem zz9}{C:Int->Int->Prop}{g:Int->Int->Int}
  (rule:∀(i j:Int) (t u:Tok) (s:zz8) (Q:zz9->zz8->Prop) (E:zz9->zz8->Prop),C i j->Q (.int (g i j) s.toks) { s with toks:=s.toks + 1 }->wpAny (model X.prog X.w) X.A (f (.int i t) (.int j u)) Q E s) :
  GT X f (rI C λi j=>.int (g i j)):=by
 intro pins s σ H x y v u Q I rx ry h;obtain⟨i,j,rfl,rfl,hc,q⟩:=h;obtain⟨t,rfl⟩:=rx;obtain⟨t',rfl⟩:=ry;exact rule i j t t' s _ _ hc ⟨.int (g i j),H,I.tok _,⟨_,rfl⟩,q⟩
theorem sM {f:zz9->zz9->Sem zz9}{g:Int->Int->Int}
  (rule:∀(i j:Int) (t u:Tok) (s:zz8) (Q:zz9->zz8->Prop) (E:zz9->zz8->Prop),Q (.int (g i j) s.toks) { s with toks:=s.toks + 1 }->wpAny (model X.prog X.w) X.A (f (.int i t) (.int j u)) Q E s) :
  GT X f (J8 λi j=>.int (g i j)):=by
 intro pins s σ H x y v u Q I rx ry h;obtain⟨i,j,rfl,rfl,q⟩:=h;obtain⟨t,rfl⟩:=rx;obtain⟨t',rfl⟩:=ry;exact rule i j t t' s _ _ ⟨.int (g i j),H,I.tok _,⟨_,rfl⟩,q⟩
theorem lV {f:zz9->zz9->Sem zz9}{g:Int->Int->Bool}
  (rule:∀(i j:Int) (t u:Tok) (s:zz8) (Q:zz9->zz8->Prop) (E:zz9->zz8->Prop),Q (.bool (g i j)) s->wpAny (model X.prog X.w) X.A (f (.int i t) (.int j u)) Q E s) :
  GT X f (J8 λi j=>.bl (g i j)):=by
 intro pins s σ H x y v u Q I rx ry h;obtain⟨i,j,rfl,rfl,q⟩:=h;obtain⟨t,rfl⟩:=rx;obtain⟨t',rfl⟩:=ry;exact rule i j t t' s _ _ ⟨.bl (g i j),H,I,rfl,q⟩
def AZ (i j:Int):Prop:=0 < j/\j < 1073741824
def lX (i j:Int):Prop:=0<=j/\j<=1000000/\i.natAbs < 2 ^ 64
def lP (i j:Int):Prop:=(-(2 ^ 64) < i/\i < 2 ^ 64)\/(-(2 ^ 64) < j/\j < 2 ^ 64)
theorem lP.ok {i j:Int} (h:lP i j):IntMulOk i j:=by
 rcases h with ⟨h1,h2⟩ | ⟨h1,h2⟩
 ·exact .of_left (intBits_le_64 h1 h2)
 ·exact .of_right (intBits_le_64 h1 h2)
theorem dJ:GT X (binaryOp .Add) (J8 λi j=>.int (i + j)):=sM λ_ _ _ _ _ _ _ q=>add_int q
theorem fN:GT X (binaryOp .Sub) (J8 λi j=>.int (i - j)):=sM λ_ _ _ _ _ _ _ q=>sub_int q
theorem k9:GT X (binaryOp .Mult) (rI lP λi j=>.int (i * j)):=MT λ_ _ _ _ _ _ _ hc q=>mul_int q hc.ok
theorem ph:GT X (binaryOp .FloorDiv) (rI AZ λi j=>.int (i / j)):=MT λi j _ _ _ _ _ hc q=>by
 have h1:(0:Int) < j:=hc.1;have h2:j < 1073741824:=hc.2;exact floordiv_int (by omega) (by rw [Int.fdiv_eq_ediv_of_nonneg i (by omega)];exact q) (.inl (PyProof.noPylong_small (by omega)))
theorem ik:GT X (binaryOp .Mod) (rI (λ_ j=>0 < j) λi j=>.int (i % j)):=MT λi j _ _ _ _ _ hc q=>by
 have h1:(0:Int) < j:=hc;exact mod_int' (by omega) (by rw [Int.fmod_eq_emod_of_nonneg i (by omega)];exact q)
theorem jA:GT X (binaryOp .Pow) (rI lX λi j=>.int (i ^ j.toNat)):=MT λ_ _ _ _ _ _ _ hc q=>pow_int_small hc.1 hc.2.1 hc.2.2 q
theorem WR {f:zz9->Sem zz9}{g:Int->Int}
  (rule:∀(i:Int) (t:Tok) (s:zz8) (Q:zz9->zz8->Prop) (E:zz9->zz8->Prop),Q (.int (g i) s.toks) { s with toks:=s.toks + 1 }->wpAny (model X.prog X.w) X.A (f (.int i t)) Q E s) :
  T8 X f (rU λi=>.int (g i)):=by
 intro pins s σ H x v Q I rx h;obtain⟨i,rfl,q⟩:=h;obtain⟨t,rfl⟩:=rx;exact rule i t s _ _ ⟨.int (g i),H,I.tok _,⟨_,rfl⟩,q⟩
theorem gC:T8 X (unaryOp .USub) (rU λi=>.int (-i)):=WR λ_ _ _ _ _ q=>neg_int q
end
def r8:V->V->Bool
 | .non,.non=>true | .non,.int _=>true | .int _,.non=>true | .non,.bl _=>true | .bl _,.non=>true | .non,.str _=>true | .str _,.non=>true
 | .int _,.int _=>true | .bl _,.bl _=>true | .str _,.str _=>true | .byt _,.byt _=>true
 | .int _,.str _=>true | .str _,.int _=>true | .bl _,.str _=>true | .str _,.bl _=>true
 | _,_=>false
def XG:R2:=λx y H Q=>r8 x y=true/\Q (.bl (decide (x=y))) H
def XF:R2:=λx y H Q=>r8 x y=true/\Q (.bl (!decide (x=y))) H
theorem pA {i j:Int}:decide (V.int i=V.int j)=(i == j):=by
 rw [Dj];simp
theorem qH {i j:Bool}:decide (V.bl i=V.bl j)=(i == j):=by
 rw [Dj];simp
theorem oS {i j:Str}:decide (V.str i=V.str j)=(i == j):=by
 rw [Dj];simp
theorem pQ {i j:Array UInt8}:decide (V.byt i=V.byt j)=(i.toList == j.toList):=by
 rw [Dj];cases i;cases j;simp
section
variable {X:Cx}{a b c:Expr}{ta tb tc:TE}{pos:Pos}
theorem bC {pins:List (Addr×Obj)}{σ:St}{H:Hp}{s:zz8}{Q:VK}{k k':Bool} (I:Inv X pins σ H s) (q:Q (.bl k) H) (e:k=k'):EP X pins σ Q (.bool k') s:=by
 subst e;exact⟨.bl k,H,I,rfl,q⟩
theorem dM:GT X (compareOp .Eq) XG:=by
 intro pins s σ H x y v u Q I rx ry h;obtain⟨hs,q⟩:=h;cases x with
 | non =>
  cases rx;cases y with
  | non=>cases ry;exact PySem.EqNone.eq_none_none (bC I q (by simp))
  | bl j=>cases ry;exact PySem.EqNone.eq_none_bool (bC I q (by simp))
  | int j=>obtain⟨t',rfl⟩:=ry;exact PySem.EqNone.eq_none_int (bC I q (by simp))
  | str j=>obtain⟨t',rfl⟩:=ry;exact PySem.EqNone.eq_none_str (bC I q (by simp))
  | _=>exact absurd (show false=true from hs) Cs
 | bl i =>
  cases rx;cases y with
  | non=>cases ry;exact PySem.EqNone.eq_bool_none (bC I q (by simp))
  | bl j=>cases ry;exact eq_bool (bC I q qH)
  | str j=>obtain⟨t',rfl⟩:=ry;exact PySem.EqMixed.eq_bool_str (bC I q (by simp))
  | _=>exact absurd (show false=true from hs) Cs
 | int i =>
  obtain⟨t,rfl⟩:=rx;cases y with
  | non=>cases ry;exact PySem.EqNone.eq_int_none (bC I q (by simp))
  | int j=>obtain⟨t',rfl⟩:=ry;exact eq_int (bC I q pA)
  | str j=>obtain⟨t',rfl⟩:=ry;exact PySem.EqMixed.eq_int_str (bC I q (by simp))
  | _=>exact absurd (show false=true from hs) Cs
 | str i =>
  obtain⟨t,rfl⟩:=rx;cases y with
  | non=>cases ry;exact PySem.EqNone.eq_str_none (bC I q (by simp))
  | bl j=>cases ry;exact PySem.EqMixed.eq_str_bool (bC I q (by simp))
  | int j=>obtain⟨t',rfl⟩:=ry;exact PySem.EqMixed.eq_str_int (bC I q (by simp))
  | str j=>obtain⟨t',rfl⟩:=ry;exact eq_str (bC I q oS)
  | _=>exact absurd (show false=true from hs) Cs
 | byt i =>
  obtain⟨t,rfl⟩:=rx;cases y with
  | byt j=>obtain⟨t',rfl⟩:=ry;exact PySem.W.eq_bytes (bC I q pQ)
  | _=>exact absurd (show false=true from hs) Cs
 | _=>cases y <;> exact absurd (show false=true from hs) Cs
theorem cq:GT X (compareOp .NotEq) XF:=by
 intro pins s σ H x y v u Q I rx ry h;obtain⟨hs,q⟩:=h;cases x with
 | non =>
  cases rx;cases y with
  | non=>cases ry;exact PySem.EqNone.ne_none_none (bC I q (by simp))
  | bl j=>cases ry;exact PySem.EqNone.ne_none_bool (bC I q (by simp))
  | int j=>obtain⟨t',rfl⟩:=ry;exact PySem.EqNone.ne_none_int (bC I q (by simp))
  | str j=>obtain⟨t',rfl⟩:=ry;exact PySem.EqNone.ne_none_str (bC I q (by simp))
  | _=>exact absurd (show false=true from hs) Cs
 | bl i =>
  cases rx;cases y with
  | non=>cases ry;exact PySem.EqNone.ne_bool_none (bC I q (by simp))
  | bl j=>cases ry;exact ne_bool (bC I q (congrArg not qH))
  | str j=>obtain⟨t',rfl⟩:=ry;exact PySem.EqMixed.ne_bool_str (bC I q (by simp))
  | _=>exact absurd (show false=true from hs) Cs
 | int i =>
  obtain⟨t,rfl⟩:=rx;cases y with
  | non=>cases ry;exact PySem.EqNone.ne_int_none (bC I q (by simp))
  | int j=>obtain⟨t',rfl⟩:=ry;exact ne_int (bC I q (congrArg not pA))
  | str j=>obtain⟨t',rfl⟩:=ry;exact PySem.EqMixed.ne_int_str (bC I q (by simp))
  | _=>exact absurd (show false=true from hs) Cs
 | str i =>
  obtain⟨t,rfl⟩:=rx;cases y with
  | non=>cases ry;exact PySem.EqNone.ne_str_none (bC I q (by simp))
  | bl j=>cases ry;exact PySem.EqMixed.ne_str_bool (bC I q (by simp))
  | int j=>obtain⟨t',rfl⟩:=ry;exact PySem.EqMixed.ne_str_int (bC I q (by simp))
  | str j=>obtain⟨t',rfl⟩:=ry;exact ne_str (bC I q (congrArg not oS))
  | _=>exact absurd (show false=true from hs) Cs
 | byt i =>
  obtain⟨t,rfl⟩:=rx;cases y with
  | byt j=>obtain⟨t',rfl⟩:=ry;exact PySem.W.ne_bytes (bC I q (congrArg not pQ))
  | _=>exact absurd (show false=true from hs) Cs
 | _=>cases y <;> exact absurd (show false=true from hs) Cs
theorem jF:GT X (compareOp .Lt) (J8 λi j=>.bl (decide (i < j))):=lV λ_ _ _ _ _ _ _ q=>lt_int q
theorem fh:GT X (compareOp .LtE) (J8 λi j=>.bl (decide (i<=j))):=lV λ_ _ _ _ _ _ _ q=>le_int q
theorem jG:GT X (compareOp .Gt) (J8 λi j=>.bl (decide (j < i))):=lV λ_ _ _ _ _ _ _ q=>gt_int q
theorem mZ:GT X (compareOp .Lt) (λx y H Q=>∃i j,x=.str i/\y=.str j/\Q (.bl (decide (i.cps.toList < j.cps.toList))) H):=by
 intro pins s σ H x y v u Q I rx ry h;obtain⟨i,j,rfl,rfl,q⟩:=h;obtain⟨t,rfl⟩:=rx;obtain⟨t',rfl⟩:=ry;exact lt_str (bC I q rfl)
theorem zl:GT X (compareOp .Is) (λx y H Q=>y=.non/\Q (.bl (decide (x=.non))) H):=by
 intro pins s σ H x y v u Q I rx ry h;obtain⟨rfl,q⟩:=h;cases ry;refine is_none_gen (bC I q ?_);cases x <;> first
  | (cases rx;rfl)
  | (obtain⟨t,rfl⟩:=rx;rfl)
theorem aM (b:Expr) {op:CmpOp} (h:op≠.In:=by decide) (h2:op≠.NotIn:=by decide):behindInMarks op b=false:=by
 have e1:(op == CmpOp.In)=false:=by cases op <;> first | rfl | exact absurd rfl h
 have e2:(op == CmpOp.NotIn)=false:=by cases op <;> first | rfl | exact absurd rfl h2
 cases b <;> simp [behindInMarks,e1,e2]
theorem du {op:CmpOp}{r:R2} (ho:GT X (compareOp op) r) (ha:PE X a ta) (hb:PE X b tb) (hm:behindInMarks op b=false):PE X (.Compare a [op] [b] pos) (HZ r ta tb):=by
 intro pins s σ H Q I h;exact wpAny_Compare1 (mf ha hb I h λv u s2 x y H2 I2 rx ry q=>ho pins s2 σ H2 x y v u Q I2 rx ry q) hm
def rS (t:TE):TT:=λσ H Q=>t σ H λx H'=>∃k,x=.bl k/\Q k H'
theorem aU {op:CmpOp}{r:R2} (ho:GT X (compareOp op) r) (ha:PE X a ta) (hb:PE X b tb) (hm:behindInMarks op b=false):PT X (.Compare a [op] [b] pos) (rS (HZ r ta tb)):=by
 intro pins s σ H Q I h
 refine wpAny_isTrue_Compare1 (Gu (ha pins s σ H _ I h) λv s1 ⟨x,H1,I1,r1,q1⟩=>Gu (hb pins s1 σ H1 _ I1 q1) λu s2 ⟨y,H2,I2,r2,q2⟩ =>
  Gu (ho pins s2 σ H2 x y v u _ I2 r1 r2 q2) λc s3 ⟨z,H3,I3,r3,k,e,q3⟩=>?_) hm
 subst e;cases r3;exact Dt ⟨H3,I3,q3⟩
def pX (r r':R2) (ta tb tc:TE):TE:=λσ H Q=>ta σ H λx H1=>tb σ H1 λy H2=>r x y H2 λz H3=>∃k,z=.bl k /\
 (if k=true then tc σ H3 λw' H4=>r' y w' H4 Q else Q (.bl false) H3)
theorem oz {op Mj:CmpOp}{r r':R2} (ho:GT X (compareOp op) r) (Iz:GT X (compareOp Mj) r') (ha:PE X a ta) (hb:PE X b tb) (hc:PE X c tc)
  (hm:lastMarks [op,Mj] [b,c]=false:=by with_unfolding_all rfl):PE X (.Compare a [op,Mj] [b,c] pos) (pX r r' ta tb tc):=by
 intro pins s σ H Q I h
 refine Compare_chain (Gu (ha pins s σ H _ I h) λv s1 ⟨x,H1,I1,r1,q1⟩=>chain_link (Gu (hb pins s1 σ H1 _ I1 q1) λu s2 ⟨y,H2,I2,r2,q2⟩ =>
  Gu (ho pins s2 σ H2 x y v u _ I2 r1 r2 q2) λd s3 ⟨z,H3,I3,r3,k,e,q3⟩=>?_)) hm
 subst e;cases r3;refine Dt ?_;cases k with
 | false=>exact ite_ff ⟨.bl false,H3,I3,rfl,q3⟩
 | true=>exact ite_tt (chain_last (Gu (hc pins s3 σ H3 _ I3 q3) λw' s4 ⟨z',H4,I4,r4,q4⟩=>Iz pins s4 σ H4 y z' u w' Q I4 r2 r4 q4))
theorem je {op Mj:CmpOp}{r r':R2} (ho:GT X (compareOp op) r) (Iz:GT X (compareOp Mj) r') (ha:PE X a ta) (hb:PE X b tb) (hc:PE X c tc)
  (hm:lastMarks [op,Mj] [b,c]=false:=by with_unfolding_all rfl):PT X (.Compare a [op,Mj] [b,c] pos) (rS (pX r r' ta tb tc)):=by
 intro pins s σ H Q I h
 refine isTrue_chain (Gu (ha pins s σ H _ I h) λv s1 ⟨x,H1,I1,r1,q1⟩=>test_link (Gu (hb pins s1 σ H1 _ I1 q1) λu s2 ⟨y,H2,I2,r2,q2⟩ =>
  Gu (ho pins s2 σ H2 x y v u _ I2 r1 r2 q2) λd s3 ⟨z,H3,I3,r3,k,e,q3⟩=>?_)) hm
 subst e;cases r3;refine Dt ?_;cases k with
 | false =>
  obtain⟨k',e',q'⟩:=q3;cases e';exact ite_ff ⟨H3,I3,q'⟩
 | true =>
  refine ite_tt (test_last (Gu (hc pins s3 σ H3 _ I3 q3) λw' s4 ⟨z',H4,I4,r4,q4⟩=>Gu (Iz pins s4 σ H4 y z' u w' _ I4 r2 r4 q4) λd' s5 ⟨z2,H5,I5,r5,k2,e2,q5⟩=>?_));subst e2;cases r5;exact Dt ⟨H5,I5,q5⟩
theorem fO:(sizeLine:Nat) < 2 ^ 63:=by rw [DO];decide
theorem fD:GT X (binaryOp .Add) (λx y H Q=>∃i j,x=.str i/\y=.str j/\i.length + j.length<=sizeLine/\Q (.str (i++j)) H):=by
 intro pins s σ H x y v u Q I rx ry h;obtain⟨i,j,rfl,rfl,hz,q⟩:=h;obtain⟨t,rfl⟩:=rx;obtain⟨t',rfl⟩:=ry;exact add_str (λt' tk=>⟨.str (i++j),H,I.tok _,⟨_,rfl⟩,q⟩) hz
theorem vals1 {x:V}{us:List zz9} (r:aC [x] us):∃u,us=[u]/\RelV x u:=by
 cases r with
 | cons r1 r2=>cases r2;exact⟨_,rfl,r1⟩
theorem vals2 {x y:V}{us:List zz9} (r:aC [x,y] us):∃u w',us=[u,w']/\RelV x u/\RelV y w':=by
 cases r with
 | cons r1 r2 =>
  cases r2 with
  | cons r3 r4=>cases r4;exact⟨_,_,rfl,r1,r3⟩
theorem iU (hc:X.calm=true):cC X (.builtin "max") (λxs H Q=>∃i j,xs=[.int i,.int j]/\Q (.int (if j > i then j else i)) H):=by
 intro pins s σ H xs us Q I r h;obtain⟨i,j,rfl,q⟩:=h;obtain⟨u,w',rfl,⟨t,rfl⟩,⟨t',rfl⟩⟩:=vals2 r;refine max_two_ints (I.ok.hd hc) λh' tk k=>⟨_,H,I.kept k,?_,q⟩
 by_cases hj:j > i
 ·rw [if_pos hj,if_pos hj];exact⟨_,rfl⟩
 ·rw [if_neg hj,if_neg hj];exact⟨_,rfl⟩
theorem uO (hc:X.calm=true):cC X (.builtin "min") (λxs H Q=>∃i j,xs=[.int i,.int j]/\Q (.int (if j < i then j else i)) H):=by
 intro pins s σ H xs us Q I r h;obtain⟨i,j,rfl,q⟩:=h;obtain⟨u,w',rfl,⟨t,rfl⟩,⟨t',rfl⟩⟩:=vals2 r;refine min_two_ints (I.ok.hd hc) λh' tk k=>⟨_,H,I.kept k,?_,q⟩
 by_cases hj:j < i
 ·rw [if_pos hj,if_pos hj];exact⟨_,rfl⟩
 ·rw [if_neg hj,if_neg hj];exact⟨_,rfl⟩
theorem jY:cC X (.type "str") (λxs H Q=>∃i,xs=[.int i]/\i.natAbs.log2 < 1920/\Q (.str (toString i)) H):=by
 intro pins s σ H xs us Q I r h;obtain⟨i,rfl,hz,q⟩:=h;obtain⟨u,rfl,t,rfl⟩:=vals1 r;exact PySem.P.str_of_int hz ⟨.str _,H,I.tok _,⟨_,rfl⟩,q⟩
end
structure lR (h:Heap) (x dx C:Addr) (mA:Str->Option zz9):Prop where
 obj:h.get? x=some (PySem.W.instObj C dx)
 ns:h.Ns1 dx mA
 ne:dx≠x
theorem uS {h:Heap}{dx:Addr}{mA:Str->Option zz9} (n:h.Ns1 dx mA):∃od,h.get? dx=some od/\∀name,PySem.W.lookIn name od=some (mA name):=by
 obtain⟨o,es,ep,ho,hd,hk,_,hm⟩:=n;refine⟨o,ho,λname=>?_⟩;have e:=hm name;unfold nsFind findBy at e;rw [<- Array.find?_toList] at e;unfold PySem.W.lookIn;rw [hd]
 dsimp only
 split
 ·rename_i y q
  rw [q] at e;exact congrArg some e
 ·rename_i q
  rw [q] at e;have a:es.toList.any (·.refKey)=false:=by
   rw [List.any_eq_false];intro y hy;obtain⟨z,t,SU⟩:=hk y (Array.mem_toList_iff.mp hy);simp [DictEntry.refKey,SU]
  have a':¬ es.toList.any (·.refKey)=true:=by rw [a];exact Cs
  rw [if_neg a'];exact congrArg some e
theorem lR.look {h:Heap}{x dx C:Addr}{mA:Str->Option zz9} (I:lR h x dx C mA):∃od,PySem.W.InstAt h x (PySem.W.instObj C dx) C (some od)/\∀name,PySem.W.lookIn name od=some (mA name) :=
 let ⟨od,ho,hl⟩:=uS I.ns
 ⟨od,⟨I.obj,rfl,rfl,ho⟩,hl⟩
section
variable {prog:Program}{w:World}{A:Around}{E:zz9->zz8->Prop}{s:zz8}{K:zz7}{x dx C f:Addr}{mA:Str->Option zz9}{name:Str}{v:zz9}
end
theorem dP.some_of {v:V}{o:Option zz9} (r:dP (some v) o):∃u,o=some u/\RelV v u:=by
 cases o with
 | none=>exact (show False from r).elim
 | some u=>exact⟨u,rfl,r⟩
section
variable {P:Program}{w:World}{H H':Hp}{h h':Heap}{a C dx:Addr}{fs ZZ:List (Str×V)}
theorem xQ (hok:GU P w H h) (e:H a=some (.ins C dx fs)):∃mA,lR h a dx C mA/\(∀f,dP (fs.lookup f) (mA f))/\PySem.Within mA (fs.map (·.1))/\fs.length<=1000/\H dx=some (.own a):=by
 obtain⟨d,z,ne,ob,mA,n,r,q⟩:=(show bg P w H h a (.ins C dx fs) from hok a _ e)
 exact⟨mA,⟨ob,n,ne⟩,r,q,z,d⟩
end
structure Nm (K:zz7) (C:Addr):Prop where
 pg:PySem.W.plainGet K C Str.empty=true
 hd:PySem.W.hasDictIn K C=true
 po:PySem.W.plainOver K C=true
 sa:PySem.W.findIn K (.ref C) "__setattr__"=some (some (.builtin "object.__setattr__"))
theorem Nm.get {K:zz7}{C:Addr} (c:Nm K C) (f:Str):PySem.W.plainGet K C f=true:=c.pg
structure Con (K:zz7) (C:Addr) (f:Str) (v:V) (u:zz9):Prop where
 at_:PySem.W.findIn K (.ref C) f=some (some u)
 rel:RelV v u
 get:PySem.W.specialIn K u "__get__"=some none
 cp:PySem.W.copiedNames.contains f=false
structure B4 (K:zz7) (C:Addr) (m:Str) (f:Addr):Prop where
 at_:PySem.W.findIn K (.ref C) m=some (some (.ref f))
 fn:PySem.W.isFn K (.ref f)=true
 kp:PySem.W.keepIn K (.ref f)=true
section
variable {X:Cx}{pins:List (Addr×Obj)}{σ:St}{H:Hp}{s:zz8}{a C dx:Addr}{fs:List (Str×V)}{f:Str}{v:V}{A:Around}{E:zz9->zz8->Prop}
end
section
variable {X:Cx}{o e value:Expr}{f:Str}{pos HU HQ:Pos}{ta tv:TE}
end
section
variable {X:Cx}{pins:List (Addr×Obj)}{σ:St}{H:Hp}{s:zz8}{A:Around}{E:zz9->zz8->Prop}{Q:zz9->zz8->Prop}{c:zz9}{b:Bool}
inductive dk (K:zz7) (H:Hp):V->zz9->Prop where
 | non:dk K H .non (.type "NoneType")
 | bl (x:Bool):dk K H (.bl x) (.type "bool")
 | int (i:Int):dk K H (.int i) (.type "int")
 | str (x:Str):dk K H (.str x) (.type "str")
 | flt (x:UInt64):dk K H (.flt x) (.type "float")
 | lst {a:Addr}{xs:List V} (e:H a=some (.lst xs)):dk K H (.ref a) (.type "list")
 | frz {a:Addr}{o:Obj}{xs:List V} (e:H a=some (.frz o (.lst xs))):dk K H (.ref a) (.type "list")
 | tup {a:Addr}{xs:List V} (e:H a=some (.tup xs)):dk K H (.ref a) (.type "tuple")
 | dK {a:Addr}{kvs:List (Key×V)} (e:H a=some (.dK kvs)):dk K H (.ref a) (.type "dict")
 | dT {a:Addr}{kvs:List (List Key×V)} (e:H a=some (.dT kvs)):dk K H (.ref a) (.type "dict")
 | ins {a C dx:Addr}{fs:List (Str×V)} (e:H a=some (.ins C dx fs)) (cl:Nm K C) (ha:PySem.W.findIn K (.ref C) "__class__"=some (some (.builtin "object.__class__")))
   (hn:PySem.W.specialIn K (.builtin "object.__class__") "__get__"=some (some (.builtin "getset_descriptor.__get__"))) (IJ:PySem.W.takesIn K (.builtin "object.__class__")=some true)
   (hm:PySem.W.mroIn K C (.type "object")=some true):dk K H (.ref a) (.ref C)
theorem vw {x:V}{u t:zz9} (I:Inv X pins σ H s) (rx:RelV x u) (ty:dk X.K H x t) (e:PySem.W.kitOne X.K t c=some b) (h:∀tk,Q (.bool b) { s with toks:=tk }) :
  wpAny (model X.prog X.w) A (call (.builtin "isinstance") [u,c]) Q E s:=by
 cases ty with
 | non=>cases (show u=Value.none from rx);exact Do PySem.W.kitx_none I.kIn True.intro e (λz=>nomatch z) h
 | bl y=>cases (show u=Value.bool y from rx);exact Do PySem.W.kitx_bool I.kIn True.intro e (λz=>nomatch z) h
 | int i=>obtain⟨t,q⟩:=(show ∃t,u=Value.int i t from rx);cases q;exact Do PySem.W.kitx_int I.kIn True.intro e (λz=>nomatch z) h
 | str y=>obtain⟨t,q⟩:=(show ∃t,u=Value.str y t from rx);cases q;exact Do PySem.W.kitx_str I.kIn True.intro e (λz=>nomatch z) h
 | flt y=>obtain⟨t,q⟩:=(show ∃t,u=Value.float y t from rx);cases q;exact Do PySem.W.kitx_float I.kIn True.intro e (λz=>nomatch z) h
 | @lst a xs ea =>
  cases (show u=Value.ref a from rx);obtain⟨_,_,n,_,h1⟩:=(show bg X.prog X.w H s.heap a (.lst xs) from I.hok a _ ea)
  exact Do PySem.W.kitx_list I.kIn ⟨_,h1,rfl⟩ e (λz=>nomatch z) h
 | @frz a ob xs ea =>
  cases (show u=Value.ref a from rx);obtain⟨_,_,_,n,_,h1⟩:=(show bg X.prog X.w H s.heap a (.frz ob (.lst xs)) from I.hok a _ ea)
  exact Do PySem.W.kitx_list I.kIn ⟨_,h1,rfl⟩ e (λz=>nomatch z) h
 | @tup a xs ea =>
  cases (show u=Value.ref a from rx);obtain⟨_,_,_,p⟩:=(show bg X.prog X.w H s.heap a (.tup xs) from I.hok a _ ea)
  obtain⟨o,h1,h2,_⟩:=p;exact Do PySem.W.kitx_tuple I.kIn ⟨o,h1,h2⟩ e (λz=>nomatch z) h
 | @dK a kvs ea =>
  cases (show u=Value.ref a from rx);obtain⟨_,_,vs,_,p⟩:=(show bg X.prog X.w H s.heap a (.dK kvs) from I.hok a _ ea)
  obtain⟨o,es,ep,h1,h2,_⟩:=p;exact Do PySem.W.kitx_dict I.kIn ⟨o,h1,h2.1⟩ e (λz=>nomatch z) h
 | @dT a kvs ea =>
  cases (show u=Value.ref a from rx);obtain⟨_,_,xs,_,o,es,ep,h1,h2,_⟩:=(show bg X.prog X.w H s.heap a (.dT kvs) from I.hok a _ ea)
  exact Do PySem.W.kitx_dict I.kIn ⟨o,h1,h2.1⟩ e (λz=>nomatch z) h
 | @ins a C dx fs ea cl ha hn IJ hm =>
  cases (show u=Value.ref a from rx);obtain⟨mA,O,_⟩:=xQ I.hok ea;obtain⟨od,J,_⟩:=O.look;exact Do (PySem.W.kitx_own (cl.get _) cl.hd ha hn IJ hm) I.kIn J e (λz=>nomatch z) h
end
structure aT (k:Nat) (A:Around):Prop where
 hd:A.handled=none
 dp:A.depth + 3 * k + 5 < recursionLimit
 un:A.units + 16 * k + 200 < cLine
 gd:A.guards=some []
theorem aT.mono {j k:Nat}{A:Around} (r:aT k A) (h:j<=k):aT j A:=⟨r.hd,by have:=r.dp;omega,by have:=r.un;omega,r.gd⟩
theorem aT.deeper {k:Nat}{A:Around} (r:aT (k + 1) A) (env:Env):aT k (A.deeper env) :=
 ⟨r.hd,by have:=r.dp;show A.depth + 1 + 3 * k + 5 < _;omega,by have:=r.un;show A.units + 3 + 16 * k + 200 < _;omega,r.gd⟩
theorem aT.depth {k:Nat}{A:Around} (r:aT k A):A.depth < recursionLimit:=by have:=r.dp;omega
theorem aT.units {k:Nat}{A:Around} (r:aT k A):A.units + 64 < cLine:=by have:=r.un;omega
def bY:TA:=λ_ H Q=>Q [] H
def bN (ta:TE) (tr:TA):TA:=λσ H Q=>ta σ H λx H1=>tr σ H1 λxs H2=>Q (x::xs) H2
section
variable {X:Cx}{e:Expr}{es:List Expr}{te:TE}{t:TA}{pos:Pos}
theorem ae:PA X [] bY:=λ_ _ _ _ H Q I h=>Calls.spliced_nil ⟨[],H,I,.nil,h⟩
theorem aa (ha:PE X e te) (hr:PA X es t) (hs:starEach (e::es) X.env=(false,eval e X.env)::starEach es X.env:=by rfl):PA X (e::es) (bN te t):=by
 intro pos pins s σ H Q I h;rw [hs];show wpAny _ _ (spliced ((false,eval e X.env)::backTo pos (starEach es X.env))) _ _ s;refine Calls.spliced_cons (Gu (ha pins s σ H _ I h) λu s1 ⟨x,H1,I1,r1,q1⟩=>?_);exact Gu (hr pos pins s1 σ H1 _ I1 q1) λus s2 ⟨xs,H2,I2,r2,q2⟩=>⟨x::xs,H2,I2,.cons r1 r2,q2⟩
def jP (t:TA):TE:=λσ H Q=>t σ H λxs H1=>xs.length<=sizeLine/\∀p,H1 p=none->Q (.ref p) (upd H1 p (.tup xs))
def eB (t:TA):TE:=λσ H Q=>t σ H λxs H1=>xs.length<=sizeLine/\∀p,H1 p=none->Q (.ref p) (upd H1 p (.lst xs))
theorem br {x1} (h:PA X es t):PE X (.Tuple es x1 pos) (jP t):=by
 intro pins s σ H Q I hq;refine wpAny_Tuple_spliced (Gu (h pos pins s σ H _ I hq) λus s1 ⟨xs,H1,I1,r,z,q⟩=>⟨by rw [<- r.length];exact z,?_⟩);have hf:H1 s1.heap.objs.size=none:=I1.hok.fresh (Cc _);refine⟨.ref s1.heap.objs.size,upd H1 s1.heap.objs.size (.tup xs),I1.laid (t':=s1.toks) (λb u e=>Ce _ e) (Cc _) ?_,rfl,q _ hf⟩;exact⟨z,us,r,⟨_,Cy _ rfl,rfl,_,rfl⟩⟩
theorem bD (h:PA X es t):PE X (.List es pos) (eB t):=by
 intro pins s σ H Q I hq;refine wpAny_List_spliced (Gu (h pos pins s σ H _ I hq) λus s1 ⟨xs,H1,I1,r,z,q⟩=>⟨by rw [<- r.length];exact z,?_⟩);have hf:H1 s1.heap.objs.size=none:=I1.hok.fresh (Cc _);refine⟨.ref s1.heap.objs.size,upd H1 s1.heap.objs.size (.lst xs),I1.laid (t':=s1.toks) (λb u e=>Ce _ e) (Cc _) ?_,rfl,q _ hf⟩;exact⟨z,us,0,r,Cy _ rfl⟩
end
abbrev Sp:=List V->Hp->VK->XK->Prop
abbrev Ht:=List Env->Hp->zz8->XK->zz9->zz8->Prop
structure gg (P:Program) (w:World) (K:zz7) (mg:Str->Option zz9) (base:Heap) (A:Around) (outer:List Env) (s:zz8) (H:Hp):Prop where
 frames:A.frames=some outer
 mod:Mod K mg base
 bs:∀b o,base.get? b=some o->s.heap.get? b=some o/\H b=none
 bsz:base.objs.size<=s.heap.objs.size
 funs:s.heap.FunFrames base outer
 frf:∀b∈GR outer,H b=none
 hok:GU P w H s.heap
 bare:AllBare s.gens
def CE (outer:List Env) (P:Program) (w:World) (H:Hp) (s:zz8) (Q:VK) (u:zz9) (s':zz8):Prop :=
 ∃v H',s'.os=s.os/\AllBare s'.gens/\Un (GR outer) [] H H' s.heap s'.heap/\GU P w H' s'.heap/\RelV v u/\Q v H'
def CR (CX:Ht) (outer:List Env) (P:Program) (w:World) (H:Hp) (s:zz8) (Q:VK) (E:XK) (r:Result) (s':zz8):Prop :=
 match r with
 | .ok (.ret u)=>CE outer P w H s Q u s'
 | .ok _=>False
 | .error e=>CX outer H s E e s'
structure au (P:Program) (w:World) (K:zz7) (mg:Str->Option zz9) (base:Heap) (CX:Ht) (k:Nat) (f:Addr) (fd:FuncData) (ps:List Str) (sp:Sp):Prop where
 len:∀vs H Q E,sp vs H Q E->vs.length=ps.length
 run:∀(A:Around) (outer:List Env) (s:zz8) (H:Hp) (args:Args) (us:List zz9) (vs:List V) (Q:VK) (E:XK),aT k A->gg P w K mg base A outer s H->BindsTo s fd args (ps.zip us)->aC vs us->sp vs H Q E ->
  codeAny (model P w) A (.call (.ref f) args) (CR CX outer P w H s Q E) s
theorem au.imp {P:Program}{w:World}{K:zz7}{mg:Str->Option zz9}{base:Heap}{CX:Ht}{k:Nat}{f:Addr}{fd:FuncData}{ps:List Str}{sp NY:Sp} (F:au P w K mg base CX k f fd ps sp)
  (h:∀vs H Q E,NY vs H Q E->sp vs H Q E):au P w K mg base CX k f fd ps NY :=
 ⟨λvs H Q E q=>F.len vs H Q E (h _ _ _ _ q),λA outer s H args us vs Q E hr he hb hv hs=>F.run A outer s H args us vs Q E hr he hb hv (h _ _ _ _ hs)⟩
section
variable {X:Cx}{pins:List (Addr×Obj)}{σ:St}{H:Hp}{s s':zz8}
theorem Inv.env0 (I:Inv X pins σ H s):gg X.prog X.w X.K X.mg X.base X.A X.stack s H :=
 ⟨I.ok.frames,I.ok.mod,I.bs,CB I.ok.bsz I.sz,I.stack,I.stkFree,I.hok,I.bare⟩
theorem Inv.after {Q:VK}{u:zz9} (I:Inv X pins σ H s) (h:CE X.stack X.prog X.w H s Q u s'):EP X pins σ Q u s':=by
 obtain⟨v,H',os,bare,un,hok,r,q⟩:=h;obtain⟨hh,g,d,t,XQ⟩:=s';obtain rfl:XQ=s.os:=os;exact⟨v,H',I.call (h':=hh) (g':=g) (d':=d) (t':=t) (ch:=[]) un hok bare (λb z=>absurd z (by simp)),r,q⟩
end
def iE (sp:Sp) (IC:List V) (E:XK) (t:TA):TE:=λσ H Q=>t σ H λvs H1=>sp (vs++IC) H1 Q E
def Binds (K:zz7) (fd:FuncData) (ps:List Str) (ds:List zz9):Prop :=
 ∀(s:zz8) (us:List zz9),K.In s.heap->(us++ds).length=ps.length->BindsTo s fd ⟨us,[]⟩ (ps.zip (us++ds))
theorem Binds.all {K:zz7}{fd:FuncData}{ps:List Str} (h:∀us:List zz9,us.length=ps.length->bindArgs fd ⟨us,[]⟩=pure (ps.zip us)):Binds K fd ps []:=λs us _ hl=>by
 rw [Eo] at hl ⊢;exact .of_eq (h us hl)
def fP (CX:Ht) (X:Cx) (E:XK):Prop:=∀(pins:List (Addr×Obj)) (σ:St) (H:Hp) (s:zz8) (e:zz9) (s':zz8),Inv X pins σ H s->CX X.stack H s E e s'->X.xe e s'
section
variable {X:Cx}{CX:Ht}{k:Nat}{f C:Addr}{fd:FuncData}{ps:List Str}{sp:Sp}{IC:List V}{ds:List zz9}{E:XK}{x m:Str}{p pos apos:Pos}{e o:Expr}{es:List Expr}{ta:TE}{t:TA}
theorem Aa {pins:List (Addr×Obj)}{σ:St}{H:Hp}{s:zz8}{Q:VK}{us:List zz9}{vs:List V} (F:au X.prog X.w X.K X.mg X.base CX k f fd ps sp) (hr:aT k X.A) (hb:Binds X.K fd ps ds) (hd:aC IC ds) (hx:fP CX X E)
  (I:Inv X pins σ H s) (r:aC vs us) (h:sp (vs++IC) H Q E):wpAny (model X.prog X.w) X.A (call (.ref f) us) (EP X pins σ Q) X.xe s:=by
 have r2:aC (vs++IC) (us++ds):=r.append hd;have hl:(us++ds).length=ps.length:=by rw [<- r2.length];exact F.len _ _ _ _ h
 refine wpAny_call (EI (F.run X.A X.stack s H ⟨us,[]⟩ (us++ds) (vs++IC) Q E hr I.env0 (hb s us I.kIn hl) r2 h) λr s' hq=>?_);cases r with
 | error e=>exact hx pins σ H s e s' I hq
 | ok fl =>
  cases fl with
  | ret u=>exact I.after hq
  | next=>exact False.elim hq
  | brk=>exact False.elim hq
  | cont=>exact False.elim hq
theorem pG (F:au X.prog X.w X.K X.mg X.base CX k f fd ps sp) (hr:aT k X.A) (hg:Gl X x) (hm:X.mg x=some (.ref f)) (hk:PySem.W.keepIn X.K (.ref f)=true) (hb:Binds X.K fd ps ds) (hd:aC IC ds) (hx:fP CX X E)
  (ha:PA X (e::es) t) (HX:(x == ("__debug__":Str))=false:=by decide) (he:starEach (e::es) X.env=(false,eval e X.env)::starEach es X.env:=by rfl) (GY:(backTo pos (starEach es X.env)).any (·.1)=false:=by rfl) :
  PE X (.Call (.Name x p) (e::es) [] pos) (iE sp IC E t):=by
 intro pins s σ H Q I h;refine Ep (gw I hg hm ?_ HX);refine FI (h₀:=X.base) I.ok.mod.kin hk (Gu (ha pos pins s σ H _ I h) λus s1 ⟨vs,H1,I1,r,q⟩=>⟨I1.kIn,?_⟩) he GY;exact Aa F hr hb hd hx I1 r q
structure Mk (K:zz7) (C f:Addr):Prop where
 makes:PySem.W.makesIn K C=true
 init:PySem.W.findIn K (.ref C) "__init__"=some (some (.ref f))
 fn:PySem.W.isFn K (.ref f)=true
 kp:PySem.W.keepIn K (.ref C)=true
end
section
variable {X:Cx}{CX:Ht}{k:Nat}{f C:Addr}{fd:FuncData}{ps ks:List Str}{sp:Sp}{E:XK}{x m:Str}{p pos apos YF:Pos}{e o:Expr}{es:List Expr}{kws:List Keyword}{te ta:TE}{t tk:TA}{nm:Option Str}
structure BQ (K:zz7) (fd:FuncData) (ps ks:List Str) (g:List zz9->List zz9->List zz9) (gV:List V->List V->List V):Prop where
 to:∀(s:zz8) (us ws:List zz9),K.In s.heap->(g us ws).length=ps.length->BindsTo s fd ⟨us,ks.zip ws⟩ (ps.zip (g us ws))
 rel:∀{vs:List V}{us:List zz9}{zs:List V}{ws:List zz9},aC vs us->aC zs ws->aC (gV vs zs) (g us ws)
variable {g:List zz9->List zz9->List zz9}{gV:List V->List V->List V}
end
structure aV (N P:List Str) (sc:Scope):Prop where
 kind:sc.kind=.function
 co:sc.isCoroutine=false
 gen:sc.isGenerator=false
 nd:N.Nodup
 pre:N.take P.length=P
 par:∀x∈P,sc.names.lookup x=some .local\/sc.names.lookup x=some .cell
 nofree:∀y∈sc.names,y.2≠.free
theorem mV {kindOf:Str->Option NameKind}{x:Str}:∀{binds:List (Str×zz9)}{m:Str->Option zz9},(∀v,(x,v)∉binds)->bindL kindOf binds m x=m x
 | [],_,_=>rfl
 | (n,v)::r,m,h=>by
  unfold bindL;rw [mV λw hw=>h w (Cj _ hw)];split
  ·have:x≠n:=by rintro rfl;exact h v Cf
   simp [this]
  ·rfl
theorem nc {kindOf:Str->Option NameKind}{x:Str}:∀{binds:List (Str×zz9)}{m:Str->Option zz9},(∀v,(x,v)∉binds)->bindC kindOf binds m x=m x
 | [],_,_=>rfl
 | (n,v)::r,m,h=>by
  unfold bindC;rw [nc λw hw=>h w (Cj _ hw)];split
  ·rfl
  ·have:x≠n:=by rintro rfl;exact h v Cf
   simp [this]
theorem j9 {kindOf:Str->Option NameKind}{x:Str}{v:zz9}:∀{P:List Str}{vs:List zz9}{i:Nat}{m:Str->Option zz9},P.Nodup->P[i]?=some x->vs[i]?=some v->kindOf x=some .local ->
  bindL kindOf (P.zip vs) m x=some v
 | [],_,_,_,_,h,_,_=>by simp at h
 | _::_,[],_,_,_,_,h,_=>by simp at h
 | p::P,w::vs,0,m,nd,h1,h2,hk=>by
  simp at h1 h2;subst h1;subst h2;show bindL kindOf ((p,w)::P.zip vs) m p=_;unfold bindL;rw [mV λv hv=>(CG.mp nd).1 (Fo hv).1,if_pos hk];simp
 | p::P,w::vs,i + 1,m,nd,h1,h2,hk=>by
  show bindL kindOf ((p,w)::P.zip vs) m x=_;unfold bindL;exact j9 (i:=i) (CG.mp nd).2 (by simpa using h1) (by simpa using h2) hk
theorem jZ {kindOf:Str->Option NameKind}{x:Str}{v:zz9}:∀{P:List Str}{vs:List zz9}{i:Nat}{m:Str->Option zz9},P.Nodup->P[i]?=some x->vs[i]?=some v->kindOf x≠some .local ->
  bindC kindOf (P.zip vs) m x=some v
 | [],_,_,_,_,h,_,_=>by simp at h
 | _::_,[],_,_,_,_,h,_=>by simp at h
 | p::P,w::vs,0,m,nd,h1,h2,hk=>by
  simp at h1 h2;subst h1;subst h2;show bindC kindOf ((p,w)::P.zip vs) m p=_;unfold bindC;rw [nc λv hv=>(CG.mp nd).1 (Fo hv).1,if_neg hk];simp
 | p::P,w::vs,i + 1,m,nd,h1,h2,hk=>by
  show bindC kindOf ((p,w)::P.zip vs) m x=_;unfold bindC;exact jZ (i:=i) (CG.mp nd).2 (by simpa using h1) (by simpa using h2) hk
def start (N:List Str) (vs:List V):St:=vs.map some++List.replicate (N.length - vs.length) none
def cN (CX:Ht) (P:Program) (w:World) (K:zz7) (mg:Str->Option zz9) (base:Heap) (N:List Str) (qual:Str) (scope:Scope) (f:Addr) (cd:zz9) (A:Around) (outer:List Env) (s:zz8) (H:Hp) (E:XK):Cx where
 prog:=P
 w:=w
 K:=K
 mg:=mg
 base:=base
 A:=A.deeper (envOfC qual scope s.heap.objs.size f cd)
 N:=N
 s₀:=s
 H₀:=H
 env:=envOfC qual scope s.heap.objs.size f cd
 outer:=outer
 stack:=envOfC qual scope s.heap.objs.size f cd::outer
 ex:=[]
 calm:=true
 fn:=λ_=>true
 pn:=[]
 xe:=λe s'=>wpAny (model P w) (A.deeper (envOfC qual scope s.heap.objs.size f cd)) (leaving (envOfC qual scope s.heap.objs.size f cd) e) (λ_ N6=>CX outer H s E e N6) (λe' N6=>CX outer H s E e' N6) s'
theorem i5 {sc:Scope}{n:Nat}{x:Str} (h:sc.names.lookup x=some .cell):∃c,(cellsFrom n sc.names []).lookup x=some c:=by
 have q:=E6 sc.names n [] (.inl h);exact DQ.mp q
theorem vj {CX:Ht}{P:Program}{w:World}{K:zz7}{mg:Str->Option zz9}{base:Heap}{N ps:List Str}{qual:Str}{scope:Scope}{f:Addr}{cd:zz9}{A:Around}{outer:List Env}{s s1:zz8}{H:Hp}{E:XK}{us:List zz9}{vs:List V}
  (S:aV N ps scope) (hd:A.handled=none) (e0:gg P w K mg base A outer s H) (hl:vs.length=ps.length) (r:aC vs us)
  (x:InCallC s s.heap.objs.size (bindL (envOfC qual scope s.heap.objs.size f cd).kindOf (ps.zip us) λ_=>none) (cellsFrom (s.heap.objs.size + 1) scope.names []) (bindC (envOfC qual scope s.heap.objs.size f cd).kindOf (ps.zip us) λ_=>none) s1) :
  Inv (cN CX P w K mg base N qual scope f cd A outer s H E) [] (start N vs) H s1:=by
 have GY:ps.length<=N.length:=by have:=congrArg List.length S.pre;rw [Dc] at this;omega
 obtain⟨h1,tk,rfl,hk⟩:=x.done;have KI:∀b:Addr,b∉(cN CX P w K mg base N qual scope f cd A outer s H E).ex:=λb z=>absurd (show b∈([]:List Addr) from z) (by simp)
 refine⟨⟨e0.mod,S.kind,rfl,rfl,Cc _,λy z c h1 h2=>?_,λy hy=>?_,λy c _ h=>?_,λ_=>hd,Around.frames_deeper e0.frames,.inr ⟨rfl,rfl⟩,λb z=>absurd z (KI b),e0.bs,e0.bsz,λb _ _=>KI b,λb z=>absurd z (KI b),e0.funs,e0.frf⟩,
  rfl,e0.bare,Un.kept hk,⟨_,x.toInCall.ns,λi y v h1 h2 h3=>?_⟩,λy c h=>⟨_,x.cell y c h⟩,e0.hok.fresh (Cc _),λy c h=>?_,λp hp=>absurd (show p∈([]:List (Addr×Obj)) from hp) (by simp),e0.hok.kept hk,?_⟩
 ·exact name_of_addr x.apart (C9 h1) (C9 h2)
 ·have hy:scope.names.lookup y=some .cell\/scope.names.lookup y=some .free:=hy
  rcases hy with hy | hy
  ·exact i5 hy
  ·exact absurd rfl (S.nofree _ (C9 hy))
 ·exact CO (x.above y c (C9 h))
 ·have hi:i < vs.length:=by
   unfold start at h2
   by_cases hi:i < vs.length
   ·exact hi
   ·rw [DJ (by simpa using hi)] at h2
    rw [EX] at h2;split at h2 <;> cases h2
  have ha:vs[i]?=some v:=by
   unfold start at h2;rw [CV (by simpa using hi),Cd] at h2;cases e:vs[i]? with
   | none=>rw [e] at h2;cases h2
   | some a=>rw [e] at h2;cases h2;rfl
  obtain⟨u,hu,rv⟩:=r.get ha;have hp:ps[i]?=some y:=by
   rw [<- S.pre,EJ (by omega)];exact h1
  have Om:ps.Nodup:=by rw [<- S.pre];exact S.nd.sublist (EZ _ _)
  refine⟨u,rv,?_⟩
  rcases S.par y (Cb hp) with k | k
  ·exact .inl ⟨k,j9 Om hp hu k⟩
  ·obtain⟨c,e⟩:=i5 (n:=s.heap.objs.size + 1) k
   refine .inr ⟨.inl k,c,e,?_⟩;have q:=x.cell y c e;rw [jZ Om hp hu (by show scope.names.lookup y≠_;rw [k];decide)] at q;exact q
 ·exact e0.hok.fresh (CO (x.above y c (C9 h)))
 ·unfold start
  show _=N.length;rw [Di,B8,List.length_replicate];omega
theorem rp {CX:Ht}{P:Program}{w:World}{K:zz7}{mg:Str->Option zz9}{base:Heap}{k:Nat}{f:Addr}{name qual:Str}{params:Arguments}{body:List Stmt}{scope:Scope}{dV kV doc pm GL ct oc:zz9}{an od:Option Addr}
  {Jm:Array (Option zz9)}{N ps:List Str}{sp:Sp} (lk:K.lookup f=some ⟨oc,od,.func (PySem.W.fnOf name qual params body scope dV kV doc pm an GL ct),Jm⟩) (Ip:PySem.W.codeIn K GL qual=true) (S:aV N ps scope)
  (len:∀vs H Q E,sp vs H Q E->vs.length=ps.length)
  (GZ:∀(A:Around) (outer:List Env) (s:zz8) (H:Hp) (vs:List V) (Q:VK) (E:XK),aT k (A.deeper (envOfC qual scope s.heap.objs.size f GL))->sp vs H Q E ->
   ∃t,Ig (cN CX P w K mg base N qual scope f GL A outer s H E) body t/\t { nx:=λ_ H'=>Q .non H',rt:=Q } (start N vs) H) :
  au P w K mg base CX (k + 1) f (PySem.W.fnOf name qual params body scope dV kV doc pm an GL ct) ps sp:=by
 refine⟨len,λA outer s H args us vs Q E hr e0 hb r IK=>?_⟩;have hl:=len _ _ _ _ IK;have KX:K.In s.heap:=e0.mod.kin.keeps λb o e=>(e0.bs b o e).1;have lim:s.heap.NoLimit:=e0.mod.nolimit.keeps λb o e=>(e0.bs b o e).1;have JX:∀y∈ps.zip us,scope.names.lookup y.1=some .local\/(scope.names.lookup y.1=some .cell/\((cellsFrom (s.heap.objs.size + 1) scope.names []).lookup y.1).isSome=true):=λ⟨n,v⟩ hy=>by
  rcases S.par n (Fo hy).1 with q | q
  ·exact .inl q
  ·exact .inr ⟨q,E6 _ _ _ (.inl q)⟩
 refine codeAny_call_function hr.depth (KX _ _ lk) rfl S.co S.gen rfl (PySem.W.codeRec_of KX Ip) (hb _ _ _ _ ?_);refine wpAny_newFunctionEnv_cells S.kind JX λenv he s1 x=>?_;subst he;refine⟨lim.keeps x.toInCall.keep,codeAny_func ?_⟩;obtain⟨t,ht,hq⟩:=GZ A outer s H vs Q E (hr.deeper _) IK;have I:Inv (cN CX P w K mg base N qual scope f GL A outer s H E) [] (start N vs) H s1:=vj S hr.hd e0 hl r x;refine DD (ht [] s1 (start N vs) H _ I hq) (λfl s' hs=>?_) λe s' hs=>hs;have fin:∀{σ':St}{H':Hp}{v:V}{u:zz9},Inv (cN CX P w K mg base N qual scope f GL A outer s H E) [] σ' H' s'->RelV v u->Q v H'->CE outer P w H s Q u s' :=
  λ{σ' H' v u} J rv q=>⟨v,H',J.os,J.bare,J.base,J.hok,rv,q⟩
 cases fl with
 | ret u =>
  obtain⟨v,σ',H',J,rv,q⟩:=hs;exact fin J rv q
 | next =>
  obtain⟨σ',H',J,q⟩:=hs;exact fin (v:=V.non) (u:=Value.none) J rfl q
 | brk =>
  obtain⟨_,_,_,q⟩:=hs;exact False.elim q
 | cont =>
  obtain⟨_,_,_,q⟩:=hs;exact False.elim q
section
variable {X:Cx}{x:Str}{p pos:Pos}{e:Expr}{es:List Expr}{t:TA}{id T:String}{r:List V->Hp->VK->Prop}
def NS (r:List V->Hp->VK->Prop) (t:TA):TE:=λσ H Q=>t σ H λvs H1=>r vs H1 Q
theorem aD (hc:cC X (.builtin id) r) (hg:Gl X x) (hm:X.mg x=none) (hv:bootBuiltins x=some (.builtin id)) (ha:PA X (e::es) t) (hn:x≠"__name__":=by decide) (HX:(x == ("__debug__":Str))=false:=by decide)
  (he:starEach (e::es) X.env=(false,eval e X.env)::starEach es X.env:=by rfl) (GY:(backTo pos (starEach es X.env)).any (·.1)=false:=by rfl):PE X (.Call (.Name x p) (e::es) [] pos) (NS r t):=by
 intro pins s σ H Q I h;refine Ep (e7 I hg hm hv ?_ hn HX);exact PyProof.Rows.callWith_builtin1 (Gu (ha pos pins s σ H _ I h) λus s1 ⟨vs,H1,I1,r1,q1⟩=>hc pins s1 σ H1 vs us Q I1 r1 q1) he GY
theorem cP (hc:cC X (.type T) r) (hg:Gl X x) (hm:X.mg x=none) (hv:bootBuiltins x=some (.type T)) (ha:PA X (e::es) t) (hn:x≠"__name__":=by decide) (HX:(x == ("__debug__":Str))=false:=by decide)
  (he:starEach (e::es) X.env=(false,eval e X.env)::starEach es X.env:=by rfl) (GY:(backTo pos (starEach es X.env)).any (·.1)=false:=by rfl):PE X (.Call (.Name x p) (e::es) [] pos) (NS r t):=by
 intro pins s σ H Q I h;refine Ep (e7 I hg hm hv ?_ hn HX);exact Dp (Gu (ha pos pins s σ H _ I h) λus s1 ⟨vs,H1,I1,r1,q1⟩=>hc pins s1 σ H1 vs us Q I1 r1 q1) he GY
end
end L2
namespace HT
open PySem PyProof.Rows
section
open PySem.SeqAt
open PySem.AutoSeq1 (wpAny_loadPart')
open PySem.MeetsSeq PySem.MeetsSeq2 PySem.MeetsSeq3
end
section
variable {prog:Program}{w:World}{A:Around}{E:zz9->zz8->Prop}{s:zz8}
theorem BP {t b:Addr}{vs ws:List zz9}{Q:zz9->zz8->Prop} (ht:IsTup s.heap t vs.toArray) (hb:IsTup s.heap b ws.toArray) (hv:vs≠[])
  (h1:ws=[]->Q (.ref t) s) (h2:ws≠[]->Q (.ref s.heap.objs.size) { s with heap:=s.heap.push { cls:=.type "tuple",data:=.seq (vs++ws).toArray } })
  (hsz:vs.length + ws.length<=sizeLine):wpAny (model prog w) A (binaryOp .Add (.ref t) (.ref b)) Q E s:=by
 obtain⟨⟨cls,dd,data,sl⟩,ho,hc,n,hd⟩:=id ht;obtain⟨⟨TU,Qt,data2,PF⟩,Ju,M7,n2,hd2⟩:=id hb;simp only at hc hd M7 hd2;subst hc hd M7 hd2;have e:vs.toArray++ws.toArray=(vs++ws).toArray:=by simp
 by_cases hw:ws=[]
 ·exact concat_meets ⟨_,ho,rfl⟩ ⟨_,Ju,rfl⟩ noFill_tuple_add seq_tuple_add E7 EY (EK _ _)
   (tuple_addW1 t b vs.toArray ws.toArray n n2 dd Qt sl PF (by simpa using hv) (by simp [hw])) ⟨ho,Ju,h1 hw⟩
 ·refine concat_meets ⟨_,ho,rfl⟩ ⟨_,Ju,rfl⟩ noFill_tuple_add seq_tuple_add E7 EY (EK _ _)
   (tuple_addW2 t b vs.toArray ws.toArray n n2 dd Qt sl PF (by simpa using hv) (by simpa using hw) (by rw [Cq,Cq];exact hsz)) ⟨ho,Ju,?_⟩
  rw [e];exact h2 hw
def sIx (n d:Nat):Option Int->Nat
 | none=>d
 | some v=>if v < 0 then (v + (n:Int)).toNat else min v.toNat n
theorem BK (n d:Nat):sIx n d none=d:=rfl
theorem BN (n d k:Nat):sIx n d (some (k:Int))=min k n:=by
 show (if (k:Int) < 0 then ((k:Int) + (n:Int)).toNat else min (k:Int).toNat n)=min k n;rw [if_neg (by omega),Du]
theorem zY (n d:Nat) (hd:d<=n) (o:Option Int):sIx n d o<=n:=by
 cases o with
 | none=>exact hd
 | some v =>
  show (if v < 0 then (v + (n:Int)).toNat else min v.toNat n)<=n
  by_cases hv:v < 0
  ·rw [if_pos hv];omega
  ·rw [if_neg hv];exact Nat.min_le_right _ _
theorem pC (v:Int) (n d:Nat):(if v < 0 then max (v + (n:Int)) 0 else min v (n:Int))=((sIx n d (some v):Nat):Int):=by
 show (if v < 0 then max (v + (n:Int)) 0 else min v (n:Int))=(((if v < 0 then (v + (n:Int)).toNat else min v.toNat n):Nat):Int)
 by_cases hv:v < 0
 ·simp only [if_pos hv];omega
 ·simp only [if_neg hv];omega
theorem uD (lo hi:Option Int) (n:Nat):Builtin.Slice.sliceAdjust lo hi 1 (n:Int)=(((sIx n 0 lo:Nat):Int),((sIx n n hi:Nat):Int)):=by
 have h1:¬ ((1:Int) < 0):=by omega
 unfold Builtin.Slice.sliceAdjust;simp only [h1,if_false];refine Prod.ext ?_ ?_
 ·cases lo with
  | none=>rfl
  | some v=>exact pC v n 0
 ·cases hi with
  | none=>rfl
  | some v=>exact pC v n n
theorem uH (i j:Nat):Builtin.Slice.slicePlaces (i:Int) (j:Int) 1=j - i:=by
 unfold Builtin.Slice.slicePlaces;have h1:(1:Int) > 0:=by omega
 simp only [h1,if_true,Int.ediv_one];split <;> omega
theorem mF {v:zz9}{o:Option Int}{Q:Option Int->zz8->Prop} (p:IsPart v o) (h:Q o s):wpAny (model prog w) A (Builtin.Slice.slicePartIndex v) Q E s:=by
 cases p with
 | none=>exact slicePart_none h
 | int i t=>exact slicePart_int h
theorem sY {sl:Addr}{vl vu:zz9}{lo hi:Option Int}{n:Nat}{Q:Int×Int×Nat->zz8->Prop} (hs:s.heap.IsSliceOf sl vl vu .none) (pl:IsPart vl lo) (pu:IsPart vu hi)
  (h:Q (((sIx n 0 lo:Nat):Int),1,sIx n n hi - sIx n 0 lo) s):wpAny (model prog w) A (Builtin.Slice.sliceApplied (.ref sl) (pure (n:Int))) Q E s:=by
 obtain⟨os,Jc,J0,Io⟩:=id hs;unfold Builtin.Slice.sliceApplied Builtin.Slice.sliceFields;refine B6 (B6 (C4 Jc Io (x:=vl) rfl (B6 (C4 Jc Io (x:=vu) rfl (B6 (C4 Jc Io (x:=.none) rfl (B9 ?_)))))));refine B6 (slicePart_none ?_);show wpAny _ _ (if ((1:Int) == 0)=true then _ else _) _ _ s;rw [if_neg (by decide)];refine B6 (mF pl (B6 (mF pu (B6 (B9 ?_)))));show wpAny _ _ (match Builtin.Slice.sliceAdjust lo hi 1 (n:Int) with | (lo,hi)=>pure (lo,(1:Int),Builtin.Slice.slicePlaces lo hi 1)) _ _ s;rw [uD lo hi n];show wpAny _ _ (pure (((sIx n 0 lo:Nat):Int),(1:Int),Builtin.Slice.slicePlaces ((sIx n 0 lo:Nat):Int) ((sIx n n hi:Nat):Int) 1)) _ _ s;rw [uH];exact B9 h
theorem vT (xs:Array zz9) (i k:Nat):((List.range k).filterMap λ(m:Nat)=>xs[((i:Int) + (m:Int) * 1).toNat]?).toArray=((xs.toList.drop i).take k).toArray:=by
 have e:(λ(m:Nat)=>xs[((i:Int) + (m:Int) * 1).toNat]?)=λm=>xs[i + m]?:=by
  funext m
  have:((i:Int) + (m:Int) * 1).toNat=i + m:=by omega
  rw [this]
 rw [e];have:=pick_run xs i k;rw [List.filterMap_map] at this;have e2:((λx=>xs[x]?) ∘ λx=>i + x)=λm=>xs[i + m]?:=rfl;rw [e2] at this;rw [this]
theorem BI {t sl:Addr}{items:Array zz9}{vl vu:zz9}{lo hi:Option Int}{Q:zz9->zz8->Prop} (ht:IsTup s.heap t items) (hs:s.heap.IsSliceOf sl vl vu .none) (pl:IsPart vl lo) (pu:IsPart vu hi)
  (hw:¬ (sIx items.size 0 lo=0/\sIx items.size items.size hi=items.size))
  (h:Q (.ref s.heap.objs.size) { s with heap:=s.heap.push { cls:=.type "tuple",data:=.seq ((items.toList.drop (sIx items.size 0 lo)).take (sIx items.size items.size hi - sIx items.size 0 lo)).toArray } })
  (hsz:items.size<=sizeLine):wpAny (model prog w) A (getItem (.ref t) (.ref sl)) Q E s:=by
 have IS:sizeOk (.seq ((items.toList.drop (sIx items.size 0 lo)).take (sIx items.size items.size hi - sIx items.size 0 lo)).toArray):=by
  show ((items.toList.drop (sIx items.size 0 lo)).take (sIx items.size items.size hi - sIx items.size 0 lo)).toArray.size<=sizeLine;rw [Cq,Dc,Ey,DW];omega
 have hj:sIx items.size items.size hi<=items.size:=zY _ _ (Cc _) hi;obtain⟨os,Jc,J0,Io⟩:=id hs;have OZ:s.TypeIs (.ref sl) "slice":=⟨os,Jc,J0⟩
 unfold getItem
 try with_reducible refine Dr ?_
 first | refine B6 (B9 ?_) | skip
 refine B6 (FP ht.typeIs (by decide) ?_)
 refine B6 (Dh (name:=Str.ofString "__getitem__") ht.typeIs C3
  (Dn C3 ht.typeIs entry_tuple_getitem ?_ (args_tuple_getitem _ _)))
 show wpAny _ _ (Builtin.Tuple.tupleItemsOf (.ref t) >>= _) _ _ s;refine B6 (tupleItemsOf_ ht ?_);refine B6 (Fq OZ ?_);rw [if_pos (by decide)];refine B6 (sY hs pl pu ?_);have SM:¬ ((((sIx items.size 0 lo:Nat):Int) == 0 && (1:Int) == 1 && (sIx items.size items.size hi - sIx items.size 0 lo) == items.size)=true):=by
  intro q;rw [CK,CK] at q;have q1:((sIx items.size 0 lo:Nat):Int)=0:=eq_of_beq q.1.1;have q2:sIx items.size items.size hi - sIx items.size 0 lo=items.size:=eq_of_beq q.2;exact hw ⟨by omega,by omega⟩
 show wpAny _ _ (if (((sIx items.size 0 lo:Nat):Int) == 0 && (1:Int) == 1 && (sIx items.size items.size hi - sIx items.size 0 lo) == items.size)=true then _ else _) _ _ s;rw [if_neg SM,vT]
 first
  | exact B6 (m:=Builtin.Tuple.tupleExact _) (CS (B9 ⟨_,rfl,B9 h⟩) IS)
  | exact B6 (m:=Builtin.Tuple.tupleExact _) (CS (B6 (B9 (B9 ⟨_,rfl,B9 h⟩))) IS)
  | exact B6 (B6 (m:=Builtin.Tuple.tupleExact _) (CS (B9 (B9 ⟨_,rfl,B9 h⟩)) IS))
  | exact B6 (B6 (m:=Builtin.Tuple.tupleExact _) (CS (B9 ⟨_,rfl,B9 h⟩) IS))
end
end HT
namespace L2
open PySem PySem.Spec PyProof.Rows
abbrev TO:=St->Hp->(Option Int->Hp->Prop)->Prop
def PO (X:Cx) (e:Option Expr) (t:TO):Prop :=
 ∀(pins:List (Addr×Obj)) (s:zz8) (σ:St) (H:Hp) (Q:Option Int->Hp->Prop),Inv X pins σ H s->t σ H Q ->
  wpAny (model X.prog X.w) X.A (evalPart e X.env) (λu s'=>∃o H',Inv X pins σ H' s'/\IsPart u o/\Q o H') X.xe s
def dG:TO:=λ_ H Q=>Q none H
def dz (t:TE):TO:=λσ H Q=>t σ H λx H1=>∃i,x=.int i/\Q (some i) H1
section
variable {X:Cx}{e:Expr}{te:TE}{lo hi:Option Expr}{tl th:TO}{pos p2:Pos}
theorem cB:PO X none dG:=by
 intro pins s σ H Q I h;rw [evalPart_none];exact B9 ⟨none,H,I,.none,h⟩
theorem ck (h:PE X e te):PO X (some e) (dz te):=by
 intro pins s σ H Q I hw;rw [evalPart_some];refine Gu (h pins s σ H _ I hw) λu s1 ⟨x,H1,I1,r1,q1⟩=>?_;obtain⟨i,rfl,q⟩:=q1;obtain⟨t,rfl⟩:=r1;exact⟨some i,H1,I1,.int i t,q⟩
def Qz (X:Cx) (r:V->Option Int->Option Int->Hp->VK->Prop):Prop :=
 ∀(pins:List (Addr×Obj)) (s:zz8) (σ:St) (H:Hp) (x:V) (v vl vu:zz9) (lo hi:Option Int) (sl:Addr) (Q:VK),Inv X pins σ H s->RelV x v->s.heap.IsSliceOf sl vl vu .none->IsPart vl lo->IsPart vu hi->r x lo hi H Q ->
  ∃T id,typeLookup (.type T) "__getitem__"=pure (some (.builtin id))/\s.TypeIs v T/\wpAny (model X.prog X.w) X.A (getItem v (.ref sl)) (EP X pins σ Q) X.xe s
def Uw (r:V->Option Int->Option Int->Hp->VK->Prop) (te:TE) (tl th:TO):TE:=λσ H Q=>te σ H λx H1=>tl σ H1 λl H2=>th σ H2 λu H3=>r x l u H3 Q
theorem cy {r:V->Option Int->Option Int->Hp->VK->Prop} (hr:Qz X r) (he:PE X e te) (hl:PO X lo tl) (hu:PO X hi th):PE X (.Subscript e (.Slice lo hi none p2) pos) (Uw r te tl th):=by
 intro pins s σ H Q I h;refine Subscript_ (Gu (he pins s σ H _ I h) λv s1 ⟨x,H1,I1,r1,q1⟩=>?_);refine wpAny_Slice (Gu (hl pins s1 σ H1 _ I1 q1) λvl s2 ⟨l,H2,I2,pl,q2⟩=>Gu (hu pins s2 σ H2 _ I2 q2) λvu s3 ⟨u,H3,I3,pu,q3⟩=>?_);rw [evalPart_none];refine B9 ?_;have I4:Inv X pins σ H3 { s3 with heap:=s3.heap.push { cls:=.type "slice",data:=.fields #[vl,vu,.none] } }:=I3.kept (t':=s3.toks) λb ob q=>Ce _ q;obtain⟨T,id,hT,ht,hg⟩:=hr pins { s3 with heap:=s3.heap.push { cls:=.type "slice",data:=.fields #[vl,vu,.none] } } σ H3 x v vl vu l u s3.heap.objs.size Q I4 r1 (Heap.IsSliceOf.new ..) pl pu q3;show wpAny (model X.prog X.w) X.A (subscriptTail e (.Slice lo hi none p2) v (.ref s3.heap.objs.size)) (EP X pins σ Q) X.xe { s3 with heap:=s3.heap.push { cls:=.type "slice",data:=.fields #[vl,vu,.none] } };exact tail_any (ops:=[.ref s3.heap.objs.size,v]) ht hT hg (by with_unfolding_all rfl)
def ce (xs:List V) (lo hi:Option Int):List V:=(xs.drop (HT.sIx xs.length 0 lo)).take (HT.sIx xs.length xs.length hi - HT.sIx xs.length 0 lo)
theorem mw (xs:List V) (lo hi:Option Int):(ce xs lo hi).length<=xs.length:=by
 unfold ce;rw [Dc,Ey];omega
def BD (K:zz7):V->Option Int->Option Int->Hp->VK->Prop:=λx lo hi H Q=>∃a xs,x=.ref a/\Gp K H a xs /\
 ¬ (HT.sIx xs.length 0 lo=0/\HT.sIx xs.length xs.length hi=xs.length)/\∀p,H p=none->Q (.ref p) (upd H p (.tup (ce xs lo hi)))
theorem zu:Qz X (BD X.K):=by
 intro pins s σ H x v vl vu lo hi sl Q I rx hs pl pu h;obtain⟨a,xs,rfl,hx,hw,q⟩:=h;cases rx;obtain⟨Gm,r,ht,hz⟩:=I.tuple hx;have Gs:Gm.toArray.size=xs.length:=by rw [Cq];exact r.length.symm
 refine⟨"tuple",_,C3.lookup,ht.typeIs,?_⟩;refine HT.BI ht hs pl pu (by rw [Gs];exact hw) ?_ (by rw [Gs];exact hz);rw [Gs];refine⟨.ref s.heap.objs.size,_,I.laid (t':=s.toks) (o:=.tup (ce xs lo hi)) (λb ob q=>Ce _ q) (Cc _) ?_,rfl,q _ (I.hok.fresh (Cc _))⟩;exact⟨CB (mw xs lo hi) hz,_,(r.drop (HT.sIx xs.length 0 lo)).take (HT.sIx xs.length xs.length hi - HT.sIx xs.length 0 lo),IsTup.new _ _⟩
def AL (K:zz7):R2:=λx y H Q=>∃a b xs ys,x=.ref a/\y=.ref b/\Gp K H a xs/\Gp K H b ys/\xs≠[]/\xs.length + ys.length<=sizeLine /\
 (ys=[]->Q (.ref a) H)/\(ys≠[]->∀p,H p=none->Q (.ref p) (upd H p (.tup (xs++ys))))
theorem aC.nil_iff {xs:List V}{us:List zz9} (r:aC xs us):us=[] ↔ xs=[]:=by
 cases r with
 | nil=>simp
 | cons _ _=>simp
theorem yk:GT X (binaryOp .Add) (AL X.K):=by
 intro pins s σ H x y v u Q I rx ry h;obtain⟨a,b,xs,ys,rfl,rfl,ha,hb,hx,hz,q1,q2⟩:=h;cases rx;cases ry;obtain⟨Gm,r1,p1,_⟩:=I.tuple ha;obtain⟨Ha,r2,p2,_⟩:=I.tuple hb;refine HT.BP p1 p2 (λz=>hx (r1.nil_iff.mp z)) (λz=>⟨.ref a,H,I,rfl,q1 (r2.nil_iff.mp z)⟩) (λz=>?_) (by rw [<- r1.length,<- r2.length];exact hz);refine⟨.ref s.heap.objs.size,_,I.laid (t':=s.toks) (o:=.tup (xs++ys)) (λb ob q=>Ce _ q) (Cc _) ?_,rfl,q2 (λw=>z (r2.nil_iff.mpr w)) _ (I.hok.fresh (Cc _))⟩;exact⟨by rw [Di];exact hz,_,r1.append r2,IsTup.new _ _⟩
end
def IR (n:Nat) (i:Int):Option Nat:=if 0<=i then (if i < n then some i.toNat else none) else if -(n:Int)<=i then some (i + n).toNat else none
def La {α:Type} (xs:List α) (i:Int):Option α:=(IR xs.length i).bind λj=>xs[j]?
theorem oJ {n:Nat}{i:Int}{j:Nat} (h:IR n i=some j):seqIndex? i n=some j/\j < n/\-(n:Int)<=i/\i < n:=by
 unfold IR at h
 by_cases h0:0<=i
 ·rw [if_pos h0] at h
  by_cases h1:i < n
  ·rw [if_pos h1] at h
   have e:i.toNat=j:=CZ h;exact⟨by rw [seqIndex_of h0 h1,e],by omega,by omega,h1⟩
  ·rw [if_neg h1] at h;cases h
 ·rw [if_neg h0] at h
  by_cases h1:-(n:Int)<=i
  ·rw [if_pos h1] at h
   have e:(i + n).toNat=j:=CZ h;exact⟨by rw [seqIndex_neg (by omega) h1,e],by omega,h1,by omega⟩
  ·rw [if_neg h1] at h;cases h
theorem kH {α:Type}{xs:List α}{i:Int}{v:α} (h:La xs i=some v):∃j,seqIndex? i xs.length=some j/\xs[j]?=some v/\j < xs.length/\-(xs.length:Int)<=i/\i < xs.length:=by
 unfold La at h;cases e:IR xs.length i with
 | none=>rw [e] at h;cases h
 | some j =>
  rw [e] at h;obtain⟨h1,h2,h3,h4⟩:=oJ e;exact⟨j,h1,h,h2,h3,h4⟩
theorem xA {α:Type}{xs:List α}{j:Nat}{v:α} (h:xs[j]?=some v):La xs (j:Int)=some v:=by
 have hj:j < xs.length:=(Ca.mp h).1;have e:IR xs.length (j:Int)=some j:=by
  unfold IR;rw [if_pos (by omega),if_pos (by omega)];simp
 unfold La;rw [e];exact h
def yb (b:Expr):Prop:=∀o i,subscripted b false o i=operate [o,i] (getItem o i)
def Kg (X:Cx) (r:R2):Prop :=
 ∀(value slice:Expr) (pins:List (Addr×Obj)) (s:zz8) (σ:St) (H:Hp) (x y:V) (v u:zz9) (Q:VK),Inv X pins σ H s->RelV x v->RelV y u->r x y H Q ->
  subscripted slice false v u=operate [v,u] (getItem v u)->wpAny (model X.prog X.w) X.A (subscriptTail value slice v u) (EP X pins σ Q) X.xe s
def Pg (X:Cx) (id:String) (r:V->List V->Hp->VK->Prop):Prop :=
 ∀(pins:List (Addr×Obj)) (s:zz8) (σ:St) (H:Hp) (x:V) (xs:List V) (v:zz9) (us:List zz9) (Q:VK),Inv X pins σ H s->RelV x v->aC xs us->r x xs H Q ->
  wpAny (model X.prog X.w) X.A (call (.builtin id) (v::us)) (EP X pins σ Q) X.xe s
section
variable {X:Cx}{a b:Expr}{ta tb:TE}{pos:Pos}
theorem Kg.or {r r':R2} (h:Kg X r) (h':Kg X r'):Kg X (λx y H Q=>r x y H Q\/r' x y H Q):=by
 intro value slice pins s σ H x y v u Q I rx ry q hs
 rcases q with q | q
 ·exact h value slice pins s σ H x y v u Q I rx ry q hs
 ·exact h' value slice pins s σ H x y v u Q I rx ry q hs
theorem aA {r:R2} (hr:Kg X r) (ha:PE X a ta) (hb:PE X b tb) (hs:yb b):PE X (.Subscript a b pos) (HZ r ta tb):=by
 intro pins s σ H Q I h;exact Subscript_ (mf ha hb I h λv u s2 x y H2 I2 rx ry q=>hr a b pins s2 σ H2 x y v u Q I2 rx ry q (hs _ _))
def sh (K:zz7):R2:=λx y H Q=>∃p xs i v,x=.ref p/\y=.int i/\Gq K H p xs/\La xs i=some v/\Q v H
def sk (K:zz7):R2:=λx y H Q=>∃p xs i v,x=.ref p/\y=.int i/\Gp K H p xs/\La xs i=some v/\Q v H
def sA:R2:=λx y H Q=>∃z i c,x=.str z/\y=.int i/\z.length<=sizeLine/\La z.cps.toList i=some c/\Q (.str ⟨#[c]⟩) H
theorem yP:Kg X (sh X.K):=by
 intro value slice pins s σ H x y v u Q I rx ry h hs;obtain⟨p,xs,i,z,rfl,rfl,hq,he,q⟩:=h;cases rx;obtain⟨t,rfl⟩:=ry;obtain⟨Gm,r,pl,hz⟩:=I.list hq;obtain⟨j,h1,h2,h3,h4,h5⟩:=kH he;obtain⟨w,ew,Hl⟩:=r.get h2;have hl:=r.length;have hn:=fO;have fin:EP X pins σ Q w s:=⟨z,H,I,Hl,q⟩
 by_cases h0:0<=i
 ·have hj:i.toNat=j:=by
   rw [seqIndex_of h0 h5] at h1;exact CZ h1
  exact item_listR pl.isList h0 (by omega) (by rw [hj];simpa using ew) fin hs
 ·have hj:(i + (Gm.toArray.size:Int)).toNat=j:=by
   rw [seqIndex_neg (by omega) h4] at h1;rw [Cq,<- hl];exact CZ h1
  exact subscriptTail_builtinR (x:=w) pl.isList.typeIs slot_list_getitem.lookup
   (wpAny_getItem_list_neg (Q:=λr s'=>r=w/\EP X pins σ Q r s') pl.isList (by omega) (by rw [Cq] <;> omega) (by omega) (by rw [hj];simpa using ew) ⟨rfl,fin⟩) hs
theorem zw:Kg X (sk X.K):=by
 intro value slice pins s σ H x y v u Q I rx ry h hs;obtain⟨p,xs,i,z,rfl,rfl,hq,he,q⟩:=h;cases rx;obtain⟨t,rfl⟩:=ry;obtain⟨Gm,r,pl,hz⟩:=I.tuple hq;obtain⟨j,h1,h2,h3,h4,h5⟩:=kH he;obtain⟨w,ew,Hl⟩:=r.get h2;have hl:=r.length;have hn:=fO;have fin:EP X pins σ Q w s:=⟨z,H,I,Hl,q⟩
 exact subscriptTail_builtinR (x:=w) pl.typeIs slot_tuple_getitem.lookup
  (getItem_tuple (j:=j) (Q:=λr s'=>r=w/\EP X pins σ Q r s') pl (by omega) (by omega) (by rw [Cq,<- hl];exact h1) (by simpa using ew) ⟨rfl,fin⟩) hs
theorem zV:Kg X sA:=by
 intro value slice pins s σ H x y v u Q I rx ry h hs;obtain⟨z,i,c,rfl,rfl,hz,he,q⟩:=h;obtain⟨t,rfl⟩:=rx;obtain⟨t',rfl⟩:=ry;obtain⟨j,h1,h2,h3,h4,h5⟩:=kH he;have hl:z.cps.toList.length=z.length:=by simp [Str.length]
 rw [hl] at h1 h4 h5;have hn:=fO
 exact tail_any (typeIs_str s z t) slot_str_getitem.lookup (getItem_str (c:=c) (by
  have e1:decide (i < -(2 ^ 63:Int))=false:=decide_eq_false (by omega);have e2:decide (i ≥ 2 ^ 63)=false:=decide_eq_false (by omega)
  rw [e1,e2,Bool.or_false]) (by rw [h1];simpa using h2) ⟨.str ⟨#[c]⟩,H,I.tok _,⟨_,rfl⟩,q⟩) hs
def MS (K:zz7):R2:=λx y H Q=>sh K x y H Q\/sk K x y H Q\/sA x y H Q
theorem aF:Kg X (MS X.K):=yP.or (zw.or zV)
theorem uq (Gm:List zz9) (n j:Nat) (u:zz9):Obj.mapSeq (·.setIfInBounds j u) { cls:=.type "list",data:=.seq Gm.toArray n }={ cls:=.type "list",data:=.seq (Gm.set j u).toArray n }:=by
 simp [Obj.mapSeq]
theorem Inv.lst {pins:List (Addr×Obj)}{σ:St}{H:Hp}{s:zz8}{p:Addr}{xs:List V} (I:Inv X pins σ H s) (h:H p=some (.lst xs)) :
  ∃(Gm:List zz9) (n:Nat),aC xs Gm/\s.heap.get? p=some { cls:=.type "list",data:=.seq Gm.toArray n }/\xs.length<=sizeLine:=by
 obtain⟨z,Gm,n,r,e⟩:=I.hok p _ h;exact⟨Gm,n,r,e,z⟩
theorem Inv.lstUpd {pins:List (Addr×Obj)}{σ:St}{H:Hp}{s:zz8}{p:Addr}{xs ys:List V}{Gm its':List zz9}{n n':Nat}{f:Obj->Obj} (I:Inv X pins σ H s) (h:H p=some (.lst xs))
  (ho:s.heap.get? p=some { cls:=.type "list",data:=.seq Gm.toArray n }) (hf:f { cls:=.type "list",data:=.seq Gm.toArray n }={ cls:=.type "list",data:=.seq its'.toArray n' }) (r:aC ys its') (hz:ys.length<=sizeLine) (t:Nat) :
  Inv X pins σ (upd H p (.lst ys)) { s with heap:=s.heap.update p f,toks:=t }:=by
 have e:(s.heap.update p f).get? p=some { cls:=.type "list",data:=.seq its'.toArray n' }:=by
  rw [DK f ho (by rw [hf] <;> rfl),hf]
 refine I.write (x:=p) (e:=p) (by rw [h];trivial) (.inl rfl) (λb u hb q=>(Ds _ _ (Dy hb)).trans q) ⟨_,e⟩ ?_;exact⟨hz,its',n',r,e⟩
def AM:V->V->V->Hp->(Hp->Prop)->Prop:=λo i v H Q=>∃p xs k j,o=.ref p/\i=.int k/\H p=some (.lst xs)/\IR xs.length k=some j/\Q (upd H p (.lst (xs.set j v)))
theorem set_list:lS X AM:=by
 intro pins s σ H o i v ov iv u Q I ro ri rv h;obtain⟨p,xs,k,j,rfl,rfl,hp,hj,q⟩:=h;cases ro;obtain⟨t,rfl⟩:=ri;obtain⟨Gm,n,r,ho,hz⟩:=I.lst hp;obtain⟨h1,h2,h3,h4⟩:=oJ hj;have hl:=r.length;have hn:=fO;have I':Inv X pins σ (upd H p (.lst (xs.set j v))) { s with heap:=s.heap.update p (Obj.mapSeq (·.setIfInBounds j u)) } :=
  I.lstUpd hp ho (uq Gm n j u) (r.set rv j) (by rw [List.length_set];exact hz) s.toks
 by_cases h0:0<=k
 ·have hk:k.toNat=j:=by
   rw [seqIndex_of h0 h4] at h1;exact CZ h1
  exact PySem.W.ki_setAt ho h0 (by omega) (by rw [Cq,<- hl];exact h4) (by rw [hk];exact⟨_,I',q⟩)
 ·have hk:(k + (Gm.toArray.size:Int)).toNat=j:=by
   rw [seqIndex_neg (by omega) h3] at h1;rw [Cq,<- hl];exact CZ h1
  exact PySem.W.ki_setBack ho (by omega) (by rw [Cq,<- hl];exact h3) (by omega) (by rw [hk];exact⟨_,I',q⟩)
theorem tJ (lo hi:Option Int) (n:Nat):(sliceBounds lo hi none n).1=((HT.sIx n 0 lo:Nat):Int)/\(sliceBounds lo hi none n).2.1=((HT.sIx n n hi:Nat):Int)/\(sliceBounds lo hi none n).2.2=1:=by
 refine⟨?_,?_,rfl⟩
 ·cases lo with
  | none=>simp [sliceBounds,HT.sIx]
  | some i =>
   simp only [sliceBounds,HT.sIx,Option.getD_none,show (1:Int) > 0 by decide,if_true]
   by_cases h:i < 0
   ·simp only [h,if_true] <;> omega
   ·simp only [h,if_false] <;> omega
 ·cases hi with
  | none=>simp [sliceBounds,HT.sIx]
  | some i =>
   simp only [sliceBounds,HT.sIx,Option.getD_none,show (1:Int) > 0 by decide,if_true]
   by_cases h:i < 0
   ·simp only [h,if_true] <;> omega
   ·simp only [h,if_false] <;> omega
theorem tF (Gm:List zz9) (lo hi:Option Int):slicePick Gm.toArray lo hi none=((Gm.drop (HT.sIx Gm.length 0 lo)).take (HT.sIx Gm.length Gm.length hi - HT.sIx Gm.length 0 lo)).toArray:=by
 obtain⟨h1,h2,h3⟩:=tJ lo hi Gm.toArray.size;unfold slicePick;rw [h1,h2,h3];simp only [sliceRange_one,pick_run,Cq] <;> rfl
def Bi (K:zz7):V->Option Int->Option Int->Hp->VK->Prop:=λx lo hi H Q=>∃a xs,x=.ref a/\Gq K H a xs/\∀p,H p=none->Q (.ref p) (upd H p (.lst (ce xs lo hi)))
theorem ji:Qz X (Bi X.K):=by
 intro pins s σ H x v vl vu lo hi sl Q I rx hs pl pu h;obtain⟨a,xs,rfl,hx,q⟩:=h;cases rx;obtain⟨Gm,r,ht,hz⟩:=I.list hx;have Gs:=r.length;refine⟨"list",_,slot_list_getitem.lookup,ht.isList.typeIs,?_⟩;refine wpAny_getItem_list_slice ht.isList hs pl pu .none (by simp) ?_ (by rw [Cq] <;> omega);rw [tF,<- Gs];refine⟨.ref s.heap.objs.size,_,I.laid (t':=s.toks) (o:=.lst (ce xs lo hi)) (λb ob q=>Ce _ q) (Cc _) ?_,rfl,q _ (I.hok.fresh (Cc _))⟩;exact⟨CB (mw xs lo hi) hz,_,0,(r.drop (HT.sIx xs.length 0 lo)).take (HT.sIx xs.length xs.length hi - HT.sIx xs.length 0 lo),Cy _ rfl⟩
def dj:V->Bool
 | .non=>true
 | .bl _=>true
 | .int _=>true
 | .str _=>true
 | _=>false
def Jy:V->V->Bool
 | .non,.non=>true
 | .bl a,.bl b=>a == b
 | .bl a,.int b=>(if a then 1 else 0) == b
 | .int a,.bl b=>a == (if b then 1 else 0)
 | .int a,.int b=>a == b
 | .str a,.str b=>a == b
 | _,_=>false
theorem zo {A:Around}{s:zz8}{y x:V}{u v:zz9} (ry:RelV y u) (rx:RelV x v) (fy:dj y=true) (fx:dj x=true):SeqAt.EqAt A s u v (Jy y x):=by
 cases y with
 | non =>
  cases ry;cases x with
  | non=>cases rx;exact SeqAt.EqAt.same _
  | bl b=>cases rx;exact SeqAt.EqAt.none_bool b
  | int b=>obtain⟨t,rfl⟩:=rx;exact SeqAt.EqAt.none_int b t
  | str b=>obtain⟨t,rfl⟩:=rx;exact SeqAt.EqAt.none_str b t
  | _=>exact absurd (show false=true from fx) Cs
 | bl a =>
  cases ry;cases x with
  | non=>cases rx;exact SeqAt.EqAt.bool_none a
  | bl b=>cases rx;exact SeqAt.EqAt.bool_bool a b
  | int b=>obtain⟨t,rfl⟩:=rx;exact SeqAt.EqAt.bool_int a b t
  | str b=>obtain⟨t,rfl⟩:=rx;exact SeqAt.EqAt.bool_str a b t
  | _=>exact absurd (show false=true from fx) Cs
 | int a =>
  obtain⟨t',rfl⟩:=ry;cases x with
  | non=>cases rx;exact SeqAt.EqAt.int_none a t'
  | bl b=>cases rx;exact SeqAt.EqAt.int_bool a t' b
  | int b=>obtain⟨t,rfl⟩:=rx;exact SeqAt.EqAt.int_int a t' b t
  | str b=>obtain⟨t,rfl⟩:=rx;exact SeqAt.EqAt.int_str a t' b t
  | _=>exact absurd (show false=true from fx) Cs
 | str a =>
  obtain⟨t',rfl⟩:=ry;cases x with
  | non=>cases rx;exact SeqAt.EqAt.str_none a t'
  | bl b=>cases rx;exact SeqAt.EqAt.str_bool a t' b
  | int b=>obtain⟨t,rfl⟩:=rx;exact SeqAt.EqAt.str_int a t' b t
  | str b=>obtain⟨t,rfl⟩:=rx;exact SeqAt.EqAt.str_str a t' b t
  | _=>exact absurd (show false=true from fx) Cs
 | _=>exact absurd (show false=true from fy) Cs
def HA (x:V) (u:zz9):Bool:=match u with
 | .none=>Jy .non x
 | .bool b=>Jy (.bl b) x
 | .int i _=>Jy (.int i) x
 | .str z _=>Jy (.str z) x
 | _=>false
theorem jB {x y:V}{u:zz9} (r:RelV y u) (f:dj y=true):HA x u=Jy y x:=by
 cases y with
 | non=>cases r;rfl
 | bl b=>cases r;rfl
 | int i=>obtain⟨t,rfl⟩:=r;rfl
 | str z=>obtain⟨t,rfl⟩:=r;rfl
 | _=>exact absurd (show false=true from f) Cs
theorem ie {x:V}:∀{xs:List V}{us:List zz9},aC xs us->xs.all dj=true->us.any (HA x)=xs.any λy=>Jy y x
 | _,_,.nil,_=>rfl
 | y::xs,u::us,.cons r t,f=>by
  rw [List.all_cons,CK] at f;rw [Fd,Fd,jB r f.1,ie t f.2]
theorem fF {A:Around}{s:zz8}{x:V}{v:zz9} (rx:RelV x v) (fx:dj x=true):∀{xs:List V}{us:List zz9},aC xs us->xs.all dj=true->∀u∈us,SeqAt.EqAt A s u v (HA x u)
 | _,_,.nil,_=>λu hu=>by cases hu
 | y::xs,u::us,.cons r t,f=>λu' hu=>by
  rw [List.all_cons,CK] at f
  rcases Ci.mp hu with rfl | hu
  ·rw [jB r f.1];exact zo r rx f.1 fx
  ·exact fF rx fx t f.2 u' hu
def JQ (x:V) (xs:List V):Bool:=xs.any λy=>Jy y x
def PK (K:zz7) (neg:Bool):R2:=λx y H Q=>∃p xs,y=.ref p/\(Gq K H p xs\/Gp K H p xs)/\dj x=true/\xs.all dj=true/\Q (.bl (if neg then !JQ x xs else JQ x xs)) H
theorem gU:GT X (compareOp .In) (PK X.K false):=by
 intro pins s σ H x y v u Q I rx ry h;obtain⟨p,xs,rfl,hq,fx,fs,q⟩:=h;cases ry
 rcases hq with hq | hq
 ·obtain⟨Gm,r,pl,hz⟩:=I.list hq
  refine SeqAt.in_listAt (HA x) pl.isList (λw hw=>fF rx fx r fs w (by simpa using hw)) ⟨.bl _,H,I,rfl,?_⟩;rw [show Gm.toArray.any (HA x)=Gm.any (HA x) by simp,ie r fs];exact q
 ·obtain⟨Gm,r,pl,hz⟩:=I.tuple hq
  refine SeqAt.in_tupleAt (HA x) pl (λw hw=>fF rx fx r fs w (by simpa using hw)) ⟨.bl _,H,I,rfl,?_⟩;rw [show Gm.toArray.any (HA x)=Gm.any (HA x) by simp,ie r fs];exact q
theorem mm:GT X (compareOp .NotIn) (PK X.K true):=by
 intro pins s σ H x y v u Q I rx ry h;obtain⟨p,xs,rfl,hq,fx,fs,q⟩:=h;cases ry
 rcases hq with hq | hq
 ·obtain⟨Gm,r,pl,hz⟩:=I.list hq
  refine SeqAt.notIn_listAt (HA x) pl.isList (λw hw=>fF rx fx r fs w (by simpa using hw)) ⟨.bl _,H,I,rfl,?_⟩;rw [show Gm.toArray.any (HA x)=Gm.any (HA x) by simp,ie r fs];exact q
 ·obtain⟨Gm,r,pl,hz⟩:=I.tuple hq
  refine SeqAt.notIn_tupleAt (HA x) pl (λw hw=>fF rx fx r fs w (by simpa using hw)) ⟨.bl _,H,I,rfl,?_⟩;rw [show Gm.toArray.any (HA x)=Gm.any (HA x) by simp,ie r fs];exact q
theorem bu:cC X (.builtin "len") (λxs H Q=>∃p ys,xs=[.ref p]/\(Gq X.K H p ys\/Gp X.K H p ys)/\Q (.int ys.length) H):=by
 intro pins s σ H xs us Q I r h;obtain⟨p,ys,rfl,hq,q⟩:=h;obtain⟨u,rfl,rx⟩:=vals1 r;cases rx;have hn:=fO
 rcases hq with hq | hq
 ·obtain⟨Gm,r',pl,hz⟩:=I.list hq
  have Gs:=r'.length;exact Calls.call_len_list pl.isList (by simp only [Cq] <;> omega) ⟨.int ys.length,H,I.tok _,⟨s.toks + 1,by rw [Cq,Gs]⟩,q⟩
 ·obtain⟨Gm,r',pl,hz⟩:=I.tuple hq
  have Gs:=r'.length;exact len_tuple pl (by simp only [Cq] <;> omega) ⟨.int ys.length,H,I.tok _,⟨s.toks + 1,by rw [Cq,Gs]⟩,q⟩
theorem mn:cC X (.builtin "len") (λxs H Q=>∃z,xs=[.str z]/\z.length<=sizeLine/\Q (.int z.length) H):=by
 intro pins s σ H xs us Q I r h;obtain⟨z,rfl,hz,q⟩:=h;obtain⟨u,rfl,t,rfl⟩:=vals1 r;have hn:=fO;exact len_str (by omega) ⟨.int z.length,H,I.tok _,⟨_,rfl⟩,q⟩
theorem gS:cC X (.type "list") (λxs H Q=>∃p ys,xs=[.ref p]/\(Gq X.K H p ys\/Gp X.K H p ys)/\∀l,H l=none->Q (.ref l) (upd H l (.lst ys))):=by
 intro pins s σ H xs us Q I r h;obtain⟨p,ys,rfl,hq,q⟩:=h;obtain⟨u,rfl,rx⟩:=vals1 r;cases rx;have fin:∀(Gm:List zz9),aC ys Gm->ys.length<=sizeLine->∀(h':Heap) (c':Nat),(∀b o',s.heap.get? b=some o'->h'.get? b=some o') ->
   h'.get? s.heap.objs.size=some { cls:=.type "list",dict:=none,data:=.seq Gm.toArray c',slots:=#[] }->EP X pins σ Q (.ref s.heap.objs.size) { s with heap:=h' }:=λGm r' hz h' c' kp e =>
  ⟨.ref s.heap.objs.size,_,I.laid (t':=s.toks) kp (Cc _) (show bg X.prog X.w _ h' _ (.lst ys) from ⟨hz,Gm,c',r',e⟩),rfl,q _ (I.hok.fresh (Cc _))⟩
 rcases hq with hq | hq
 ·obtain⟨Gm,r',pl,hz⟩:=I.list hq
  have Gs:=r'.length;obtain⟨o,ho,hc,n,hd⟩:=pl.isList;exact call_list_seq p (.inl rfl) ho hc hd (λh' c' kp e=>fin Gm r' hz h' c' kp e) (by simp only [Cq] <;> omega)
 ·obtain⟨Gm,r',pl,hz⟩:=I.tuple hq
  have Gs:=r'.length;obtain⟨o,ho,hc,n,hd⟩:=pl;exact call_list_seq p (.inr rfl) ho hc hd (λh' c' kp e=>fin Gm r' hz h' c' kp e) (by simp only [Cq] <;> omega)
theorem fz:cC X (.type "tuple") (λxs H Q=>∃p ys,xs=[.ref p]/\((Gq X.K H p ys/\∀l,H l=none->Q (.ref l) (upd H l (.tup ys)))\/(Gp X.K H p ys/\Q (.ref p) H))):=by
 intro pins s σ H xs us Q I r h;obtain⟨p,ys,rfl,h⟩:=h;obtain⟨u,rfl,rx⟩:=vals1 r;cases rx
 rcases h with ⟨hq,q⟩ | ⟨hq,q⟩
 ·obtain⟨Gm,r',pl,hz⟩:=I.list hq
  have Gs:=r'.length;refine call_tuple_list pl.isList (λh' kp=>?_) (by simp only [Cq] <;> omega);have I1:Inv X pins σ H { s with heap:=h' }:=I.kept (t':=s.toks) kp;have I2:Inv X pins σ (upd H h'.objs.size (.tup ys)) { s with heap:=h'.push { cls:=.type "tuple",data:=.seq Gm.toArray } } :=
   I1.laid (t':=s.toks) (λb o e=>Ce _ e) (Cc _) (show bg X.prog X.w _ _ _ (.tup ys) from ⟨hz,Gm,r',IsTup.new _ _⟩)
  exact⟨.ref h'.objs.size,_,I2,rfl,q _ (I1.hok.fresh (Cc _))⟩
 ·obtain⟨Gm,r',pl,hz⟩:=I.tuple hq
  exact call_tuple_same pl ⟨.ref p,H,I,rfl,q⟩
def Ut (K:zz7) (T:String) (x:V) (H:Hp):Prop:=match x with
 | .str _=>T="str"
 | .int _=>T="int"
 | .ref p=>(T="list"/\∃xs,Gq K H p xs)\/(T="tuple"/\∃o,K.lookup p=some o/\o.cls=.type "tuple"/\o.dict=none) \/
   (T="dict"/\((∃kvs,H p=some (.dK kvs))\/∃kvs,H p=some (.dT kvs)))\/(T="set"/\∃S n,H p=some (.set S n))
 | _=>False
theorem zJ {pins:List (Addr×Obj)}{σ:St}{H:Hp}{s:zz8}{T:String}{x:V}{v:zz9} (I:Inv X pins σ H s) (r:RelV x v) (ty:Ut X.K T x H) :
  s.TypeIs v T/\∀a,v=.ref a->∃ob,s.heap.get? a=some ob/\ob.dict=none:=by
 cases x with
 | str z =>
  obtain⟨t,rfl⟩:=r;cases (show T="str" from ty);exact⟨typeIs_str s z t,λ_ e=>nomatch e⟩
 | int i =>
  obtain⟨t,rfl⟩:=r;cases (show T="int" from ty);exact⟨typeIs_int s i t,λ_ e=>nomatch e⟩
 | ref p =>
  cases r
  rcases ty with ⟨rfl,xs,hq⟩ | ⟨rfl,o,hk,hc,hd⟩ | ⟨rfl,hk⟩ | ⟨rfl,S,n,hk⟩
  ·obtain⟨Gm,_,pl,_⟩:=I.list hq
   refine⟨pl.isList.typeIs,λa e=>?_⟩;cases e;obtain⟨o,n,e,c,hd,_⟩:=pl;exact⟨o,e,hd⟩
  ·refine⟨⟨o,I.kIn p o hk,hc⟩,λa e=>?_⟩
   cases e;exact⟨o,I.kIn _ o hk,hd⟩
  ·have z:∃o,s.heap.get? p=some o/\o.ExactDict:=by
    rcases hk with ⟨kvs,hk⟩ | ⟨kvs,hk⟩
    ·obtain⟨_,_,_,_,o,_,_,e,ex,_⟩:=I.hok p _ hk
     exact⟨o,e,ex⟩
    ·obtain⟨_,_,_,_,o,_,_,e,ex,_⟩:=I.hok p _ hk
     exact⟨o,e,ex⟩
   obtain⟨o,e,ex⟩:=z;refine⟨⟨o,e,ex.1⟩,λa e2=>?_⟩;cases e2;exact⟨o,e,ex.2.1⟩
  ·obtain⟨o,_,_,_,e,ex,_⟩:=I.hok p _ hk
   refine⟨⟨o,e,ex.1⟩,λa e2=>?_⟩;cases e2;exact⟨o,e,ex.2.1⟩
 | _=>exact False.elim ty
def Xr (K:zz7) (T:String) (r:V->List V->Hp->VK->Prop) (to:TE) (t:TA):TE:=λσ H Q=>to σ H λx H1=>Ut K T x H1/\t σ H1 λxs H2=>r x xs H2 Q
variable {o e:Expr}{es:List Expr}{to:TE}{t:TA}{name:Str}{apos GK:Pos}{T id:String}{r:V->List V->Hp->VK->Prop}
theorem c8 (pa:PlainAttrs T) (slot:Slot T name id) (Y2:typeOf (.builtin id)=pure (.type "method_descriptor")) (hm:Pg X id r) (ho:PE X o to) (ha:PA X (e::es) t)
  (OY:attributeBase o name X.env (eval o X.env)=eval o X.env:=by rfl)
  (SZ:((backTo GK (starEach (e::es) X.env)).all (λx=>!x.1) && (backToKw GK (keywordEach [] X.env)).all (λx=>x.1.isSome)
   && decide ((e::es).length + ([]:List Keyword).length + (if ([]:List Keyword).isEmpty then 0 else 1) < 30))=true:=by rfl)
  (OM:(apos.endLine == GK.line)=true:=by rfl) (hs:starEach (e::es) X.env=(false,eval e X.env)::starEach es X.env:=by rfl) (Mw:(backTo GK (starEach es X.env)).any (·.1)=false:=by rfl) :
  PE X (.Call (.Attribute o name apos) (e::es) [] GK) (Xr X.K T r to t):=by
 intro pins s σ H Q I h;refine wpAny_Call_method_late OY SZ OM rfl (Gu (ho pins s σ H _ I h) λv s1 ⟨x,H1,I1,r1,ty,q1⟩=>?_);obtain⟨h1,h2⟩:=zJ I1 r1 ty;refine⟨T,id,pa,slot,Y2,h1,h2,?_⟩;have hA:=ha GK pins s1 σ H1 _ I1 q1;rw [hs] at hA ⊢;refine Calls.callWith_builtin (by show (false || (backTo GK (starEach es X.env)).any (·.1))=false;rw [Mw] <;> rfl) (Calls.evalArgs_plain ?_);exact Gu hA λus s2 ⟨vs,H2,I2,r2,q2⟩=>hm pins s2 σ H2 x vs v us Q I2 r1 r2 q2
/- xs.append(e),list.index on a Ou tuple .. are Pg facts of 06m -/
end
def Wr (X:Cx) (id:String) (r:V->List V->Hp->VK->Prop):Prop :=
 ∀(pins:List (Addr×Obj)) (s:zz8) (σ:St) (H:Hp) (x:V) (xs:List V) (v:zz9) (us:List zz9) (Q:VK),Inv X pins σ H s->RelV x v->aC xs us->r x xs H Q ->
  wpAny (model X.prog X.w) X.A (call (.builtin id) (v::us)) (EP X pins σ Q) X.xe s
theorem aC.one:∀{x:V}{us:List zz9},aC [x] us->∃u,us=[u]/\RelV x u
 | _,_,.cons r .nil=>⟨_,rfl,r⟩
theorem aC.eraseIdx:∀{xs:List V}{us:List zz9} (i:Nat),aC xs us->aC (xs.eraseIdx i) (us.eraseIdx i)
 | _,_,_,.nil=>.nil
 | _,_,0,.cons _ t=>t
 | _,_,i + 1,.cons r t=>.cons r (aC.eraseIdx i t)
theorem aC.reverse {xs:List V}{us:List zz9} (h:aC xs us):aC xs.reverse us.reverse:=by
 induction h with
 | nil=>exact .nil
 | cons r t ih=>rw [E1,E1];exact aC.append ih (.cons r .nil)
theorem aC.rep {xs:List V}{us:List zz9} (h:aC xs us):∀k:Nat,aC (List.replicate k xs).flatten (List.replicate k us).flatten
 | 0=>.nil
 | k + 1=>by
  rw [DG,DG,Eu,Eu];exact aC.append h (aC.rep h k)
theorem nr {α:Type}:∀(l:List α) (i:Nat),(l.eraseIdx i).length<=l.length
 | [],_=>Cc _
 | _::_,0=>FG _
 | _::r,i + 1=>Nat.succ_le_succ (nr r i)
theorem foldl_rep (Gm:List zz9):∀(k:Nat) (GG:List zz9),
  List.foldl (λx1 x2=>x1++x2) GG.toArray (List.replicate k Gm.toArray)=(GG++(List.replicate k Gm).flatten).toArray
 | 0,GG=>by simp
 | k + 1,GG=>by
  have e:GG.toArray++Gm.toArray=(GG++Gm).toArray:=by simp
  have e2:(GG++Gm)++(List.replicate k Gm).flatten=GG++(List.replicate (k + 1) Gm).flatten:=by
   rw [DG,Eu,E2]
  rw [<- e2,<- foldl_rep Gm k (GG++Gm),<- e,DG,List.foldl_cons]
section
variable {X:Cx}{pins:List (Addr×Obj)}{σ:St}{H:Hp}{s:zz8}{l b:Addr}{xs ys zs:List V}
theorem Inv.lset {Gm its':List zz9}{n:Nat}{f:Array zz9->Array zz9}{t':Nat} (I:Inv X pins σ H s) (hH:H l=some (.lst xs))
  (e:s.heap.get? l=some { cls:=.type "list",data:=.seq Gm.toArray n }) (hf:f Gm.toArray=its'.toArray) (hv:aC ys its') (hz:ys.length<=sizeLine) :
  Inv X pins σ (upd H l (.lst ys)) { s with heap:=s.heap.update l (Obj.mapSeq f),toks:=t' }:=by
 have q:=PySem.IsL.update e f;rw [hf] at q;refine I.write (x:=l) (e:=l) (by rw [hH];exact trivial) (.inl rfl) (λb' u hb hu=>(Ds s.heap (Obj.mapSeq f) (Dy hb)).trans hu) ⟨_,q⟩ ?_;exact⟨hz,its',_,hv,q⟩
theorem Inv.lnew {Gm:List zz9}{t':Nat} (I:Inv X pins σ H s) (hv:aC ys Gm) (hz:ys.length<=sizeLine) :
  Inv X pins σ (upd H s.heap.objs.size (.lst ys)) { s with heap:=s.heap.push { cls:=.type "list",data:=.seq Gm.toArray },toks:=t' } :=
 I.laid (λ_ _ q=>Ce _ q) (Cc _) ⟨hz,Gm,0,hv,Cy _ rfl⟩
theorem Inv.fresh (I:Inv X pins σ H s):H s.heap.objs.size=none:=I.hok.fresh (Cc _)
theorem Inv.lstM (I:Inv X pins σ H s) (hH:H l=some (.lst xs)):xs.length<=sizeLine/\∃(Gm:List zz9) (n:Nat),aC xs Gm/\xs.length=Gm.length/\s.heap.get? l=some { cls:=.type "list",data:=.seq Gm.toArray n }:=by
 obtain⟨z,Gm,n,r,e⟩:=I.hok l _ hH;exact⟨z,Gm,n,r,r.length,e⟩
theorem wX {n:Nat} (h:n<=sizeLine):Builtin.List.listTooLong n=false:=by
 unfold Builtin.List.listTooLong;exact decide_eq_false (by omega)
end
section
variable {X:Cx}
def pT:V->List V->Hp->VK->Prop:=λx vs H Q=>∃l xs y,x=.ref l/\vs=[y]/\H l=some (.lst xs)/\xs.length < sizeLine/\Q .non (upd H l (.lst (xs++[y])))
theorem dR:Wr X "list.append" pT:=by
 intro pins s σ H x vs v us Q I rx rv h;obtain⟨l,xs,y,rfl,rfl,hH,hz,q⟩:=h;cases rx;obtain⟨u,rfl,ru⟩:=rv.one;obtain⟨z,Gm,n,r,hl,e⟩:=I.lstM hH;refine Fs F.slot_list_append ⟨_,e,rfl⟩ F.entry_list_append (F.args_list_append_2 _ _) (PySem.list_append l Gm.toArray n u (by rw [Cq];omega)) ⟨e,?_⟩;refine⟨.non,_,I.lset (its':=Gm++[u]) hH e (by simp) (r.append (.cons ru .nil)) ?_,rfl,q⟩;rw [Di,List.length_singleton];omega
def zp:V->List V->Hp->VK->Prop:=λx vs H Q=>∃l xs i k y,x=.ref l/\vs=[.int i]/\H l=some (.lst xs)/\-(2 ^ 63)<=i/\i < 2 ^ 63/\seqIndex? i xs.length=some k/\xs[k]?=some y/\Q y (upd H l (.lst (xs.eraseIdx k)))
theorem vS:Wr X "list.pop" zp:=by
 intro pins s σ H x vs v us Q I rx rv h;obtain⟨l,xs,i,k,y,rfl,rfl,hH,h1,h2,hk,hy,q⟩:=h;cases rx;obtain⟨u,rfl,ru⟩:=rv.one;obtain⟨t,rfl⟩:=ru;obtain⟨z,Gm,n,r,hl,e⟩:=I.lstM hH;obtain⟨w,hw,Hl⟩:=r.get hy;refine Fs F.slot_list_pop ⟨_,e,rfl⟩ F.entry_list_pop (F.args_list_pop_2 _ _)
  (MeetsSeq.list_pop_at l Gm.toArray n i t k w (fitsIndex_both h1 h2) (by rw [Cq,<- hl];exact hk) (by rw [<- DL];exact hw) (by rw [Cq];omega)) ⟨e,?_⟩
 refine⟨y,_,I.lset (its':=Gm.eraseIdx k) hH e ?_ (r.eraseIdx k) ?_,Hl,q⟩
 ·show Gm.toArray.eraseIdxIfInBounds k=(Gm.eraseIdx k).toArray
  rw [List.eraseIdxIfInBounds_toArray]
 ·have:=nr xs k
  omega
def jT:R2:=λx y H Q=>∃l b xs zs,x=.ref l/\y=.ref b/\H l=some (.lst xs)/\H b=some (.lst zs)/\xs.length + zs.length<=sizeLine/\∀p,H p=none->Q (.ref p) (upd H p (.lst (xs++zs)))
theorem dH:GT X (binaryOp .Add) jT:=by
 intro pins s σ H x y v u Q I rx ry h;obtain⟨l,b,xs,zs,rfl,rfl,hH,hB,hz,q⟩:=h;cases rx;cases ry;obtain⟨z,Gm,n,r,hl,e⟩:=I.lstM hH;obtain⟨z2,Ha,n2,r2,JV,e2⟩:=I.lstM hB;refine PySem.P.add_list e e2 ?_ (by rw [Cq,Cq];omega);have ea:Gm.toArray++Ha.toArray=(Gm++Ha).toArray:=by simp
 rw [ea];exact⟨.ref _,_,I.lnew (t':=s.toks) (r.append r2) (by rw [Di];omega),rfl,q _ I.fresh⟩
def Bu:R2:=λx y H Q=>∃l k xs,x=.ref l/\y=.int k/\H l=some (.lst xs)/\-(2 ^ 63)<=k/\k < 2 ^ 63/\xs.length * k.toNat<=sizeLine /\
 ∀p,H p=none->Q (.ref p) (upd H p (.lst (List.replicate k.toNat xs).flatten))
theorem len_rep {α:Type} (xs:List α) (k:Nat):(List.replicate k xs).flatten.length=k * xs.length:=by
 induction k with
 | zero=>simp
 | succ k ih=>rw [DG,Eu,Di,ih,Nat.succ_mul,Nat.add_comm]
theorem qJ:GT X (binaryOp .Mult) Bu:=by
 intro pins s σ H x y v u Q I rx ry h;obtain⟨l,k,xs,rfl,rfl,hH,h1,h2,hz,q⟩:=h;cases rx;obtain⟨t,rfl⟩:=ry;obtain⟨z,Gm,n,r,hl,e⟩:=I.lstM hH;have Gs:Gm.toArray.size * k.toNat<=sizeLine:=by rw [Cq,<- hl];exact hz
 have Td:¬ Gm.toArray.size * k.toNat > (2 ^ 63 - 1) / 8:=by
  have:(sizeLine:Nat)<=(2 ^ 63 - 1) / 8:=by decide
  omega
 have KU:¬ (!Builtin.List.listFitsIndex k)=true:=by
  rw [fitsIndex_both h1 h2];exact Cs
 have OL:¬ Builtin.List.listTooLong (Gm.toArray.size * k.toNat)=true:=by
  rw [wX Gs];exact Cs
 have MA:List.foldl (λx1 x2=>x1++x2) #[] (List.replicate (if Gm.toArray.isEmpty=true then 0 else k.toNat) Gm.toArray)=(List.replicate k.toNat Gm).flatten.toArray:=by
  have f0:∀m:Nat,List.foldl (λx1 x2=>x1++x2) #[] (List.replicate m Gm.toArray)=(List.replicate m Gm).flatten.toArray:=λm=>by
   have:=foldl_rep Gm m [];rw [List.nil_append] at this;exact this
  rw [f0];cases Gm with
  | nil=>simp
  | cons a r'=>rw [if_neg (by simp)]
 refine wpAny_binaryOp_repeat_ref (T:="list") (U:="int") (by decide) ⟨_,e,rfl⟩ (λs'=>typeIs_int s' k t) noFill_list_mul F.fills_int_mul F.slot_int_rmul repeat_list F.slot_int_index.lookup
  (Fs F.slot_int_rmul (typeIs_int s k t) F.entry_int_rmul (F.args_int_rmul_2 _ _) (int___rmul___int_list k t l Gm.toArray n)
   ⟨e,rfl,⟨_,e,rfl⟩,Fs F.slot_list_mul ⟨_,e,rfl⟩ F.entry_list_mul (F.args_list_mul_2 _ _) (AutoListH.list___mul___list_int_3 l Gm.toArray n k t KU Td OL) ⟨e,?_⟩⟩)
 rw [MA];exact⟨.ref _,_,I.lnew (t':=s.toks) (r.rep k.toNat) (by rw [len_rep,Nat.mul_comm];exact hz),rfl,q _ I.fresh⟩
end
section
variable {prog:Program}{w:World}{A:Around}{E:zz9->zz8->Prop}{s:zz8}
end
section
variable {X:Cx}
end
end L2
namespace Att
open PySem PySem.W PySem.Calls PyProof.Rows
theorem sZ {P:Params}{h:Heap}:∀(ns:List Int) (vs:List zz9),WellAll P h vs (ns.map WData.int)->IntsAre vs ns:=by
 intro ns
 induction ns with
 | nil =>
  intro vs w;rw [Fv] at w;cases w;exact .nil
 | cons n ns ih =>
  intro vs w;rw [CD] at w;cases w with
  | cons a b =>
   cases a;exact .cons _ _ (ih _ b)
theorem vP {l:OpenLaw}{n:Nat} (hn:l.most=some n) {P:Params}{h:Heap}{args:List WData}{vals:List zz9}
  (KS:l.row.toRowW.claim.pre args=true) (Sg:WellAll P h vals args) :
  ∃a vs ns,vals=[Value.ref a]/\args=[WData.list (ns.map WData.int)]/\h.get? a=some { cls:=.type "list",data:=.seq vs.toArray }/\IntsAre vs ns/\ns.length<=n:=by
 have Zb:WShape.hasAll [] args [.list .int]=true:=(pre_splitW KS).1;have hc:l.pre.holds [] { args:=args }=true:=(pre_splitW KS).2;obtain⟨d,r,rfl,h1,h2⟩:=hasAllW_cons Zb;obtain rfl:=hasAllW_nil h2;obtain⟨xs,rfl,h3⟩:=hasW_list h1;obtain⟨ns,rfl⟩:=items_int h3;have Gs:ns.length<=n:=by
  unfold OpenLaw.pre at hc;have h4:(WTm.not (.lt (.lit (.int (n:Int))) (.len (.arg 0)))).holds [] { args:=[.list (ns.map .int)] }=true:=by
   have h4:=(holds_andW hc).1;rw [hn] at h4;exact h4
  have h5:=condW_of h4 (w_not (w_lt w_lit (w_len_list (w_arg rfl))));rw [B8] at h5;refine Nat.le_of_not_lt λq=>?_;have q':(n:Int) < ((ns.length:Nat):Int):=by omega
  first
   | (rw [decide_eq_true q'] at h5;exact absurd h5 (by decide))
   | (simp at h5;omega)
 cases Sg with
 | cons w1 w2 =>
  cases w2;cases w1 with
  | list ho Hr=>exact⟨_,_,ns,rfl,rfl,ho,sZ ns _ Hr,Gs⟩
theorem vm (l:OpenLaw) (args:List WData):l.row.toRowW.claim.post args (.bool true) args=true :=
 postW_of (r:=l.row.toRowW) (X:=(true == true))
  (show WShape.has [] (.bool true) .bool=true by first | rfl | decide | simp [WShape.has,WShape.arms,WShape.armsAll])
  (show (WTm.eq .res (.lit (.bool true))).value [] { args:=args,res:=some (.bool true),after:=args }=some (.bool (true == true)) from w_eq_bool (w_res rfl) w_lit) rfl
theorem BJ {l:OpenLaw}{n:Nat}{q:Program}{loose:List Str}{XP:(Str->Option zz9)->Heap->Prop}{YP:World->Heap->Prop}{d:DefRec}
  (hn:l.most=some n) (OU:d.params.defaults=[])
  (call:∀(w:World) (s₀ s₁:zz8) (mg mb:Str->Option zz9) (fa:Addr) (o:Obj) (pm cd doc:zz9) (a:Addr) (vs:List zz9) (ns:List Int),
   Ground q loose [] XP w s₀ mg mb s₁.heap->YP w s₁.heap ->
   s₁.heap.get? fa=some o->o.data=.func (docDef d.name d.params d.body d.scope pm cd doc)->s₁.heap.CodeRec cd d.name->mg d.name=some (.ref fa) ->
   s₁.heap.get? a=some { cls:=.type "list",data:=.seq vs.toArray }->IntsAre vs ns->ns.length<=n->s₁.gens=#[] ->
   codeAny (model l.prog w) callerA (.call (.ref fa) ⟨[.ref a],[]⟩) (λr s'=>r=.ok (.ret (.bool true))/\OldK s₁.heap s'.heap/\s'.os=s₁.os/\AllBare s'.gens) s₁) :
  WalkO q loose XP YP l.row.toRowW d [] (λf vs=>PySem.call f vs):=by
 intro w s₀ s₁ mg mb G Y fa o pm cd doc dV kV ho hd Ip hD MC hg args vals as KS Zn Vn Sg hlo;obtain rfl:dV=.none:=Dflts.none hD OU;obtain rfl:kV=.none:=Dflts.noKw hD;obtain⟨a,vs,ns,rfl,rfl,Mz,hints,Gs⟩:=vP hn KS Sg;refine enter_call (EI (call w s₀ s₁ mg mb fa o pm cd doc a vs ns G Y ho (fd_plain hd) Ip MC Mz hints Gs hg) λr s' hq=>?_);obtain⟨rfl,h2,h3,h4⟩:=hq;exact⟨.inl ⟨.bool true,.bool true,[],rfl,λ_=>rfl,.bool true,vm l _,λ_=>⟨List.Pairwise.nil,λ_ hm=>(nomatch hm)⟩⟩,h2,h3,h4⟩
section
variable {prog:Program}{w:World}{A:Around}{E:zz9->zz8->Prop}{s:zz8}{K:Frag}
end
end Att
namespace L2
open PySem PySem.Spec PyProof.Rows
theorem mR:∀{vs:List zz9}{ns:List Int},IntsAre vs ns->aC (ns.map V.int) vs
 | _,_,.nil=>.nil
 | _,_,.cons n t h=>.cons ⟨t,rfl⟩ (mR h)
def l9 (H:Hp):Prop:=∀b,H b=none\/∃o xs,H b=some (.frz o (.lst xs))
theorem wW {P:Program}{w:World}{K:zz7}{mg mb:Str->Option zz9}{CX:Ht}{k:Nat}{fa a:Addr}{fd:FuncData}{x:Str}{sp:Sp}{s₁:zz8}{vs:List zz9}{ns:List Int}
  (KX:K.In s₁.heap) (Ka:s₁.heap.Ns mainGlobals mg) (hb:s₁.heap.Ns builtinsNs mb) (Qm:∀x:Str,x≠"__name__"->mb x=bootBuiltins x) (SQ:s₁.heap.NoLimit) (hg:s₁.gens=#[])
  (ha:s₁.heap.get? a=some { cls:=.type "list",data:=.seq vs.toArray }) (hi:IntsAre vs ns) (hl:ns.length<=sizeLine) (hr:aT k callerA)
  (F:∀base:Heap,K.In base->base.Ns mainGlobals mg->au P w K mg base CX k fa fd [x] sp) (OX:∀(s:zz8) (u:zz9),BindsTo s fd ⟨[u],[]⟩ [(x,u)])
  (IK:∀H:Hp,l9 H->Gq K H a (ns.map V.int)->sp [.ref a] H (λv _=>v=.bl true) λ_ _ _=>False)
  (Tp:∀H e s',CX [] H s₁ (λ_ _ _=>False) e s'->False) :
  codeAny (model P w) callerA (.call (.ref fa) ⟨[.ref a],[]⟩) (λr s'=>r=.ok (.ret (.bool true))/\OldK s₁.heap s'.heap/\s'.os=s₁.os/\AllBare s'.gens) s₁:=by
 have rv:=mR hi;have Sd:=hi.length;have core:∀H:Hp,l9 H->Gq K H a (ns.map V.int)->GU P w H s₁.heap->(∀b,H b≠none->b=a)->(H a≠none->K.lookup a=none) ->
   codeAny (model P w) callerA (.call (.ref fa) ⟨[.ref a],[]⟩) (λr s'=>r=.ok (.ret (.bool true))/\OldK s₁.heap s'.heap/\s'.os=s₁.os/\AllBare s'.gens) s₁:=by
  intro H hO hS hok hA hK;have IX:∀{b:Addr}{o:Obj},s₁.heap.get? b=some o->H b=none->(eP s₁.heap H).get? b=some o:=λe n=>wZ e n;have KI:∀{b:Addr}{o:Obj}{es:Array DictEntry}{ep:Nat},s₁.heap.get? b=some o->o.data=.dict es ep->H b=none:=λ{b o es ep} e d=>by
   cases q:H b with
   | none=>rfl
   | some u =>
    have e':b=a:=hA b (by rw [q];simp);subst e';rw [ha] at e;cases e;have d':Data.seq vs.toArray _=Data.dict es ep:=d;cases d'
  have PQ:∀{b:Addr}{m:Str->Option zz9},s₁.heap.Ns b m->(eP s₁.heap H).Ns b m:=λ{b m} ⟨o,es,ep,e,d,r⟩=>⟨o,es,ep,IX e (KI e d),d,r⟩
  have VY:K.In (eP s₁.heap H):=λb o e=>IX (KX b o e) (by
   cases q:H b with
   | none=>rfl
   | some u =>
    have e':b=a:=hA b (by rw [q];simp);subst e'
    rw [hK (by rw [q];simp)] at e;cases e)
  have hM:Mod K mg (eP s₁.heap H):=⟨VY,PQ Ka,⟨mb,PQ hb,Qm⟩,let ⟨mc,h1,h2⟩:=SQ;⟨mc,PQ h1,h2⟩⟩
  have e0:gg P w K mg (eP s₁.heap H) callerA [] s₁ H:=⟨rfl,hM,λb o e=>yF e,Nat.le_of_eq (vc _ _),trivial,λb hb=>absurd (show b∈([]:List Addr) from hb) (by simp),hok,.of_eq hg⟩
  refine EI ((F _ VY (PQ Ka)).run callerA [] s₁ H ⟨[.ref a],[]⟩ [.ref a] [.ref a] _ _ hr e0 (OX s₁ (.ref a)) (.cons rfl .nil) (IK H hO hS)) λr s' h=>?_;cases r with
  | error e=>exact (Tp H e s' h).elim
  | ok fl =>
   cases fl with
   | next=>exact False.elim h
   | brk=>exact False.elim h
   | cont=>exact False.elim h
   | ret u =>
    obtain⟨v,H',os,bare,un,SI,r',q⟩:=h;have q':v=.bl true:=q;subst q';obtain rfl:u=Value.bool true:=r';refine⟨rfl,OldK.of_keep λb o e=>?_,os,bare⟩;cases q:H b with
    | none=>exact un.keep b o e q (by intro z;exact absurd (show b∈([]:List Addr) from z) (by simp)) (by simp)
    | some u =>
     rcases hO b with z | ⟨ob,xs,z⟩
     ·rw [q] at z;cases z
     ·have z2:=un.frzs b ob _ z
      obtain⟨e1,_⟩:=hok b _ z;obtain⟨e2,_⟩:=SI b _ z2;rw [e] at e1;cases e1;exact e2
 cases hk:K.lookup a with
 | some o =>
  have e:=KX a o hk;rw [ha] at e;cases e;refine core (λ_=>none) (λ_=>.inl rfl) (.inr ⟨_,vs.toArray,_,hk,rfl,rfl,rfl,by rw [Cq,Sd];exact hl,by simpa using rv⟩) (λb u z=>by have z':(none:Option HO)=some u:=z;cases z') (λb z=>absurd rfl z) λz=>absurd rfl z
 | none =>
  refine core (λb=>if b=a then some (.frz { cls:=.type "list",data:=.seq vs.toArray } (.lst (ns.map V.int))) else none) (λb=>?_) (.inl (.inr ⟨{ cls:=.type "list",data:=.seq vs.toArray },if_pos rfl⟩)) (λb u z=>?_) (λb z=>?_) λ_=>hk
  ·by_cases hb:b=a
   ·exact .inr ⟨_,_,if_pos hb⟩
   ·exact .inl (if_neg hb)
  ·by_cases hb:b=a
   ·have z':=(if_pos hb).symm.trans z
    cases z';subst hb;exact⟨ha,by rw [B8];exact hl,vs,_,rv,ha⟩
   ·have z':=(if_neg hb).symm.trans z
    cases z'
  ·by_cases hb:b=a
   ·exact hb
   ·exact absurd (if_neg hb) z
theorem BL {l:PySem.W.OpenLaw}{n k:Nat}{q:Program}{loose:List Str}{XP:(Str->Option zz9)->Heap->Prop}{YP:World->Heap->Prop}{d:DefRec}{K:Params->zz7}{CX:World->Ht}{sp:World->Sp}{x:Str}
  (hn:l.most=some n) (VB:n<=sizeLine) (OU:d.params.defaults=[]) (hr:aT k callerA)
  (hY:∀(w:World) (h:Heap),YP w h->(K w.params).In h)
  (F:∀(w:World) (mg:Str->Option zz9) (fa:Addr) (h:Heap),(K w.params).In h->h.Ns mainGlobals mg->mg d.name=some (.ref fa) ->
   ∃fd:FuncData,(∀(s:zz8) (u:zz9),BindsTo s fd ⟨[u],[]⟩ [(x,u)]) /\
    ∀base:Heap,(K w.params).In base->base.Ns mainGlobals mg->au l.prog w (K w.params) mg base (CX w) k fa fd [x] (sp w))
  (IK:∀(w:World) (H:Hp) (a:Addr) (ns:List Int),ns.length<=n->l9 H->Gq (K w.params) H a (ns.map V.int)->sp w [.ref a] H (λv _=>v=.bl true) λ_ _ _=>False)
  (Tp:∀(w:World) (H:Hp) (s:zz8) (e:zz9) (s':zz8),CX w [] H s (λ_ _ _=>False) e s'->False) :
  PySem.W.WalkO q loose XP YP l.row.toRowW d [] (λf vs=>PySem.call f vs):=by
 refine Att.BJ hn OU λw s₀ s₁ mg mb fa o pm cd doc a vs ns G Y ho hd Ip MC Mz hints Gs hg=>?_;have KX:=hY w _ Y;obtain⟨fd,hb,hF⟩:=F w mg fa _ KX G.T.g MC;exact wW KX G.T.g G.T.b G.T.builtins G.T.nolimit hg Mz hints (CB Gs VB) hr hF hb (λH hO hS=>IK w H a ns Gs hO hS) λH e s'=>Tp w H s₁ e s'
end L2
/- THE aaQ Qx (shape;LID,My.* are Ul):
  My.Adr: a structure of Uv addresses Xn WE Va names (classes,Nb);My.Txt K t: a structure (Prop) of Uv equations over K;
  My.txt_mk:{K}{implicit addresses ..} (e1:nsIn K mainGlobals "law"=some (some (.ref f))) (e2:K.lookup f=some ⟨oc,od,.func (fnOf "law" "law" params body scope dV kV doc pm an GL ct),sl⟩) (e3:codeIn K GL "law"=true) ..:∃t,My.Txt K t
set_option maxRecDepth 100000 in
set_option maxHeartbeats 0 in
theorem PySem.Challenge.cw_LID_holds : PySem.Challenge.rw_LID.Holds := by
 w_on;o_law;k_head;(case hw=>w_witness2)
 k_fill
 refine L2.BL (l:=PySem.Challenge.rw_LID) (n:=63) (k:=40) (x:="script") (CX:=λw=>..) (sp:=λ_=>My.sp_law) rfl (by decide) rfl ⟨rfl,by decide,by decide⟩ (λw h Y=>PySem.W.kIn_of Y) ?F ?S ?C
 case F =>
  intro w mg fa h KX G MC;have T:∃t,My.Txt (L2.KOf KX) t:=by
   dsimp only [L2.KOf]
   refine' My.txt_mk ?e1 ?e2 ?e3 ..
   (case e1=>PySem.W.k_is)
   (case e2=>PySem.W.k_is)
   ..
  obtain⟨t,T⟩:=T;have e0:=MC.symm.trans (Dl KX G T.law);cases e0;exact⟨_,λs u=>.of_eq rfl,λbase kb nb=>My.law_fn T kb nb⟩
 case S=>exact λw H a ns hl hO hS=>..
 case C=>exact ..
(Uv tactic k_is has no namespace: write k_is) -/
namespace L2
open PySem PySem.Spec PyProof.Rows
def dW (s:Stmt):Arguments:=match s with
 | .FunctionDef _ a _ _ _ _ _ _ _ _=>a
 | _=>{ posonlyargs:=[],args:=[],vararg:=none,kwonlyargs:=[],kw_defaults:=[],kwarg:=none,defaults:=[] }
def dh (s:Stmt):List Stmt:=match s with
 | .FunctionDef _ _ b _ _ _ _ _ _ _=>b
 | _=>[]
def aH (s:Stmt):Scope:=match s with
 | .FunctionDef _ _ _ _ _ _ sc _ _ _=>sc
 | _=>{ kind:=.function,names:=[],isGenerator:=false,isCoroutine:=false }
abbrev GB:Ht:=λ_ _ _ _ _ _=>False
abbrev E0:XK:=λ_ _ _=>False
theorem rH {X:Cx}:fP GB X E0:=λ_ _ _ _ _ _ _ h=>h.elim
structure Gy (K:zz7) (x qual:Str) (st:Stmt) (f:Addr) (fd:FuncData):Prop where
 ex:∃(oc:zz9) (od:Option Addr) (kV doc pm:zz9) (an:Option Addr) (GL ct:zz9) (Jm:Array (Option zz9)),
  fd=PySem.W.fnOf x qual (dW st) (dh st) (aH st) .none kV doc pm an GL ct/\K.lookup f=some ⟨oc,od,.func fd,Jm⟩/\PySem.W.codeIn K GL qual=true
 kp:PySem.W.keepIn K (.ref f)=true
variable {P:Program}{w:World}{K:zz7}{mg:Str->Option zz9}{base:Heap}{f:Addr}{fd:FuncData}
theorem Gy.ok {x qual:Str}{st:Stmt}{f:Addr}{fd:FuncData}{N ps:List Str}{k:Nat}{sp:Sp} (F:Gy K x qual st f fd) (S:aV N ps (aH st)) (len:∀vs H Q E,sp vs H Q E->vs.length=ps.length)
  (GZ:∀(GL:zz9) (A:Around) (outer:List Env) (s:zz8) (H:Hp) (vs:List V) (Q:VK) (E:XK),aT k (A.deeper (envOfC qual (aH st) s.heap.objs.size f GL))->sp vs H Q E ->
   ∃t,Ig (cN GB P w K mg base N qual (aH st) f GL A outer s H E).nox (dh st) t/\t { nx:=λ_ H'=>Q .non H',rt:=Q } (start N vs) H):au P w K mg base GB (k + 1) f fd ps sp:=by
 obtain⟨oc,od,kV,doc,pm,an,GL,ct,Jm,rfl,lk,Ip⟩:=F.ex;refine rp lk Ip S len λA outer s H vs Q E hr IK=>?_;obtain⟨t,h,q⟩:=GZ GL A outer s H vs Q E hr IK;exact⟨t,h.nox,q⟩
theorem Gy.binds {x qual:Str}{st:Stmt}{f:Addr}{fd:FuncData}{ps:List Str} (F:Gy K x qual st f fd)
  (h:∀(kV doc pm:zz9) (an:Option Addr) (GL ct:zz9) (us:List zz9),us.length=ps.length->bindArgs (PySem.W.fnOf x qual (dW st) (dh st) (aH st) .none kV doc pm an GL ct) ⟨us,[]⟩=pure (ps.zip us)):Binds K fd ps []:=by
 obtain⟨oc,od,kV,doc,pm,an,GL,ct,Jm,rfl,lk,Ip⟩:=F.ex;exact .all (h kV doc pm an GL ct)
theorem jv {x qual:Str}{st:Stmt}{f:Addr}{oc:zz9}{od an:Option Addr}{Jm:Array (Option zz9)}{kV doc pm GL ct:zz9} (l:K.lookup f=some ⟨oc,od,.func (PySem.W.fnOf x qual (dW st) (dh st) (aH st) .none kV doc pm an GL ct),Jm⟩)
  (c:PySem.W.codeIn K GL qual=true) (k:PySem.W.keepIn K (.ref f)=true):Gy K x qual st f (PySem.W.fnOf x qual (dW st) (dh st) (aH st) .none kV doc pm an GL ct):=⟨⟨oc,od,kV,doc,pm,an,GL,ct,Jm,rfl,l,c⟩,k⟩
theorem vC {n:Nat} (h:n<=1000):n < sizeLine:=FJ h (by decide)
section
variable {X:Cx}
theorem pv (i:Nat) {x:Str}{pos:Pos} (hN:X.N[i]?=some x:=by rfl) (hv:Qw X.env.scope x:=by first | exact Or.inl rfl | exact Or.inr (Or.inl rfl) | exact Or.inr (Or.inr rfl)) (hd:(x == ("__debug__":Str))=false:=by decide)
  (Ip:(x == ("__classdict__":Str))=false:=by decide):PE X (.Name x pos) (bv i):=zx hN hv hd Ip
end
theorem aL {A B:Prop} (h:B):if false=true then A else B:=by
 rw [if_neg Cs];exact h
theorem aB {A B:Prop} (h:A):if true=true then A else B:=by
 rw [if_pos rfl];exact h
theorem bJ {c A B:Prop} [Decidable c] (h1:c->A) (h2:¬ c->B):if c then A else B:=by
 by_cases h:c
 ·rw [if_pos h]
  exact h1 h
 ·rw [if_neg h]
  exact h2 h
theorem d9 {c A B:Prop} [Decidable c] (hc:c) (h:B):if (!decide c)=true then A else B:=by
 rw [decide_eq_true hc];exact aL h
def ag (H H':Hp):Prop:=∀b o,H b=some o->H' b=some o
theorem ag.refl (H:Hp):ag H H:=λ_ _ h=>h
theorem ag.trans {H H1 H2:Hp} (a:ag H H1) (b:ag H1 H2):ag H H2:=λc o h=>b c o (a c o h)
theorem ag.free {H H':Hp} (e:ag H H') {l:Addr} (h:H' l=Option.none):H l=Option.none:=by
 cases q:H l with
 | none=>rfl
 | some o =>
  rw [e l o q] at h;cases h
theorem ag.seq {K:zz7}{H H':Hp}{a:Addr}{xs:List V} (e:ag H H') (h:Gq K H a xs):Gq K H' a xs:=by
 rcases h with (h | ⟨o,h⟩) | h
 ·exact .inl (.inl (e _ _ h))
 ·exact .inl (.inr ⟨o,e _ _ h⟩)
 ·exact .inr h
def cE (env:Env):List (Str×NameKind)->List (Str×Addr)->List (Str×Addr)
 | [],GG=>GG
 | (x,k)::r,GG=>if (k == NameKind.free)=true then (match env.cells.lookup x with | some c=>cE env r ((x,c)::GG) | none=>cE env r GG) else cE env r GG
theorem iS (env:Env):∀(ns:List (Str×NameKind)) (GG:List (Str×Addr)) (x:Str) (c:Addr),(x,c)∈cE env ns GG->(x,c)∈GG\/env.cells.lookup x=some c
 | [],GG,x,c,h=>.inl h
 | (y,k)::r,GG,x,c,h=>by
  unfold cE at h;split at h
  ·split at h
   ·next d e =>
    rcases iS env r _ x c h with z | z
    ·rcases Ci.mp z with q | q
     ·cases q;exact .inr e
     ·exact .inl q
    ·exact .inr z
   ·exact iS env r GG x c h
  ·exact iS env r GG x c h
theorem iZ (env:Env):∀(ns:List (Str×NameKind)) (GG:List (Str×Addr)) (p:Str×Addr),p∈GG->p∈cE env ns GG
 | [],GG,p,h=>h
 | (y,k)::r,GG,p,h=>by
  unfold cE;split
  ·split
   ·exact iZ env r _ p (Cj _ h)
   ·exact iZ env r _ p h
  ·exact iZ env r _ p h
theorem i3 (env:Env):∀(ns:List (Str×NameKind)) (GG:List (Str×Addr)) (x:Str) (c:Addr),(x,NameKind.free)∈ns->env.cells.lookup x=some c->(x,c)∈cE env ns GG
 | [],GG,x,c,h,_=>nomatch h
 | (y,k)::r,GG,x,c,h,e=>by
  unfold cE
  rcases Ci.mp h with q | q
  ·cases q
   rw [if_pos (show (NameKind.free == NameKind.free)=true from rfl),e];exact iZ env r _ _ Cf
  ·split
   ·split
    ·exact i3 env r _ x c q e
    ·exact i3 env r _ x c q e
   ·exact i3 env r _ x c q e
theorem wB {l:List (Str×Addr)}{x:Str}{c:Addr} (h:(x,c)∈l):∃d,l.lookup x=some d:=by
 induction l with
 | nil=>cases h
 | cons p r ih =>
  obtain⟨y,d⟩:=p;rw [Eg];cases hx:x == y with
  | true=>exact⟨d,rfl⟩
  | false =>
   rcases Ci.mp h with q | q
   ·cases q
    rw [beq_self_eq_true] at hx;cases hx
   ·exact ih q
theorem eE {env:Env}{ns:List (Str×NameKind)}{x:Str}{c:Addr} (h:(cE env ns []).lookup x=some c):env.cells.lookup x=some c:=by
 rcases iS env ns [] x c (C9 h) with z | z
 ·cases z
 ·exact z
theorem nS {env:Env}{ns:List (Str×NameKind)}{x:Str}{c:Addr} (h:(x,NameKind.free)∈ns) (e:env.cells.lookup x=some c):(cE env ns []).lookup x=some c:=by
 obtain⟨d,q⟩:=wB (i3 env ns [] x c h e);rw [q,<- eE q,e]
theorem ur {env:Env}{scope:Scope} (h:∀x∈scope.names,x.2=NameKind.free->∃c,env.cells.lookup x.1=some c):closureFor scope env=pure (cE env scope.names []):=by
 have go:∀(ns:List (Str×NameKind)) (GG:List (Str×Addr)),(∀x∈ns,x.2=NameKind.free->∃c,env.cells.lookup x.1=some c) ->
   (forIn ns GG (λx cs=>match x with | (name,kind)=>if (kind == NameKind.free)=true then (do let c <- cellOf env name;pure (ForInStep.yield ((name,c)::cs))) else pure (ForInStep.yield cs)):Sem (List (Str×Addr)))=pure (cE env ns GG):=by
  intro ns
  induction ns with
  | nil=>intro GG _;rfl
  | cons p r ih =>
   intro GG hh;obtain⟨y,k⟩:=p;rw [Fw];unfold cE
   by_cases hk:(k == NameKind.free)=true
   ·rw [if_pos hk]
    obtain⟨c,e⟩:=hh (y,k) Cf (by cases k <;> first | rfl | cases hk)
    dsimp only at e ⊢
    rw [if_pos hk];unfold cellOf;rw [e];exact ih _ λx hx=>hh x (Cj _ hx)
   ·rw [if_neg hk]
    dsimp only
    rw [if_neg hk];exact ih _ λx hx=>hh x (Cj _ hx)
 unfold closureFor;have q:=go scope.names [] h;simp only [bind_pure];exact q
def be (X:Cx) (scope:Scope) (N:List Str) (C:Addr) (s0:zz8) (H0:Hp) (fp:List Addr):Cx :=
 { X with N:=N,s₀:=s0,H₀:=H0,env:=compEnvC scope (cE X.env scope.names []) C X.env,outer:=X.stack,stack:=X.stack,ex:=fp,fn:=λ_=>false,pn:=[],xe:=λ_ _=>False }
def Jf (ix:List (Option Nat)) (σ:St):St:=ix.map λo=>match o with | none=>none | some j=>(σ[j]?).join
def lH (No:List Str) (out:Str->Option NameKind) (scope:Scope) (N:List Str) (ix:List (Option Nat)):Bool :=
 (N.length == ix.length) && (N.zip ix).all λp=>match p.2 with | none=>true | some j=>(No[j]? == some p.1) && (scope.names.lookup p.1 == some NameKind.free) && ((out p.1 == some .cell) || (out p.1 == some .free))
structure cw (X:Cx) (scope:Scope) (N:List Str) (ix:List (Option Nat)):Prop where
 kind:scope.kind=.function
 names:scope.names.all (λx=>(x.2 != .cell) && ((x.2 != .local) || (scope.names.lookup x.1 == some .local)) && ((x.2 != .free) || (X.env.kindOf x.1 == some .cell) || (X.env.kindOf x.1 == some .free)))=true
 em:lH X.N X.env.kindOf scope N ix=true
 nd:N.Nodup
theorem lM {scope:Scope}{env:Env}{x:Str}{k:NameKind}:∀{ns:List (Str×NameKind)},(ns.map λ(n,k)=>if (k == NameKind.free && env.scope.kind == .function && env.kindOf n == some .cell)=true then (n,NameKind.cell) else (n,k)).lookup x=some k ->
  (k=.cell\/k=.free)->(∀y∈ns,y.2≠.cell)->(x,NameKind.free)∈ns
 | [],h,_,_=>by cases h
 | (n,k')::r,h,hk,hc=>by
  have ih:=λh'=>lM (scope:=scope) (env:=env) (x:=x) (k:=k) (ns:=r) h' hk λy hy=>hc y (Cj _ hy);have key:∀PZ:NameKind,List.lookup x ((n,PZ)::(r.map λ(n,k)=>if (k == NameKind.free && env.scope.kind == .function && env.kindOf n == some .cell)=true then (n,NameKind.cell) else (n,k)))=some k ->
    (PZ=k'\/(PZ=.cell/\k'=.free))->(x,NameKind.free)∈(n,k')::r:=λPZ h hq=>by
   rw [Eg] at h;cases hx:x == n with
   | true =>
    rw [hx] at h;cases h;have e:x=n:=eq_of_beq hx;subst e
    rcases hq with q | ⟨_,q⟩
    ·rcases hk with z | z
     ·exact absurd (q.symm.trans z) (hc (x,k') Cf)
     ·rw [<- q,z];exact Cf
    ·rw [q];exact Cf
   | false =>
    rw [hx] at h;exact Cj _ (ih h)
  rw [CD] at h
  dsimp only at h
  split at h
  ·next hh =>
   refine key _ h (.inr ⟨rfl,?_⟩);cases k' <;> first | rfl | (simp at hh)
  ·exact key _ h (.inl rfl)
theorem qY {env:Env}{x:Str}:∀{ns:List (Str×NameKind)},ns.lookup x=some NameKind.free->∃k,(k=NameKind.cell\/k=NameKind.free) /\
  (ns.map λ(n,k)=>if (k == NameKind.free && env.scope.kind == .function && env.kindOf n == some .cell)=true then (n,NameKind.cell) else (n,k)).lookup x=some k
 | [],h=>by cases h
 | (n,k')::r,h=>by
  rw [Eg] at h;rw [CD]
  dsimp only
  cases hx:x == n with
  | true =>
   rw [hx] at h;cases h;split
   ·exact⟨_,.inl rfl,by rw [Eg,hx]⟩
   ·exact⟨_,.inr rfl,by rw [Eg,hx]⟩
  | false =>
   rw [hx] at h;obtain⟨k,hk,e⟩:=qY (env:=env) (ns:=r) h;refine⟨k,hk,?_⟩;split <;> (rw [Eg,hx];exact e)
section
variable {X:Cx}{scope:Scope}{N:List Str}{ix:List (Option Nat)}
theorem cw.nocell (L:cw X scope N ix):∀x∈scope.names,x.2≠.cell:=λx hx z=>by
 have q:=CY.mp L.names x hx;rw [z] at q;simp at q
theorem cw.locals (L:cw X scope N ix):∀x∈scope.names,x.2=.local->scope.names.lookup x.1=some .local:=λx hx z=>by
 have q:=CY.mp L.names x hx;rw [z] at q;simpa using q
theorem cw.frees (L:cw X scope N ix):∀x∈scope.names,x.2=.free->X.env.kindOf x.1=some .cell\/X.env.kindOf x.1=some .free:=λx hx z=>by
 have q:=CY.mp L.names x hx;rw [z] at q;simpa using q
theorem cw.clos (L:cw X scope N ix) (ok:X.Ok):closureFor scope X.env=pure (cE X.env scope.names []) :=
 ur λx hx z=>ok.has _ (L.frees x hx z)
theorem cw.len (L:cw X scope N ix):N.length=ix.length:=by
 have q:=L.em;unfold lH at q;rw [CK] at q;exact eq_of_beq q.1
theorem cw.out (L:cw X scope N ix) {i j:Nat}{x:Str} (h1:N[i]?=some x) (h2:ix[i]?=some (some j)):X.N[j]?=some x/\scope.names.lookup x=some NameKind.free/\(X.env.kindOf x=some .cell\/X.env.kindOf x=some .free):=by
 have q:=L.em;unfold lH at q;rw [CK] at q;have hz:(N.zip ix)[i]?=some (x,some j):=by
  rw [List.getElem?_zip_eq_some];exact⟨h1,h2⟩
 have r:=CY.mp q.2 _ (Cb hz);simp only [CK,Bool.or_eq_true,beq_iff_eq] at r;exact⟨r.1.1,r.1.2,r.2⟩
theorem AG (L:cw X scope N ix) {pins:List (Addr×Obj)}{σ:St}{H2:Hp}{s2:zz8}{C:Addr}{fp:List Addr} (I2:Inv X pins σ H2 s2) (hC:s2.heap.objs.size<=C) (hf:∀b∈fp,cj X pins H2 b) (hb:∀b∈fp,b < s2.heap.objs.size) :
  (be X scope N C s2 H2 fp).Ok where
 mod:=I2.ok.mod
 kind:=L.kind
 glob:=I2.ok.glob
 blt:=I2.ok.blt
 above:=hC
 inj:=λx y c h1 h2=>I2.ok.inj x y c (eE h1) (eE h2)
 has:=λx hx=>by
  have hm:(x,NameKind.free)∈scope.names:=by
   rcases hx with hx | hx
   ·exact lM (scope:=scope) (env:=X.env) hx (.inl rfl) L.nocell
   ·exact lM (scope:=scope) (env:=X.env) hx (.inr rfl) L.nocell
  obtain⟨c,e⟩:=I2.ok.has x (L.frees _ hm rfl);exact⟨c,nS hm e⟩
 cab:=λx c h _=>Bool.noConfusion h
 hd:=I2.ok.hd
 frames:=I2.ok.frames
 stk:=.inl rfl
 exf:=λb h=>⟨CU (CC (hb b h) hC),λx c e=>(hf b h).2.2.2.2.1 x c (eE e)⟩
 bs:=λb o e=>I2.bs b o e
 bsz:=CB I2.ok.bsz I2.sz
 noex:=λb o e h=>by
  rcases (hf b h).2.2.2.1 with z | z
  ·exact I2.ok.noex b o e z
  ·exact absurd (CC (Cp e) (CB I2.ok.bsz z)) (DI _)
 exfs:=λb h z=>(Ci.mp (I2.stkSub b z)).elim (hf b h).2.1 (hf b h).2.2.1
 funs:=I2.stack
 frf:=λb h=>I2.stkFree b h
end
def MM (X:Cx) (ifs:List Expr) (t:TT):Prop :=
 ∀(pins:List (Addr×Obj)) (s:zz8) (σ:St) (H:Hp) (Q:Bool->Hp->Prop),Inv X pins σ H s->t σ H Q ->
  wpAny (model X.prog X.w) X.A (forIn ifs true λc r=>if r=true then do let ok <- isTrue c X.env (eval c X.env);pure (ForInStep.yield ok) else pure (ForInStep.yield r)) (TP X pins σ Q) X.xe s
def cu:TT:=λ_ H Q=>Q true H
theorem bR {X:Cx}:MM X [] cu:=λ_ _ _ H _ I h=>wpAny_tests_nil ⟨H,I,h⟩
theorem dU {X:Cx}{c:Expr}{t:TT} (h:PT X c t):MM X [c] t:=λpins s σ H Q I q=>wpAny_tests_one (h pins s σ H Q I q)
section
variable {prog:Program}{w:World}{A:Around}{R:Result->zz8->Prop}{s:zz8}
theorem xg {elt tg iter:Expr}{ifs:List Expr}{scope:Scope}{pos:Pos}{it GG:zz9}{env:Env} (J:Nat->zz8->Prop)
  (turn:∀n s,J n s->wpAny (model prog w) A (pyNext it) (λr s1=>match r with
   | none=>R (.ok .next) s1
   | some v=>wpAny (model prog w) A (letOwnedTupleGo tg it v) (λ_ s2=>wpAny (model prog w) A (assign tg env v) (λ_ s3 =>
     wpAny (model prog w) A (forIn ifs true λc r=>if r=true then do let ok <- isTrue c env (eval c env);pure (ForInStep.yield ok) else pure (ForInStep.yield r)) (λok s4 =>
      if ok=true then wpAny (model prog w) A (eval elt env) (λx s5=>wpAny (model prog w) A (call (.builtin "list.append") [GG,x]) (λ_ s6=>∃m,m < n/\J m s6) (λ_ _=>False) s5) (λ_ _=>False) s4
      else ∃m,m < n/\J m s4) (λ_ _=>False) s3) (λ_ _=>False) s2) (λ_ _=>False) s1) (λ_ _=>False) s)
  (n:Nat) (h:J n s):codeAny (model prog w) A (.compLoop (.ListComp elt [⟨tg,iter,ifs,0⟩] scope pos) 0 it GG env) R s:=by
 refine codeAny_loop rfl J (λk t hJ=>?_) n h;show wpAny _ A ((compTurn (.ListComp elt [⟨tg,iter,ifs,0⟩] scope pos) 0 it GG env).onRaise (λx=>do noteFrame x env;theTreesLotGoes x)) _ _ t;refine wpAny_noted (DD (E:=λ_ _=>False) ?_ (λ_ _ q=>q) λ_ _ f=>f.elim);rw [compTurn_list];refine B6 (EC (B6 (Gu (turn k t hJ) λr s1 h1=>?_)));cases r with
 | none=>exact B9 h1
 | some v =>
  refine B6 (Gu h1 λ_ s2 h2=>B6 (Gu h2 λ_ s3 h3=>B6 (Gu h3 λok s4 h4=>?_)));cases ok with
  | false=>exact B9 ⟨rfl,h4⟩
  | true=>exact B6 (B6 (Gu h4 λx s5 h5=>B6 (Gu h5 λ_ s6 h6=>B9 (B9 ⟨rfl,h6⟩))))
end
def HC (J:It) (g:TG) (tt:TT) (te:TE) (σ':St) (fin:List V->Hp->Prop) (H1:Hp):Prop :=
 ∃W:Nat->Nat->List V->St->Hp->Prop,(∃m,W 0 m [] σ' H1)/\∀i m ys σ H,W i m ys σ H ->
  (J.stop i H/\ys.length<=sizeLine/\fin ys H)\/(J.go i H/\ys.length < sizeLine/\∃Nx:List V->St->Hp->Prop,(∀Kk σ' H',Nx Kk σ' H'->∃m',m' < m/\W (i + 1) m' Kk σ' H') /\
   ∀x H',J.yld i H x H'->g x σ H' λσ2 H2=>tt σ2 H2 λb H3=>if b=true then te σ2 H3 (λv H4=>Nx (ys++[v]) σ2 H4) else Nx ys σ2 H3)
def Ux (wi:TI) (g:TG) (tt:TT) (te:TE) (ix:List (Option Nat)):TE:=λσ H Q=>wi σ H λJ H1=>HC J g tt te (Jf ix σ) (λys H'=>∀p,H' p=none->Q (.ref p) (upd H' p (.lst ys))) H1
section
variable {X:Cx}{scope:Scope}{N:List Str}{ix:List (Option Nat)}
theorem zF {pins pins':List (Addr×Obj)}{σ σ':St}{H2 H':Hp}{s2 s':zz8}{C D:Addr}{fp:List Addr}{ys:List V}{Gm:List zz9}{k:Nat}{h':Heap} (I2:Inv X pins σ H2 s2) (hf:∀b∈fp,cj X pins H2 b)
  (I':Inv (be X scope N C s2 H2 fp) pins' σ' H' s') (hC:s2.heap.objs.size<=C) (hD:s2.heap.objs.size<=D) (Kc:D≠C) (hn:H' D=none) (ho:s'.heap.get? D=some { cls:=.type "list",data:=.seq Gm.toArray k }) (rv:aC ys Gm) (hz:ys.length<=sizeLine)
  (hs:∀b o,b≠C->s'.heap.get? b=some o->h'.get? b=some o):Inv X pins σ (upd H' D (.lst ys)) { s' with heap:=h' }:=by
 have B:Un (GR X.stack) fp H2 H' s2.heap s'.heap:=I'.base;have Ij:∀b o,s2.heap.get? b=some o->b≠C:=λb o e=>CU (CC (Cp e) hC);have PV:∀b o,s2.heap.get? b=some o->b≠D:=λb o e=>CU (CC (Cp e) hD);have To:H' C=none:=I'.free;have tD:∀b u,H' b=some u->b≠D:=λb u e=>bh e hn;have tC:∀b u,H' b=some u->b≠C:=λb u e=>bh e To;refine I2.call' (s':={ s' with heap:=h' }) (ch:=fp) I'.os ⟨λb o e n hb hx=>?_,λb o e n hb hx=>?_,λb o e n hx=>?_,λb o e hx=>?_,λb xs e=>?_,λb o u e=>?_,λb ps e=>?_⟩ (λb u e=>?_) I'.bare λb hb=>⟨(hf b hb).2.2.2.1,(hf b hb).2.1,(hf b hb).2.2.2.2.1,(hf b hb).2.2.2.2.2⟩
 ·exact hs b o (Ij b o e) (B.keep b o e n hb hx)
 ·obtain⟨sl,q⟩:=B.slot b o e n hb hx
  exact⟨sl,hs b _ (Ij b o e) q⟩
 ·rw [av (PV b o e)];exact B.free b o e n hx
 ·obtain⟨o',q⟩:=B.there b o e hx
  exact⟨o',hs b o' (Ij b o e) q⟩
 ·rw [av (tD b _ (B.tups b xs e))];exact B.tups b xs e
 ·rw [av (tD b _ (B.frzs b o u e))];exact B.frzs b o u e
 ·obtain⟨m,q⟩:=B.tbls b ps e
  exact⟨m,by rw [av (tD b _ q)];exact q⟩
 ·by_cases hb:b=D
  ·subst hb
   rw [ak] at e;cases e;exact⟨hz,Gm,k,rv,hs b _ Kc ho⟩
  ·rw [av hb] at e
   refine (I'.hok b u e).stay (λc v hc q=>hs c v ?_ q) (λc q=>by rw [av (tD c _ q)];exact q) λc xs q=>by rw [av (tD c _ q)];exact q
   rcases hc with z | z
   ·rw [z];exact tC b u e
   ·exact tC c _ z
theorem rF (L:cw X scope N ix) {pins:List (Addr×Obj)}{σ:St}{H2:Hp}{s2:zz8}{C:Addr}{fp:List Addr}{h1:Heap}{tk:Nat}{m:Str->Option zz9} (I2:Inv X pins σ H2 s2) (hC:s2.heap.objs.size<=C) (hf:∀b∈fp,cj X pins H2 b) (hb:∀b∈fp,b < s2.heap.objs.size)
  (kp:∀b o,s2.heap.get? b=some o->h1.get? b=some o) (hn:h1.Ns C m):Inv (be X scope N C s2 H2 fp) [] (Jf ix σ) H2 { s2 with heap:=h1,toks:=tk }:=by
 refine⟨AG L I2 hC hf hb,rfl,I2.bare,Un.kept kp,⟨m,hn,λi x v e1 e2 e3=>?_⟩,λx c e=>?_,I2.hok.fresh hC,λx c e=>I2.freeC x c (eE e),λp hp=>absurd (show p∈([]:List (Addr×Obj)) from hp) (by simp),I2.hok.kept kp,?_⟩
 ·unfold Jf at e2
  rw [Cd] at e2;cases q:ix[i]? with
  | none=>rw [q] at e2;cases e2
  | some o =>
   rw [q] at e2;cases o with
   | none=>cases e2
   | some j =>
    have Nd:(σ[j]?).join=some v:=CZ e2;have e4:σ[j]?=some (some v):=by
     cases z:σ[j]? with
     | none=>rw [z] at Nd;cases Nd
     | some y=>rw [z] at Nd;exact congrArg some Nd
    obtain⟨a1,a2,a3⟩:=L.out e1 q;obtain⟨mo,_,hl⟩:=I2.loc;obtain⟨u,r,lk⟩:=hl j x v a1 e4 (.inr a3);refine⟨u,r,?_⟩
    rcases lk with ⟨k,_⟩ | ⟨k,c,e,o,ho,hd⟩
    ·rcases a3 with z | z
     ·rw [z] at k;cases k
     ·rw [z] at k;cases k
    ·obtain⟨k',MD,e'⟩:=qY (env:=X.env) a2
     refine .inr ⟨?_,c,nS (C9 a2) e,o,kp _ _ ho,hd⟩
     rcases MD with z | z
     ·subst z;exact .inl e'
     ·subst z;exact .inr e'
 ·obtain⟨v,o,ho,hd⟩:=I2.cell x c (eE e)
  exact⟨v,o,kp _ _ ho,hd⟩
 ·unfold Jf
  rw [B8];exact L.len.symm
variable {tg iter elt:Expr}{ifs:List Expr}{pos:Pos}{g:TG}{tt:TT}{te:TE}
theorem qZ (L:cw X scope N ix) (hc:X.calm=true) (hg:∀C s0 H0 fp,PG (be X scope N C s0 H0 fp) tg g) (ht:∀C s0 H0 fp,MM (be X scope N C s0 H0 fp) ifs tt) (he:∀C s0 H0 fp,PE (be X scope N C s0 H0 fp) elt te)
  {pins:List (Addr×Obj)}{σ:St}{H2:Hp}{s2:zz8}{it:Addr}{fp:List Addr}{tn:Nat->Heap->Prop}{J:It}{fin:List V->Hp->Prop}{E:zz9->zz8->Prop}{RR:zz9->Addr->Result->zz8->Prop}
  (I2:Inv X pins σ H2 s2) (T:Turn X.prog X.w X.K tg J fp it tn) (st:tn 0 s2.heap) (f2:∀b∈fp,cj X pins H2 b) (hW:HC J g tt te (Jf ix σ) fin H2)
  (Tg:∀D C s' m ys H',s'.heap.Ns C m->s'.os=s2.os->D≠C->cj X pins (upd H' D (.lst ys)) C->(∀h',Heap.SameBut C s'.heap h'->Inv X pins σ (upd H' D (.lst ys)) { s' with heap:=h' })->H' D=none->fin ys H'->RR (.ref D) C (.ok .next) s') :
  wpAny (model X.prog X.w) X.A (newList []) (λGG s3=>wpAny (model X.prog X.w) X.A (newFunctionEnv scope X.env.globals (cE X.env scope.names []) [] X.env.qual none .none (some X.env)) (λJ2 s4 =>
   codeAny (model X.prog X.w) X.A (.compStart (.ListComp elt [⟨tg,iter,ifs,0⟩] scope pos) 0 (.ref it) GG { J2 with scope:=relabel scope X.env }) (RR GG J2.locals) s4) E s3) E s2:=by
 obtain⟨W,⟨m0,w0⟩,turn⟩:=hW;have Qn:∀b∈fp,b < s2.heap.objs.size:=λb hb=>by
  obtain⟨o,e,_⟩:=T.obj _ _ st b hb;exact Cp e
 refine CS (wpAny_newFunctionEnv L.nocell (by intro y hy;simp at hy) (λh1 Ka Lz=>?_) L.kind)
 dsimp only at Ka Lz ⊢
 generalize hG:s2.heap.push { cls:=.type "list",dict:=none,data:=.seq ([]:List zz9).toArray }=G at Ka Lz ⊢;have O0:G.objs.size=s2.heap.objs.size + 1:=by rw [<- hG,DM]
 generalize Th:s2.heap.objs.size=D at O0 Qn;generalize Na:G.objs.size=C at O0 Ka Lz ⊢;have Kc:D≠C:=by omega
 have nq:∀b:Nat,b < s2.heap.objs.size->b≠C/\b≠D:=λb h=>⟨by omega,by omega⟩
 have RC:∀b∈fp,b≠C/\b≠D:=λb hb=>nq b (by rw [Th];exact Qn b hb);have kG:∀b o,s2.heap.get? b=some o->G.get? b=some o:=λb o e=>by rw [<- hG];exact Ce _ e
 have kp:∀b o,s2.heap.get? b=some o->h1.get? b=some o:=λb o e=>Lz.extBut b o (nq b (Cp e)).1 (Ce _ (kG b o e));have oD:∃n,h1.get? D=some { cls:=.type "list",data:=.seq ([]:List zz9).toArray n }:=⟨_,Lz.extBut _ _ Kc (Ce _ (by rw [<- hG,<- Th];exact Cy _ rfl))⟩
 have I4:=rF L (tk:=s2.toks + ([]:List (Str×zz9)).length) I2 (C:=C) (by omega) f2 (by rw [Th];exact Qn) kp Ka;have NW:tn 0 h1:=T.keep _ _ _ st λb _ o e=>kp b o e;have ZP:D∉(be X scope N C s2 H2 fp).fs:=λz=>by
  have z':D∈GR X.stack:=z
  rcases Ci.mp (I2.stkSub D z') with q | q
  ·exact (nq _ I2.lt).2 q.symm
  ·exact I2.nofs (a:=D) (by omega) q
 have Pb:∀x c,(be X scope N C s2 H2 fp).env.cells.lookup x=some c->c≠D:=λx c e z=>by
  obtain⟨v,o,ho,_⟩:=I2.cell x c (eE e);exact (nq c (Cp ho)).2 z
 have stat:∀{H':Hp}{pl:List (Addr×Obj)},(∀b∈fp,H' b=none)->(∀p∈pl,p.1=D)->∀b∈fp,cj (be X scope N C s2 H2 fp) pl H' b:=λ{H' pl} hn hp b hb=>by
  have GO:=Qn b hb;refine⟨hn b hb,(RC b hb).1,λz=>?_,.inl hb,λx c e=>(f2 b hb).2.2.2.2.1 x c (eE e),λp hq z=>?_⟩
  ·exact (Ci.mp (I2.stkSub b z)).elim (f2 b hb).2.1 (f2 b hb).2.2.1
  ·have Iy:p∈pl:=by simpa [be] using hq
   exact (RC b hb).2 (z.symm.trans (hp p Iy))
 have Od:∀{pl:List (Addr×Obj)}{σ':St}{H':Hp}{s':zz8}{o:Obj},Inv (be X scope N C s2 H2 fp) pl σ' H' s'->s'.heap.get? D=some o->H' D=none->(∀v,o.data≠.cell v)->Inv (be X scope N C s2 H2 fp) [(D,o)] σ' H' s' :=
  λ{pl σ' H' s' o} I' ho hn hd=>I'.pins_of λp hp=>by
   have e:p=(D,o):=by simpa using hp
   subst e;exact⟨ho,hn,Kc,ZP,hd⟩
 have loop:∀s4:zz8,s4={ s2 with heap:=h1,toks:=s2.toks + ([]:List (Str×zz9)).length } ->
   codeAny (model X.prog X.w) X.A (.compLoop (.ListComp elt [⟨tg,iter,ifs,0⟩] scope pos) 0 (.ref it) (.ref D) (be X scope N C s2 H2 fp).env) (RR (.ref D) C) s4:=by
  rintro s4 rfl;refine xg (λn s'=>∃i σ' H' ys Gm k,Inv (be X scope N C s2 H2 fp) [(D,{ cls:=.type "list",data:=.seq Gm.toArray k })] σ' H' s'/\tn i s'.heap/\(∀b∈fp,H' b=none)/\aC ys Gm/\W i n ys σ' H') ?_ m0 ?_
  ·rintro n s' ⟨i,σ',H',ys,Gm,k,I',G9,O5,rv,w'⟩
   have hD':=I'.pin _ (Cv _ Cf)
   rcases turn i n ys σ' H' w' with ⟨stop,hz,qf⟩ | ⟨go,hz,Nx,hN,step⟩
   ·refine Gu (T.done (be X scope N C s2 H2 fp) rfl rfl rfl hc i _ s' σ' H' _ I' (stat O5 (by simp)) G9 stop) λr s5 ⟨hr,I5⟩=>?_
    subst hr;have Tn:=I5.pin _ (Cv _ Cf);obtain⟨m5,SN,_⟩:=I5.loc;refine Tg D C s5 m5 ys H' SN I5.os Kc (I2.fpOk (by omega) (by rw [av (Dy Kc)];exact I5.free)) (λh' Iw=>?_) Tn.2.1 qf;exact zF I2 f2 I5 (by omega) (by omega) Kc Tn.2.1 Tn.1 rv hz λb o hb e=>Iw.extBut b o hb e
   ·refine Gu (T.item (be X scope N C s2 H2 fp) rfl rfl rfl hc i _ s' σ' H' _ I' (stat O5 (by simp)) G9 go) λr s5 ⟨u,hr,h5⟩=>?_
    subst hr;refine Gu h5 λ_ s6 ⟨x,H6,I6,r6,y6,Mb,Tu⟩=>?_;have Ud:=I6.pinned (stat Tu (by simp)) (T.obj _ _ Mb);refine Gu (hg C s2 H2 fp _ s6 σ' H6 x u _ Ud r6 (step x H6 y6)) λ_ s7 ⟨σ7,H7,I7,q7⟩=>?_;refine Gu (ht C s2 H2 fp _ s7 σ7 H7 _ I7 q7) λok s8 ⟨H8,I8,q8⟩=>?_;have back:∀{H9:Hp}{s9:zz8},Inv (be X scope N C s2 H2 fp) ([(D,{ cls:=.type "list",data:=.seq Gm.toArray k })]++gA fp s6.heap) σ7 H9 s9->tn (i + 1) s9.heap/\∀b∈fp,H9 b=none:=λ{H9 s9} I9=>by
     refine⟨T.keep _ _ _ Mb λb hb o e=>(I9.pin (b,o) (Cv _ (Cv _ (gj hb e)))).1,λb hb=>?_⟩;obtain⟨o,e,d⟩:=T.obj _ _ Mb b hb;exact (I9.pin (b,o) (Cv _ (Cv _ (gj hb e)))).2.1
    cases ok with
    | false =>
     rw [if_neg Cs] at q8 ⊢;obtain⟨m',hm,w8⟩:=hN _ _ _ q8;obtain⟨Q5,Tt⟩:=back I8;exact⟨m',hm,i + 1,σ7,H8,ys,Gm,k,I8.unpinned,Q5,Tt,rv,w8⟩
    | true =>
     rw [if_pos rfl] at q8 ⊢;refine Gu (he C s2 H2 fp _ s8 σ7 H8 _ I8 q8) λy s9 ⟨v,H9,I9,r9,q9⟩=>?_;have Tj:=I9.pin _ (Cv _ (CM _ Cf));obtain⟨Xy,Z0⟩:=back I9;refine wpAny_list_append_plain (hsz:=by have:=rv.length;rw [Cq];omega) ⟨k,Tj.1⟩ λh' Jd Iw=>?_;obtain⟨m',hm,w9⟩:=hN _ _ _ q9;obtain⟨k',Iz⟩:=Jd;have Ue:Inv (be X scope N C s2 H2 fp) [] σ7 H9 { s9 with heap:=h' }:=(I9.pins_of (pins':=[]) λp hp=>absurd hp (by simp)).turned (t':=s9.toks) (it:=D) (λb o hb e=>Iw.extBut b o hb e) Tj.2.1 Kc (.inr (by show s2.heap.objs.size<=D;omega)) Pb (λp hp=>absurd hp (by simp [be]));refine⟨m',hm,i + 1,σ7,H9,ys++[v],Gm++[y],k',Od Ue (by rw [Iz];simp) Tj.2.1 (λv z=>by cases z),?_,Z0,rv.append (.cons r9 .nil),w9⟩;exact T.keep _ _ _ Xy λb hb o e=>Iw.extBut b o (RC b hb).2 e
  ·obtain⟨n,e⟩:=oD
   exact⟨0,Jf ix σ,H2,[],[],n,Od I4 e (I2.hok.fresh (by omega)) (λv z=>by cases z),NW,λb hb=>(f2 b hb).1,.nil,w0⟩
 have q:=loop _ rfl;exact codeAny_compStart_list q (T.self _ 0 _ _ _ NW q)
end
theorem mH {ss:List Str}:∀{us:List zz9},aC (ss.map V.str) us->StrsAre us ss:=by
 induction ss with
 | nil=>intro us r;rw [Fv] at r;cases r;exact .nil
 | cons n ns ih =>
  intro us r;rw [CD] at r;cases r with
  | cons r1 r2 =>
   obtain⟨t,e⟩:=r1;subst e;exact .cons n t (ih r2)
theorem mL:∀{vs:List zz9}{ss:List Str},StrsAre vs ss->aC (ss.map V.str) vs
 | _,_,.nil=>.nil
 | _,_,.cons n t h=>.cons ⟨t,rfl⟩ (mL h)
section
variable {X:Cx}
variable {scope:Scope}{N:List Str}{ix:List (Option Nat)}{tg iter elt:Expr}{ifs:List Expr}{pos:Pos}{g:TG}{tt:TT}{te:TE}{wi:TI}
theorem bS (L:cw X scope N ix) (hc:X.calm=true) (hi:PI X tg iter wi) (hg:∀C s0 H0 fp,PG (be X scope N C s0 H0 fp) tg g) (ht:∀C s0 H0 fp,MM (be X scope N C s0 H0 fp) ifs tt) (he:∀C s0 H0 fp,PE (be X scope N C s0 H0 fp) elt te)
  (hs:∀x,foldedSetIterable iter X.env x=pure x:=by intro _;rfl):PE X (.ListComp elt [⟨tg,iter,ifs,0⟩] scope pos) (Ux wi g tt te ix):=by
 intro pins s σ H Q I h;rw [eval_ListComp];refine EL (use:=none) rfl hs (L.clos I.ok) L.kind L.locals (Gu (hi pins s σ H _ I h) λv s1 h1=>Gu h1 λOv s2 h2=>?_);obtain⟨it,fp,tn,J,H2,rfl,I2,T,KF,f2,hW⟩:=h2;refine qZ (RR:=λGG C=>compPost (model X.prog X.w) X.A X.xe none (EP X pins σ Q) GG C) L hc hg ht he I2 T KF f2 hW ?_;intro D C s' m ys H' hn ho Kc hC hI hD fin;exact⟨m,hn,λh' Iw=>⟨.ref D,_,hI h' Iw,rfl,fin D hD⟩⟩
def qg (i:Nat) (wi:TI) (g:TG) (tt:TT) (te:TE) (ix:List (Option Nat)):TS:=λD σ H=>wi σ H λJ H1=>HC J g tt te (Jf ix σ) (λys H'=>∀p,H' p=none->D.nx (σ.set i (some (.ref p))) (upd H' p (.lst ys))) H1
theorem eJ {i:Nat}{y:Str}{py NX:Pos} (hN:X.N.Nodup) (Il:X.N[i]?=some y) (hx:Loc X.env.scope y) (L:cw X scope N ix) (hc:X.calm=true) (hi:PI X tg iter wi) (hg:∀C s0 H0 fp,PG (be X scope N C s0 H0 fp) tg g)
  (ht:∀C s0 H0 fp,MM (be X scope N C s0 H0 fp) ifs tt) (he:∀C s0 H0 fp,PE (be X scope N C s0 H0 fp) elt te)
  (Y8:swapsWith (.ListComp elt [⟨tg,iter,ifs,0⟩] scope pos) (some (.Name y py)) NX.line X.env=pure true:=by rfl) (hs:∀x,foldedSetIterable iter X.env x=pure x:=by intro _;rfl)
  (hf:X.fn y=true\/X.env.scope.names.lookup y=some .local:=by first | exact .inl rfl | exact .inr rfl | assumption) :
  PS X (.Assign [.Name y py] (.ListComp elt [⟨tg,iter,ifs,0⟩] scope pos) NX) (qg i wi g tt te ix):=by
 intro pins s σ H D I h;rw [exec_Assign_Name_used _ _ _ _ Y8];refine B6 (EC (B6 ?_));show wpAny _ X.A (do let _ <- comprehension (.ListComp elt [⟨tg,iter,ifs,0⟩] scope pos) scope X.env _ (newList []) false (eval iter X.env) (some (assign (.Name y py) X.env))) _ _ s
 refine B6 (Gu (EL (use:=some (assign (.Name y py) X.env)) (Q:=λ_ s'=>SP X pins D .next s') rfl hs (L.clos I.ok) L.kind L.locals
  (Gu (hi pins s σ H _ I h) λv s1 h1=>Gu h1 λOv s2 h2=>?_)) λ_ s' hq=>B9 (B9 hq))
 obtain⟨it,fp,tn,J,H2,rfl,I2,T,KF,f2,hW⟩:=h2;refine qZ (RR:=λGG C=>compPost (model X.prog X.w) X.A X.xe (some (assign (.Name y py) X.env)) (λ_ s'=>SP X pins D .next s') GG C) L hc hg ht he I2 T KF f2 hW ?_;intro Da C s' m ys H' hn ho Kc hC hI hD fin;have I':=hI s'.heap (Heap.SameBut.refl _ _);show wpAny _ X.A (assign (.Name y py) X.env (.ref Da)) _ _ s';refine wpAny_assign_Name (mY (v:=.ref Da) I' hN Il hx rfl (λN6 I'' ch=>?_) hf);obtain⟨a,Zc,Y0⟩:=ch;obtain⟨c1,c2,c3,c4,c5,c6⟩:=hC;have ZS:C≠a:=by
  rcases Y0 with z | z
  ·rw [z];exact c2
  ·exact λw=>c5 y a z w.symm
 refine⟨m,hn.sameBut Zc ZS,λh' Iw=>⟨_,_,I''.turned (t':=N6.toks) (it:=C) (λb o hb e=>Iw.extBut b o hb e) c1 c2 c4 c5 c6,fin Da hD⟩⟩
end
mutual
inductive DV (H:Hp):V->PyData->Prop
 | non:DV H .non .none
 | bl (b:Bool):DV H (.bl b) (.bool b)
 | int (i:Int):DV H (.int i) (.int i)
 | str (x:Str):DV H (.str x) (.str x)
 | tup {a:Addr}{xs:List V}{ds:List PyData}:H a=some (.tup xs)->Gv H xs ds->DV H (.ref a) (.tuple ds)
 | lst {a:Addr}{xs:List V}{ds:List PyData}:H a=some (.lst xs)->Gv H xs ds->DV H (.ref a) (.list ds)
inductive Gv (H:Hp):List V->List PyData->Prop
 | nil:Gv H [] []
 | cons {x:V}{d:PyData}{xs:List V}{ds:List PyData}:DV H x d->Gv H xs ds->Gv H (x::xs) (d::ds)
end
section
variable {P:Program}{w:World}{H:Hp}{h:Heap}
mutual
theorem DV.reads (ok:GU P w H h):∀{x:V}{d:PyData}{u:zz9},DV H x d->RelV x u->∃as,Reads h u d as
 | _,_,u,.non,r=>by cases (show u=Value.none from r);exact⟨_,Reads.none⟩
 | _,_,u,.bl b,r=>by cases (show u=Value.bool b from r);exact⟨_,Reads.bool b⟩
 | _,_,u,.int i,r=>by obtain⟨t,e⟩:=(show ∃t,u=Value.int i t from r);cases e;exact⟨_,Reads.int i t⟩
 | _,_,u,.str x,r=>by obtain⟨t,e⟩:=(show ∃t,u=Value.str x t from r);cases e;exact⟨_,Reads.str x t⟩
 | _,_,u,.tup (a:=a) (xs:=xs) e q,r=>by
  cases (show u=Value.ref a from r);obtain⟨_,Gm,rv,o,ho,hc,n,hd⟩:=(show bg P w H h a (.tup xs) from ok a _ e)
  obtain⟨as,z⟩:=Gv.reads ok q rv;exact⟨as,Reads.tuple ho hc hd (by simpa using z)⟩
 | _,_,u,.lst (a:=a) (xs:=xs) e q,r=>by
  cases (show u=Value.ref a from r);obtain⟨_,Gm,n,rv,ho⟩:=(show bg P w H h a (.lst xs) from ok a _ e)
  obtain⟨as,z⟩:=Gv.reads ok q rv;exact⟨_,Reads.list ho rfl rfl (by simpa using z)⟩
theorem Gv.reads (ok:GU P w H h):∀{xs:List V}{ds:List PyData}{us:List zz9},Gv H xs ds->aC xs us->∃as,ReadsAll h us ds as
 | _,_,_,.nil,.nil=>⟨_,ReadsAll.nil⟩
 | _,_,_,.cons a b,.cons r rs=>by
  obtain⟨as,p⟩:=DV.reads ok a r;obtain⟨bs,q⟩:=Gv.reads ok b rs;exact⟨_,ReadsAll.cons p q⟩
end
end
theorem Gv.strs {H:Hp}:∀ss:List Str,Gv H (ss.map V.str) (ss.map PyData.str)
 | []=>.nil
 | x::r=>.cons (.str x) (Gv.strs r)
section
variable {X:Cx}
open SeqAt in
theorem ir {k:Nat} (hr:aT k X.A):GT X (compareOp .Eq) (λx y H Q=>∃d e,DV H x d/\DV H y e/\shaped d=true/\shaped e=true/\Q (.bl (PyData.eqv d e)) H):=by
 intro pins s σ H x y v u Q I rx ry h;obtain⟨d,e,dx,dy,sd,se,q⟩:=h;obtain⟨as,r1⟩:=dx.reads I.hok rx;obtain⟨bs,r2⟩:=dy.reads I.hok ry;exact eq_dataH r1 r2 sd se hr.units ⟨.bl (PyData.eqv d e),H,I,rfl,q⟩
open SeqAt in
theorem cS {k:Nat} (hr:aT k X.A):GT X (compareOp .NotEq) (λx y H Q=>∃d e,DV H x d/\DV H y e/\shaped d=true/\shaped e=true/\Q (.bl (!PyData.eqv d e)) H):=by
 intro pins s σ H x y v u Q I rx ry h;obtain⟨d,e,dx,dy,sd,se,q⟩:=h;obtain⟨as,r1⟩:=dx.reads I.hok rx;obtain⟨bs,r2⟩:=dy.reads I.hok ry;exact ne_dataH r1 r2 sd se hr.units ⟨.bl (!PyData.eqv d e),H,I,rfl,q⟩
theorem um (bs:List Bool):((List.range bs.length).all λi=>(bs[i]?).getD true)=bs.all id:=by
 rw [Dj,CY,CY];constructor
 ·intro h b hb
  obtain⟨i,hi,e⟩:=DR.mp hb;have:=h i (DC.mpr hi);rw [B7 hi,e] at this;simpa using this
 ·intro h i hi
  have hi:=DC.mp hi;rw [B7 hi];simpa using h _ (Cu hi)
theorem eV (hc:X.calm=true):cC X (.builtin "all") (λxs H Q=>∃(p:Addr) (bs:List Bool),xs=[.ref p]/\Gq X.K H p (bs.map V.bl)/\Q (.bl (bs.all id)) H):=by
 intro pins s σ H xs us Q I r h;obtain⟨p,bs,rfl,hq,q⟩:=h;obtain⟨u,rfl,rx⟩:=vals1 r;cases rx;obtain⟨Gm,r',pl,hz⟩:=I.list hq;have GO:p < s.heap.objs.size:=by obtain⟨o,n,e,_⟩:=pl;exact Cp e
 have Gs:=r'.length;rw [B8] at Gs;refine call_all_walk (wpAny_pyIter_list pl.isList ?_)
 refine⟨s.heap.objs.size,[s.heap.objs.size,p],[s.heap.objs.size],Gm.toArray.size,_,_,λi=>(bs[i]?).getD true,rfl,Walks.list (A:=X.A.in1) (I.ok.hd hc) _ p (CU GO) Gm.toArray,
  ⟨⟨_,Cy _ rfl,rfl,rfl⟩,pl.isList.push _⟩,λi v s' Q' E' hP hQ=>?_,λh' tk hk=>?_⟩
 ·have VX:Gm[i]?=some v:=by simpa using hP
  have hb:∃b,bs[i]?=some b/\v=Value.bool b:=by
   have hi:i < bs.length:=by rw [Gs];exact (Ca.mp VX).1
   have e1:(bs.map V.bl)[i]?=some (V.bl bs[i]):=by rw [Cd,B7 hi];rfl
   obtain⟨w',e2,Hl⟩:=r'.get e1;rw [VX] at e2;cases e2;exact⟨bs[i],B7 hi,Hl⟩
  obtain⟨b,e,rfl⟩:=hb;simp only [e,Fi] at hQ;exact Dt hQ
 ·have e:((List.range Gm.toArray.size).all λi=>(bs[i]?).getD true)=bs.all id:=by
   rw [Cq,<- Gs];exact um bs
  rw [e];refine⟨.bl (bs.all id),H,I.kept (t':=tk) λb x e=>hk b x (λhm=>?_) (Ce _ e),rfl,q⟩;rw [Cw.mp hm] at e;exact DI _ (Cp e)
theorem cf {T:String}:cC X (.builtin "isinstance") (λxs H Q=>∃x t b,xs=[x,.ty T]/\dk X.K H x t/\PySem.W.kitOne X.K t (.type T)=some b/\Q (.bl b) H):=by
 intro pins s σ H xs us Q I r h;obtain⟨x,t,b,rfl,ty,e,q⟩:=h;obtain⟨u,w',rfl,rx,ry⟩:=vals2 r;cases (show w'=Value.type T from ry);exact vw I rx ty e λtk=>⟨.bl b,H,I.tok tk,rfl,q⟩
theorem iV:GT X (compareOp .LtE) (λx y H Q=>∃i j,x=.str i/\y=.str j/\Q (.bl (!decide (j.cps.toList < i.cps.toList))) H):=by
 intro pins s σ H x y v u Q I rx ry h;obtain⟨i,j,rfl,rfl,q⟩:=h;obtain⟨t,rfl⟩:=rx;obtain⟨t',rfl⟩:=ry;exact PySem.P.le_str ⟨.bl (!decide (j.cps.toList < i.cps.toList)),H,I,rfl,q⟩
theorem xP:Pg X "str.join" (λx xs H Q=>∃(z:Str) (p:Addr) (ss:List Str),x=.str z/\xs=[.ref p]/\Gq X.K H p (ss.map V.str)/\(ss.map (·.length)).sum + ss.length * z.length<=16777216/\Q (.str (Txt.join z ss)) H):=by
 intro pins s σ H x xs v us Q I rx rs h;obtain⟨z,p,ss,rfl,rfl,hq,hz,q⟩:=h;obtain⟨t,rfl⟩:=rx;obtain⟨u,rfl,ru⟩:=vals1 rs;cases ru;obtain⟨Gm,r',pl,_⟩:=I.list hq;exact join_list pl.isList (mH r') hz λt' k=>⟨.str (Txt.join z ss),H,I.tok k,⟨_,rfl⟩,q⟩
theorem iL:cC X (.builtin "sorted") (λxs H Q=>∃(p:Addr) (ss:List Str),xs=[.ref p]/\Gq X.K H p (ss.map V.str)/\ss.length < 64/\∀(J5:List Str) (q:Addr),J5.Perm ss->sortedS J5=true->H q=none->Q (.ref q) (upd H q (.lst (J5.map V.str)))):=by
 intro pins s σ H xs us Q I r h;obtain⟨p,ss,rfl,hq,O1,q⟩:=h;obtain⟨u,rfl,rx⟩:=vals1 r;cases rx;obtain⟨Gm,r',pl,hz⟩:=I.list hq;have Gs:=r'.length;rw [B8] at Gs;refine sorted_strs pl.isList (mH r') (by omega) λout J5 a1 a2 a3=>?_;obtain⟨e,he⟩:=sortedAll_at s.heap Gm out;have hv:aC (J5.map V.str) out.toList:=mL a1;have OQ:H (s.heap.objs.size + 1)=none:=I.hok.fresh (FG _);refine⟨.ref (s.heap.objs.size + 1),_,I.laid (t':=s.toks) (o:=.lst (J5.map V.str)) (λb o z=>sortedAll_old z) (FG _) ⟨?_,out.toList,e,hv,?_⟩,rfl,q J5 _ a2 a3 OQ⟩
 ·rw [B8,a2.length_eq,DO];omega
 ·simpa [seqObj] using he
end
end L2
set_option maxHeartbeats 4000000
namespace L2
open PySem PySem.W PyProof.Rows
abbrev gp (p:Array Nat) (i:Nat):Nat:=p.getD i 0
structure Ord (N:Nat) (lt:Nat->Nat->Bool):Prop where
 tr:∀i j k,lt i j=true->lt j k=true->lt i k=true
 irr:∀i,lt i i=false
 tot:∀i j,i < N->j < N->i≠j->lt i j=true\/lt j i=true
def Pm (N:Nat) (p:Array Nat):Prop:=p.Perm (List.toArray (List.range N))
theorem Pm.size {N:Nat}{p:Array Nat} (h:Pm N p):p.size=N:=by
 have:=Array.Perm.size_eq h;simpa using this
theorem iy {p:Array Nat}{i:Nat} (h:i < p.size):gp p i=p[i]:=by simp [gp,Array.getD,h]
theorem jc {p q:Array Nat}{i j:Nat} (h:p[i]?=q[j]?):gp p i=gp q j:=by simp [gp,Array.getD_eq_getD_getElem?,h]
theorem Pm.lt {N:Nat}{p:Array Nat} (h:Pm N p) {i:Nat} (hi:i < N):gp p i < N:=by
 have hs:i < p.size:=by rw [h.size];exact hi
 rw [iy hs];have hm:p[i]∈(List.toArray (List.range N)):=h.mem_iff.mp (Array.getElem_mem hs);simpa using hm
theorem Pm.nd {N:Nat}{p:Array Nat} (h:Pm N p):p.toList.Nodup:=by
 have hp:p.toList.Perm (List.range N):=by simpa using FM.mp h
 exact hp.nodup_iff.mpr List.nodup_range
theorem Pm.inj {N:Nat}{p:Array Nat} (h:Pm N p) {i j:Nat} (hi:i < N) (hj:j < N) (Hw:i≠j):gp p i≠gp p j:=by
 have Sw:i < p.size:=by rw [h.size];exact hi
 have Sv:j < p.size:=by rw [h.size];exact hj
 rw [iy Sw,iy Sv];intro e;have nd:=h.nd
 rcases EM Hw with z | z
 ·exact CL.mp nd i j (by simpa using Sw) (by simpa using Sv) z (by simpa using e)
 ·exact CL.mp nd j i (by simpa using Sv) (by simpa using Sw) z (by simpa using e.symm)
section
variable {N:Nat}{lt:Nat->Nat->Bool}{cmp:Nat->Nat->(Bool->zz8->Prop)->zz8->Prop}{s:zz8}
def IM (lt:Nat->Nat->Bool) (p:Array Nat) (b:Nat):Prop:=∀i j,i < j->j < b->lt (gp p i) (gp p j)=true
def Nl (lt:Nat->Nat->Bool) (p:Array Nat) (b:Nat):Prop:=∀i j,i < j->j < b->lt (gp p j) (gp p i)=true
theorem IM.more (O:Ord N lt) {p:Array Nat}{n:Nat} (h:IM lt p n) (h1:1<=n) (e:lt (gp p (n - 1)) (gp p n)=true):IM lt p (n + 1):=λi j Hw hj=>by
 by_cases q:j < n
 ·exact h i j Hw q
 ·have:j=n:=by omega
  subst this
  by_cases z:i=j - 1
  ·rw [z];exact e
  ·exact O.tr _ _ _ (h i (j - 1) (by omega) (by omega)) e
theorem Nl.more (O:Ord N lt) {p:Array Nat}{n:Nat} (h:Nl lt p n) (h1:1<=n) (e:lt (gp p n) (gp p (n - 1))=true):Nl lt p (n + 1):=λi j Hw hj=>by
 by_cases q:j < n
 ·exact h i j Hw q
 ·have:j=n:=by omega
  subst this
  by_cases z:i=j - 1
  ·rw [z];exact e
  ·exact O.tr _ _ _ e (h i (j - 1) (by omega) (by omega))
theorem Ord.other (O:Ord N lt) {p:Array Nat} (hp:Pm N p) {i j:Nat} (hi:i < N) (hj:j < N) (Hw:i≠j) (e:lt (gp p i) (gp p j)≠true):lt (gp p j) (gp p i)=true :=
 (O.tot _ _ (hp.lt hi) (hp.lt hj) (hp.inj hi hj Hw)).resolve_left e
variable (O:Ord N lt) (hc:∀(i j:Nat) (C:Bool->zz8->Prop),i < N->j < N->i≠j->C (lt i j) s->cmp i j C s)
include O hc
theorem lq {p:Array Nat} (hp:Pm N p) {Q:Nat->zz8->Prop}:∀(f n:Nat),1<=n->n + f<=N->IM lt p n->(∀m,n<=m->m<=n + f->IM lt p m->(m=n + f\/lt (gp p m) (gp p (m - 1))=true)->Q m s)->(kas_asc p f n).kasWp cmp Q s
 | 0,n,h1,hn,ha,k=>k n (Cc _) (Cc _) ha (.inl rfl)
 | f + 1,n,h1,hn,ha,k=>by
  unfold kas_asc;refine hc _ _ _ (hp.lt (by omega)) (hp.lt (by omega)) (hp.inj (by omega) (by omega) (by omega)) ?_
  by_cases e:lt (gp p n) (gp p (n - 1))=true
  ·show KasT.kasWp cmp (if lt (gp p n) (gp p (n - 1))=true then _ else _) Q s
   rw [if_pos e];exact k n (Cc _) (by omega) ha (.inr e)
  ·show KasT.kasWp cmp (if lt (gp p n) (gp p (n - 1))=true then _ else _) Q s
   rw [if_neg e];exact lq hp f (n + 1) (by omega) (by omega) (ha.more O h1 (O.other hp (by omega) (by omega) (by omega) e)) λm a b c d=>k m (by omega) (by omega) c (d.imp (λz=>by omega) id)
theorem oK {p:Array Nat} (hp:Pm N p) {Q:Array Nat×Nat×Nat->zz8->Prop}:∀(f n:Nat),1<=n->n + f<=N->Nl lt p n->(∀m,n<=m->m<=n + f->Nl lt p m->Q (p,m,0) s)->(kas_desc f p n 0).kasWp cmp Q s
 | 0,n,h1,hn,ha,k=>k n (Cc _) (Cc _) ha
 | f + 1,n,h1,hn,ha,k=>by
  unfold kas_desc;refine hc _ _ _ (hp.lt (by omega)) (hp.lt (by omega)) (hp.inj (by omega) (by omega) (by omega)) ?_
  by_cases e:lt (gp p n) (gp p (n - 1))=true
  ·show KasT.kasWp cmp (if lt (gp p n) (gp p (n - 1))=true then _ else _) Q s
   rw [if_pos e,if_neg (by omega)];exact oK hp f (n + 1) (by omega) (by omega) (ha.more O h1 e) λm a b c=>k m (by omega) (by omega) c
  ·show KasT.kasWp cmp (if lt (gp p n) (gp p (n - 1))=true then _ else _) Q s
   rw [if_neg e];refine hc _ _ _ (hp.lt (by omega)) (hp.lt (by omega)) (hp.inj (by omega) (by omega) (by omega)) ?_;have e2:=O.other hp (show n < N by omega) (show n - 1 < N by omega) (by omega) e;show KasT.kasWp cmp (if lt (gp p (n - 1)) (gp p n)=true then _ else _) Q s;rw [if_pos e2];exact k n (Cc _) (by omega) ha
theorem za {p:Array Nat} (hp:Pm N p) {m:Nat} (hm:m<=N) (h:Nl lt p m):Pm N (kas_rev p 0 m)/\IM lt (kas_rev p 0 m) m:=by
 have hz:m<=p.size:=by rw [hp.size];exact hm
 refine⟨(mirror_perm p 0 m _).trans hp,λi j Hw hj=>?_⟩
 have g:∀k,k < m->gp (kas_rev p 0 m) k=gp p (0 + m - 1 - k):=λk hk=>jc (by
  unfold kas_rev
  rw [getElem?_mirror_all hz,if_pos ⟨Cz _,hk⟩])
 rw [g i (by omega),g j hj];exact h _ _ (by omega) (by omega)
theorem vY {p:Array Nat} (hp:Pm N p) (h2:2<=N) {Q:Nat×Array Nat->zz8->Prop} (h0:∀m q,1<=m->m<=N->Pm N q->IM lt q m->Q (m,q) s):(kas_count N p).kasWp cmp Q s:=by
 unfold kas_count;rw [EF];refine lq O hc hp (N - 1) 1 (Cc _) (by omega) (λi j a b=>by omega) λm a b c d=>?_
 by_cases e:(m == N)=true
 ·rw [if_pos e]
  exact h0 m p a (by omega) hp c
 ·rw [if_neg e]
  have hm:m≠N:=λz=>e (beq_iff_eq.mpr z)
  by_cases e1:m > 1
  ·rw [if_pos e1]
   refine hc _ _ _ (hp.lt (by omega)) (hp.lt (by omega)) (hp.inj (by omega) (by omega) (by omega)) ?_;show KasT.kasWp cmp (if lt (gp p 0) (gp p (m - 1))=true then _ else _) Q s;rw [if_pos (c 0 (m - 1) (by omega) (by omega))];exact h0 m p a (by omega) hp c
  ·rw [if_neg e1]
   have:m=1:=by omega
   subst this;have e2:lt (gp p 1) (gp p (1 - 1))=true:=d.resolve_left (by omega);unfold kas_descPart;rw [EF]
   refine oK O hc hp (N - (1 + 1)) (1 + 1) (by omega) (by omega) (λi j x y=>by
    have:i=0:=by omega
    have:j=1:=by omega
    subst i j
    exact e2) λm' a' b' c'=>?_
   show KasT.kasWp cmp (if (0:Nat) > 0 then _ else _) Q s;rw [if_neg (by omega)];show KasT.kasWp cmp (kas_tail3 m' N p) Q s;unfold kas_tail3;rw [EF];obtain⟨r1,r2⟩:=za O hc hp (show m'<=N by omega) c';exact lq O hc r1 (N - m') m' (by omega) (by omega) r2 λYD x y z w=>h0 YD _ (by omega) (by omega) r1 z
theorem kr {p:Array Nat} (hp:Pm N p) {k:Nat} (hk:k < N) (ha:IM lt p k) {Q:Nat->zz8->Prop}:∀(f l r:Nat),l<=r->r<=k->r - l<=f->(∀i,i < l->lt (gp p i) (gp p k)=true)->(∀i,r<=i->i < k->lt (gp p k) (gp p i)=true) ->
  (∀l,l<=k->(∀i,i < l->lt (gp p i) (gp p k)=true)->(∀i,l<=i->i < k->lt (gp p k) (gp p i)=true)->Q l s)->(kas_place p k f l r).kasWp cmp Q s
 | 0,l,r,h1,h2,h3,hl,hr,q=>by
  have:l=r:=by omega
  subst this;exact q l h2 hl hr
 | f + 1,l,r,h1,h2,h3,hl,hr,q=>by
  unfold kas_place
  by_cases e:l ≥ r
  ·rw [if_pos e]
   have:l=r:=by omega
   subst this;exact q l h2 hl hr
  ·rw [if_neg e]
   refine hc _ _ _ (hp.lt hk) (hp.lt (by omega)) (hp.inj hk (by omega) (by omega)) ?_
   by_cases c:lt (gp p k) (gp p ((l + r) / 2))=true
   ·show KasT.kasWp cmp (if lt (gp p k) (gp p ((l + r) / 2))=true then _ else _) Q s
    rw [if_pos c];refine kr hp hk ha f l ((l + r) / 2) (by omega) (by omega) (by omega) hl (λi a b=>?_) q
    by_cases z:i=(l + r) / 2
    ·rw [z];exact c
    ·exact O.tr _ _ _ c (ha _ _ (by omega) b)
   ·show KasT.kasWp cmp (if lt (gp p k) (gp p ((l + r) / 2))=true then _ else _) Q s
    rw [if_neg c];have c':=O.other hp hk (show (l + r) / 2 < N by omega) (by omega) c;refine kr hp hk ha f ((l + r) / 2 + 1) r (by omega) h2 (by omega) (λi a=>?_) hr q
    by_cases z:i=(l + r) / 2
    ·rw [z];exact c'
    ·exact O.tr _ _ _ (ha i ((l + r) / 2) (by omega) (by omega)) c'
theorem pY {Q:Array Nat->zz8->Prop} (h0:∀q,Pm N q->IM lt q N->Q q s):∀(f:Nat) (p:Array Nat) (k:Nat),k + f=N->Pm N p->IM lt p k->(kas_bin f p k).kasWp cmp Q s
 | 0,p,k,hk,hp,ha=>h0 p hp (by rw [<- hk];exact ha)
 | f + 1,p,k,hk,hp,ha=>by
  unfold kas_bin;rw [EF];refine kr O hc hp (show k < N by omega) ha k 0 k (by omega) (Cc _) (by omega) (λi z=>by omega) (λi a b=>by omega) λl hl h1 h2=>?_;refine pY h0 f _ (k + 1) (by omega) ((bubble_perm p k _).trans hp) λi j Hw hj=>?_;have hs:k < p.size:=by rw [hp.size];omega
  have g:∀i,gp (bubble p k (k - l)) i=if i=l then gp p k else if l < i/\i<=k then gp p (i - 1) else gp p i:=λi=>by
   have e:=getElem?_bubble hs (k - l) (by omega) i;have e1:k - (k - l)=l:=by omega
   rw [e1] at e
   by_cases z1:i=l
   ·rw [if_pos z1] at e ⊢;exact jc e
   ·rw [if_neg z1] at e ⊢
    by_cases z2:l < i/\i<=k
    ·rw [if_pos z2] at e ⊢;exact jc e
    ·rw [if_neg z2] at e ⊢;exact jc e
  rw [g i,g j]
  by_cases a1:i=l
  ·rw [if_pos a1,if_neg (by omega),if_pos (by omega)]
   exact h2 _ (by omega) (by omega)
  ·rw [if_neg a1]
   by_cases a2:l < i/\i<=k
   ·rw [if_pos a2,if_neg (by omega),if_pos (by omega)]
    exact ha _ _ (by omega) (by omega)
   ·rw [if_neg a2]
    by_cases b1:j=l
    ·rw [if_pos b1];exact h1 i (by omega)
    ·rw [if_neg b1]
     by_cases b2:l < j/\j<=k
     ·rw [if_pos b2]
      exact ha _ _ (by omega) (by omega)
     ·rw [if_neg b2]
      exact ha _ _ Hw (by omega)
theorem xH (h2:2<=N) {Q:Array Nat->zz8->Prop} (h0:∀q,Pm N q->IM lt q N->Q q s):(kas_sort N).kasWp cmp Q s:=by
 unfold kas_sort;rw [EF];refine vY O hc (Array.Perm.refl _) h2 λm q a b hp ha=>?_;show KasT.kasWp cmp (if m < N then _ else _) Q s
 by_cases e:m < N
 ·rw [if_pos e]
  have em:max m 1=m:=by omega
  show KasT.kasWp cmp (kas_bin (N - max m 1) q (max m 1)) Q s;rw [em];exact pY O hc h0 (N - m) q m (by omega) hp ha
 ·rw [if_neg e]
  have:m=N:=by omega
  subst this;exact h0 q hp ha
end
end L2
namespace L2
open PySem PySem.Spec PyProof.Rows PySem.W PySem.Calls
section
variable {prog:Program}{w:World}{A:Around}{E:zz9->zz8->Prop}{s:zz8}
def lF (prog:Program) (w:World) (A:Around) (vs:List zz9) (lt:Nat->Nat->Bool) (s:zz8):Prop :=
 ∃κ:SortKind,(∀Q:SortKind->zz8->Prop,Q κ s->wpAny (model prog w) A (keyKind' vs.toArray) Q (λ_ _=>False) s) /\
  ∀(i j:Nat) (C:Bool->zz8->Prop),i < vs.length->j < vs.length->i≠j->C (lt i j) s->kas_ask prog w A κ vs i j C s
def fU (vs:List zz9) (p:Array Nat):List zz9:=p.toList.map λi=>vs.getD i Value.none
theorem uh {lt:Nat->Nat->Bool}{a:Addr}{vs:List zz9}{n:Nat}{P:PySem.Fin->zz8->Prop} (ho:s.heap.get? a=some (seqObj "list" vs.toArray n)) (O1:vs.length < 64) (O:Ord vs.length lt)
  (hk:2<=vs.length->∀s':zz8,(∀b o,b≠a->s.heap.get? b=some o->s'.heap.get? b=some o)->lF prog w A vs lt s')
  (h:∀p,Pm vs.length p->IM lt p vs.length->P (.done (.ret .none)) { s with heap:=sortedHeap s.heap a vs (fU vs p).toArray }) :
  wpAny (model prog w) A (Builtin.«list.sort» ⟨[.ref a],[]⟩) P E s:=by
 rw [list_sort_plain];have GO:a < s.heap.objs.size:=Cp ho;have KU:vs.length<=sizeLine:=by rw [DO];omega
 refine B6 (listItems_at ho rfl (B6 (listUpdate_at ho rfl ?_ (by rw [Cq];exact KU) (Cz _))));obtain⟨e1,Vy⟩:∃e1,(s.heap.update a (Obj.mapSeq λ_=>(#[]:Array zz9))).get? a=some (seqObj "list" #[] e1):=⟨_,get?_update_seq ho λ_=>#[]⟩
 refine B6 (seqEpoch_at Vy rfl (B6 (wpAny_newTuple (B6 (wpAny_newList (Dr ?_) (Cz _))) (by show vs.length<=_;exact KU))));have Ju:(((s.heap.update a (Obj.mapSeq λ_=>(#[]:Array zz9))).push (seqObj "tuple" vs.toArray 0)).push (seqObj "list" #[] 0)).get? a=some (seqObj "list" #[] e1):=Ce _ (Ce _ Vy);show wpAny (model prog w) A _ P E { s with heap:=((s.heap.update a (Obj.mapSeq λ_=>(#[]:Array zz9))).push (seqObj "tuple" vs.toArray 0)).push (seqObj "list" #[] 0) }
 dsimp only
 by_cases h2:vs.toArray.size < 2
 ·rw [if_pos h2,if_pos h2]
  refine B6 (B9 ?_);rw [StateT.run_pure];refine B6 (B9 ?_)
  dsimp only
  have hz:((vs.toArray.zip vs.toArray).map (·.2))=(fU vs (List.toArray (List.range vs.length))).toArray:=by
   unfold fU;apply Array.ext
   ·simp
   ·intro i h1 h2
    simp only [Array.size_map,Array.size_zip,Cq,Nat.min_self] at h1;simp [h1]
  have es:vs.toArray.size=vs.length:=by simp
  refine B6 (seqEpoch_at Ju rfl (B6 (listUpdate_at Ju rfl ?_ (Cz _) ?_)))
  ·simp only [bne_self_eq_false,DZ,if_false]
   have q:=h (List.toArray (List.range vs.length)) (Array.Perm.refl _) (λi j Hw hj=>by omega);unfold sortedHeap at q;rw [<- hz] at q;exact B9 q
  ·show ((vs.toArray.zip vs.toArray).map (·.2)).size<=sizeLine + 1
   simp only [Array.size_map,Array.size_zip,Cq,Nat.min_self];omega
 ·have Qq:2<=vs.length:=by rw [Cq] at h2;omega
  rw [if_neg h2,if_neg h2];obtain⟨κ,kd,ask⟩:=hk Qq { s with heap:=((s.heap.update a (Obj.mapSeq λ_=>(#[]:Array zz9))).push (seqObj "tuple" vs.toArray 0)).push (seqObj "list" #[] 0) } λb o hb e =>
   Ce _ (Ce _ (by rw [Heap.get?_update_ne _ _ _ _ hb];exact e))
  refine B6 (DD (E:=λ_ _=>False) (Q:=λk s'=>k=κ/\s'={ s with heap:=((s.heap.update a (Obj.mapSeq λ_=>(#[]:Array zz9))).push (seqObj "tuple" vs.toArray 0)).push (seqObj "list" #[] 0) }) (kd _ ⟨rfl,rfl⟩) ?_ λ_ _ f=>f.elim);rintro k s' ⟨rfl,rfl⟩
  refine B6 (DD (kat_run (ks:=vs) (G:=λp s'=>(Pm vs.length p/\IM lt p vs.length)/\s'={ s with heap:=((s.heap.update a (Obj.mapSeq λ_=>(#[]:Array zz9))).push (seqObj "tuple" vs.toArray 0)).push (seqObj "list" #[] 0) })
   (Q:=λG9 s'=>∃p:Array Nat,arrOf G9=p.map (kas_item (vs.toArray.zip vs.toArray))/\failedOf G9=none/\(Pm vs.length p/\IM lt p vs.length)/\s'={ s with heap:=((s.heap.update a (Obj.mapSeq λ_=>(#[]:Array zz9))).push (seqObj "tuple" vs.toArray 0)).push (seqObj "list" #[] 0) })
   rfl Qq O1 (λp G9 s' _ a2 a3 a4=>⟨p,a2,a3,a4⟩) (xH O ask Qq λq hq ha=>⟨⟨hq,ha⟩,rfl⟩)) ?_ λ_ _ e=>e)
  rintro⟨⟨⟩,G9⟩ s' ⟨p,ZL,hf,⟨hp,ha⟩,rfl⟩
  dsimp only
  rw [kat_snds rfl ZL];have hsz:(List.toArray (p.toList.map λi=>vs.getD i Value.none)).size<=sizeLine + 1:=by
   rw [Cq,B8,DW,hp.size];omega
  refine B6 (seqEpoch_at Ju rfl (B6 (listUpdate_at Ju rfl ?_ (Cz _) hsz)));rw [hf];simp only [bne_self_eq_false,DZ,if_false];exact B9 (h p hp ha)
theorem ua {l:Addr}{o:Obj}{vs:List zz9}{n:Nat}{T:String}{Q:List zz9->zz8->Prop} (hT:T="list"\/T="tuple") (ho:s.heap.get? l=some o) (hc:o.cls=.type T) (hd:o.data=.seq vs.toArray n)
  (h:Q vs { s with heap:=(s.heap.push (seqObj "list" #[] 0)).update s.heap.objs.size (Obj.mapSeq (·++vs.toArray)) }) (hsz:vs.length<=sizeLine):wpAny (model prog w) A (collect (.ref l)) Q E s:=by
 rcases hT with rfl | rfl
 ·exact collect_list ⟨o,ho,hc,n,hd⟩ h hsz
 ·unfold collect
  refine B6 (wpAny_runValue (codeAny_builtin entry_proto_collect' ?_));show wpAny _ _ (do again (.builtin "list.__iadd__" ⟨[<- newList [],.ref l],[]⟩)) _ _ s;refine B6 (wpAny_newList (B9 ⟨Code.quiet_builtin _ (by decide +kernel),codeAny_builtin entry_list_iadd' ?_⟩));show wpAny _ _ (Builtin.List.listExtendWith (.ref s.heap.objs.size) (.ref l) (.ref s.heap.objs.size)) _ _ { s with heap:=s.heap.push (seqObj "list" #[] 0) };unfold Builtin.List.listExtendWith;have Iz:(s.heap.push (seqObj "list" #[] 0)).get? l=some o:=Ce _ ho;refine B6 (Fq (T:="tuple") ⟨o,Iz,hc⟩ ?_);rw [if_pos (by rw [show (Value.type "tuple" == Value.type "tuple")=true from rfl];simp)];refine B6 (listItems_at Iz hd (B6 (listItems_at (xs:=#[]) (n:=0) (Cy _ rfl) rfl ?_)));rw [if_neg (by simp)];refine B6 (listUpdate_at (xs:=#[]) (n:=0) (Cy _ rfl) rfl (B9 ?_) (Cz _) (by show (#[]++vs.toArray).size<=sizeLine + 1;simp only [Array.size_append,Cq,Gg];omega))
  show wpAny (model prog w) A (do
    let o <- load s.heap.objs.size
    match o.data with
    | .seq xs _=>pure xs.toList
    | _=>unsupported "internal:collect") Q E { s with heap:=(s.heap.push (seqObj "list" #[] 0)).update s.heap.objs.size (Obj.mapSeq (·++vs.toArray)) }
  refine B6 (wpAny_load (get?_update_seq (Cy _ rfl) _) ?_);show wpAny _ _ (pure ((#[]:Array zz9)++vs.toArray).toList) Q E _;rw [show ((#[]:Array zz9)++vs.toArray).toList=vs by simp];exact B9 h
theorem xm {lt:Nat->Nat->Bool}{l:Addr}{o:Obj}{vs:List zz9}{n:Nat}{T:String}{Q:zz9->zz8->Prop} (hT:T="list"\/T="tuple") (ho:s.heap.get? l=some o) (hc:o.cls=.type T) (hd:o.data=.seq vs.toArray n) (O1:vs.length < 64) (O:Ord vs.length lt)
  (hk:2<=vs.length->∀s':zz8,(∀b o,s.heap.get? b=some o->s'.heap.get? b=some o)->lF prog w A.in1.in1 vs lt s')
  (h:∀p,Pm vs.length p->IM lt p vs.length->Q (.ref (s.heap.objs.size + 1)) { s with heap:=sortedAll s.heap vs (fU vs p).toArray }):wpAny (model prog w) A (call (.builtin "sorted") [.ref l]) Q E s:=by
 refine Calls.call_function_entry kind_sorted plain_sorted entry_sorted (args_sorted1 _) ?_;unfold Builtin.«sorted»;refine B6 (m:=checkCount "sorted" 1 1 _) (B9 (B6 (ua hT ho hc hd (B6 (wpAny_newList ?_ (by rw [DO];omega))) (by rw [DO];omega))));have hsz:((s.heap.push (seqObj "list" #[] 0)).update s.heap.objs.size (Obj.mapSeq (·++vs.toArray))).objs.size=s.heap.objs.size + 1:=by rw [Heap.size_update,size_push']
 have Qi:(((s.heap.push (seqObj "list" #[] 0)).update s.heap.objs.size (Obj.mapSeq (·++vs.toArray))).push (seqObj "list" vs.toArray 0)).get? (s.heap.objs.size + 1)=some (seqObj "list" vs.toArray 0):=by
  rw [<- hsz];exact Cy _ rfl
 show wpAny _ _ _ _ _ { s with heap:=((s.heap.push (seqObj "list" #[] 0)).update s.heap.objs.size (Obj.mapSeq (·++vs.toArray))).push (seqObj "list" vs.toArray 0) };rw [hsz];have kp:∀b o,s.heap.get? b=some o->(((s.heap.push (seqObj "list" #[] 0)).update s.heap.objs.size (Obj.mapSeq (·++vs.toArray))).push (seqObj "list" vs.toArray 0)).get? b=some o:=λb ob e=>by
  have hb:=Cp e;refine Ce _ ?_;rw [Heap.get?_update_ne _ _ _ _ (CU hb)];exact Ce _ e
 refine B6 (Dr (Dn slot_list_sort ⟨_,Qi,rfl⟩ entry_list_sort (uh Qi O1 O (λz s' Iw=>hk z s' λb ob e=>Iw b ob (by have:=Cp e;exact CU (Nat.lt_succ_of_lt this)) (kp b ob e)) λp hp ha=>⟨_,rfl,?_⟩) (args_list_sort _)));exact B9 ⟨_,rfl,h p hp ha⟩
end
theorem k8 {h:Heap}:∀{vs fs:List zz9},KatTups h vs fs->∀(i:Nat),i < vs.length->∃a o xs n f,vs.getD i Value.none=.ref a/\h.get? a=some o/\o.data=.seq xs n/\xs[0]?=some f/\fs[i]?=some f
 | [],[],_,i,hi=>absurd hi (Gh _)
 | [],_::_,t,_,_=>t.elim
 | _::_,[],t,_,_=>t.elim
 | v::vs,f::fs,t,0,_=>by
  obtain⟨⟨a,o,xs,n,rfl,ho,hc,hd,hf⟩,_⟩:=t;exact⟨a,o,xs,n,f,rfl,ho,hd,hf,rfl⟩
 | v::vs,f::fs,t,i + 1,hi=>by
  obtain⟨_,t⟩:=t;obtain⟨a,o,xs,n,g,e1,e2,e3,e4,e5⟩:=k8 t i (by simpa using hi);exact⟨a,o,xs,n,g,by simpa using e1,e2,e3,e4,by simpa using e5⟩
theorem lw:∀{fs:List zz9}{ss:List Str},StrsAre fs ss->∀(i:Nat) (f:zz9),fs[i]?=some f->∃t,f=.str (ss.getD i Str.empty) t/\i < ss.length
 | _,_,.nil,i,f,h=>by simp at h
 | _,_,.cons y t r,0,f,h=>by simp at h;exact⟨t,h.symm,by simp⟩
 | _,_,.cons y t r,i + 1,f,h=>by
  obtain⟨t',e1,e2⟩:=lw r i f (by simpa using h);exact⟨t',by simpa using e1,by simpa using e2⟩
theorem zj {prog:Program}{w:World}{A:Around}{s:zz8}{vs fs:List zz9}{ss:List Str} (t:KatTups s.heap vs fs) (hS:StrsAre fs ss) (GQ:0 < fs.length) (MZ:ss.Nodup) :
  lF prog w A vs (λi j=>decide ((ss.getD i Str.empty).cps.toList < (ss.getD j Str.empty).cps.toList)) s:=by
 refine⟨tuples' (Value.type "str" != Value.type "tuple"),λQ q=>kat_kind (T:=Value.type "str") t GQ (λv hv=>?_) (by decide) q,λi j C hi hj Hw q=>?_⟩
 ·obtain⟨x,u,rfl⟩:=hS.all v hv
  exact Looks.now
 ·obtain⟨a,o,xs,n,f,e1,e2,e3,e4,e5⟩:=k8 t i hi
  obtain⟨b,o',ys,n',g,g1,g2,g3,g4,g5⟩:=k8 t j hj;obtain⟨tf,rfl,IA⟩:=lw hS i f e5;obtain⟨tg,rfl,HJ⟩:=lw hS j g g5;unfold kas_ask;rw [e1,g1];refine kat_lt e2 e3 g2 g3 ?_;obtain⟨xr,hx⟩:∃xr,xs.toList=.str (ss.getD i Str.empty) tf::xr:=by
   cases hq:xs.toList with
   | nil=>rw [<- DL,hq] at e4;simp at e4
   | cons z zr=>rw [<- DL,hq] at e4;simp at e4;rw [e4];exact⟨zr,rfl⟩
  obtain⟨yr,hy⟩:∃yr,ys.toList=.str (ss.getD j Str.empty) tg::yr:=by
   cases hq:ys.toList with
   | nil=>rw [<- DL,hq] at g4;simp at g4
   | cons z zr=>rw [<- DL,hq] at g4;simp at g4;rw [g4];exact⟨zr,rfl⟩
  rw [hx,hy];have Zk:ss.getD i Str.empty≠ss.getD j Str.empty:=by
   rw [C1,C1,B7 IA,B7 HJ];intro z;have z':ss[i]=ss[j]:=z
   rcases EM Hw with y | y
   ·exact CL.mp MZ i j IA HJ y z'
   ·exact CL.mp MZ j i HJ IA y z'.symm
  show KatLex prog w A _ _ C ((Value.str (ss.getD i Str.empty) tf,Value.str (ss.getD j Str.empty) tg)::xr.zip yr) 0 s;refine kat_cons (wpAny_eqBool_str ?_);rw [decide_eq_false Zk];refine kat_no ?_;show wpAny _ A (oneLt' true _ _) C _ s;exact strKind_oneLt prog w A _ s _ _ _ _ rfl rfl q
theorem pM {x y:Str} (h:x≠y):x.cps.toList < y.cps.toList\/y.cps.toList < x.cps.toList:=by
 by_cases c:x.cps.toList < y.cps.toList
 ·exact .inl c
 ·rcases List.le_iff_lt_or_eq.mp (List.not_lt.mp c) with z | z
  ·exact .inr z
  ·refine absurd ?_ h
   obtain⟨a⟩:=x;obtain⟨b⟩:=y;have e:b=a:=F8.mp z;rw [e]
def pV (H:Hp) (rs:List (Addr×Str)):Prop:=∀r∈rs,∃rest,H r.1=some (.tup (.str r.2::rest))
abbrev refs (rs:List (Addr×Str)):List V:=rs.map λr=>V.ref r.1
def GM (x y:Str):Prop:=x.cps.toList < y.cps.toList
theorem mE {P:Program}{w:World}{H:Hp}{h:Heap} (ok:GU P w H h):∀{rs:List (Addr×Str)}{us:List zz9},pV H rs->aC (refs rs) us->∃fs,KatTups h us fs/\StrsAre fs (rs.map (·.2))
 | [],us,_,r=>by cases r;exact⟨[],trivial,.nil⟩
 | x::rs,us,hr,r=>by
  cases r with
  | @cons _ u _ us' r1 r2 =>
   obtain⟨fs,t,q⟩:=mE ok (rs:=rs) (λy hy=>hr y (Cj _ hy)) r2;obtain⟨rest,e⟩:=hr x Cf;cases (show u=Value.ref x.1 from r1);obtain⟨_,Gm,rv,o,ho,hc,n,hd⟩:=(show bg P w H h x.1 (.tup (.str x.2::rest)) from ok x.1 _ e)
   cases rv with
   | @cons _ f _ its' rf _ =>
    obtain⟨tk,rfl⟩:=rf;exact⟨.str x.2 tk::fs,KatTups.cons ho hc hd (by simp) t,.cons _ _ q⟩
theorem nh {xs:List V}{us:List zz9} (r:aC xs us):∀{ps:List Nat},(∀i∈ps,i < xs.length)->aC (ps.map λi=>xs.getD i .non) (ps.map λi=>us.getD i Value.none)
 | [],_=>.nil
 | i::ps,h=>by
  have hi:=h i Cf;obtain⟨u,e,ru⟩:=r.get (B7 hi);refine .cons ?_ (nh r λj hj=>h j (Cj _ hj));show RelV (xs.getD i .non) (us.getD i Value.none);rw [C1,C1,B7 hi,e];exact ru
theorem uJ {α:Type} (d:α) (xs:List α) {p:Array Nat} (h:Pm xs.length p):(p.toList.map λi=>xs.getD i d).Perm xs:=by
 have hp:p.toList.Perm (List.range xs.length):=by simpa using FM.mp h
 have e:(List.range xs.length).map (λi=>xs.getD i d)=xs:=by
  apply List.ext_getElem
  ·simp
  ·intro i h1 h2
   simp [h2]
 exact (hp.map _).trans (by rw [e])
section
variable {X:Cx}
theorem tM:cC X (.builtin "sorted") (λxs H Q=>∃(p:Addr) (rs:List (Addr×Str)),xs=[.ref p]/\(Gq X.K H p (refs rs)\/Gp X.K H p (refs rs))/\pV H rs/\rs.length < 64/\(rs.map (·.2)).Nodup /\
  ∀(HS:List (Addr×Str)) (q:Addr),HS.Perm rs->(HS.map (·.2)).Pairwise GM->H q=none->Q (.ref q) (upd H q (.lst (refs HS)))):=by
 intro pins s σ H xs us Q I r h;obtain⟨p,rs,rfl,hq,hR,O1,MZ,q⟩:=h;obtain⟨u,rfl,rx⟩:=vals1 r;cases rx;have core:∀(T:String) (o:Obj) (Gm:List zz9) (n:Nat),(T="list"\/T="tuple")->s.heap.get? p=some o->o.cls=.type T->o.data=.seq Gm.toArray n->aC (refs rs) Gm ->
   wpAny (model X.prog X.w) X.A (call (.builtin "sorted") [.ref p]) (EP X pins σ Q) X.xe s:=λT o Gm n hT ho hc hd r'=>by
  have hl:=r'.length;have Jd:Gm.length=rs.length:=by rw [<- hl];simp
  have O:Ord Gm.length (λi j=>decide (((rs.map (·.2)).getD i Str.empty).cps.toList < ((rs.map (·.2)).getD j Str.empty).cps.toList)):=by
   refine⟨λi j k h1 h2=>?_,λi=>?_,λi j hi hj Hw=>?_⟩
   ·exact decide_eq_true (Ff (of_decide_eq_true h1) (of_decide_eq_true h2))
   ·exact decide_eq_false (EV _)
   ·have IA:i < (rs.map (·.2)).length:=by simpa [<- Jd] using hi
    have HJ:j < (rs.map (·.2)).length:=by simpa [<- Jd] using hj
    rw [C1,C1,B7 IA,B7 HJ];have ne:(rs.map (·.2))[i]≠(rs.map (·.2))[j]:=by
     rcases EM Hw with y | y
     ·exact CL.mp MZ i j IA HJ y
     ·exact λz=>CL.mp MZ j i HJ IA y z.symm
    exact (pM ne).imp decide_eq_true decide_eq_true
  refine xm hT ho hc hd (by omega) O (λh2 s' Iw=>?_) λpm hp ha=>?_
  ·obtain⟨fs,t,hS⟩:=mE (I.hok.kept Iw) hR r'
   have Hh:0 < fs.length:=by
    have:=hS.length;simp at this;omega
   exact zj t hS Hh MZ
  ·obtain⟨e,he⟩:=sortedAll_at s.heap Gm (fU Gm pm).toArray
   have Hf:Pm rs.length pm:=by rw [<- Jd];exact hp
   have GO:∀i∈pm.toList,i < rs.length:=λi hi=>by
    have:i∈(List.toArray (List.range rs.length)):=Hf.mem_iff.mp (by simpa using hi);simpa using this
   have hv:aC ((pm.toList.map λi=>(refs rs).getD i .non)) (fU Gm pm):=nh r' λi hi=>by simpa using GO i hi
   have OT:(pm.toList.map λi=>(refs rs).getD i .non)=refs (pm.toList.map λi=>rs.getD i (0,Str.empty)):=by
    unfold refs;rw [CH];exact Dx λi hi=>by simp [GO i hi]
   rw [OT] at hv;have OQ:H (s.heap.objs.size + 1)=none:=I.hok.fresh (FG _);have Vv:=uJ (0,Str.empty) rs Hf;refine⟨.ref (s.heap.objs.size + 1),_,I.laid (t':=s.toks) (o:=.lst (refs (pm.toList.map λi=>rs.getD i (0,Str.empty)))) (λb o z=>sortedAll_old z) (FG _) ⟨?_,fU Gm pm,e,hv,?_⟩,rfl,q _ _ Vv ?_ OQ⟩
   ·unfold refs
    rw [B8,Vv.length_eq,DO];omega
   ·simpa [seqObj] using he
   ·rw [CH,FQ]
    refine CL.mpr λi j hi hj Hw=>?_;have Jt:=hp.size;have Il:i < pm.size:=by simpa using hi
    have ME:j < pm.size:=by simpa using hj
    have z:=of_decide_eq_true (ha i j Hw (by omega));rw [iy Il,iy ME] at z;show ((rs.getD pm.toList[i] (0,Str.empty)).2).cps.toList < ((rs.getD pm.toList[j] (0,Str.empty)).2).cps.toList;have b1:=GO pm.toList[i] (Cu _);have b2:=GO pm.toList[j] (Cu _);simp only [Array.getElem_toList] at b1 b2 ⊢;simpa [b1,b2] using z
 rcases hq with hq | hq
 ·obtain⟨Gm,r',pl,hz⟩:=I.list hq
  obtain⟨o,ho,hc,n,hd⟩:=pl.isList;exact core "list" o Gm n (.inl rfl) ho hc hd r'
 ·obtain⟨Gm,r',pl,hz⟩:=I.tuple hq
  obtain⟨o,ho,hc,n,hd⟩:=pl;exact core "tuple" o Gm n (.inr rfl) ho hc hd r'
end
end L2
namespace L2
open PySem PySem.Spec PyProof.Rows
def QH (x:Str):It:=⟨λi _=>i < x.length,λi H v H'=>H'=H/\∃c,x.cps[i]?=some c/\v=.str ⟨#[c]⟩,λi _=>x.length<=i⟩
theorem wx {P:Program}{w:World}{K:zz7}{tg:Expr} (x:Str) (t:Tok) (it:Addr):Turn P w K tg (QH x) [it] it (λi h=>h.IsStrIter it "str_ascii_iterator" x t i) where
 mem:=by simp
 obj:=λi h st b hb=>by
  have e:b=it:=by simpa using hb
  subst e;obtain⟨o,e,c,d⟩:=st;exact⟨o,e,λv z=>by rw [d] at z;cases z⟩
 keep:=λi h h' st k=>by
  obtain⟨o,e,r⟩:=st;exact⟨o,k it (by simp) o e,r⟩
 item:=by
  intro X hP hw hK hc i pins s σ H E I hf st hg;subst hP hw hK;have Qk:i < x.cps.size:=hg;obtain⟨f0,f1,f2,f3,f4,f5⟩:=hf it (by simp);refine wpAny_pyNext_ascii_item st (Eb Qk) λh' G9 sb=>?_;have I1:Inv X pins σ H { s with heap:=h',toks:=s.toks + 1 }:=I.turned (λb o hb e=>(sb.2 b hb).trans e) f0 f1 f3 f4 f5;obtain⟨o,e,c,d⟩:=id G9;exact⟨_,rfl,iB (s:={ s with heap:=h',toks:=s.toks + 1 }) e c d (by decide) ⟨.str ⟨#[x.cps[i]]⟩,H,I1,⟨_,rfl⟩,⟨rfl,_,Eb Qk,rfl⟩,G9,λb hb=>(hf b hb).1⟩⟩
 done:=by
  intro X hP hw hK hc i pins s σ H E I hf st hg;subst hP hw hK;have Qk:x.cps.size<=i:=hg;obtain⟨f0,f1,f2,f3,f4,f5⟩:=hf it (by simp);exact wpAny_pyNext_ascii_end (I.ok.hd hc) st (Array.getElem?_eq_none Qk) λh' eb=>⟨rfl,I.turned (t':=s.toks) (λb o hb e=>eb b o hb e) f0 f1 f3 f4 f5⟩
 self:=λA i s Q E st h=>wpAny_pyIter_striter_ascii st h
section
variable {X:Cx}{tg:Expr}
def Bo (tl:TE):TI:=λσ H R=>tl σ H λv H1=>∃x:Str,v=.str x/\x.cps.all (· < 128)=true/\R (QH x) H1
theorem qa {l:Expr}{tl:TE} (hl:PE X l tl):PI X tg l (Bo tl):=by
 intro pins s σ H R I h;refine Gu (hl pins s σ H _ I h) λv s1 ⟨x,H1,I1,r1,q1⟩=>?_;obtain⟨y,rfl,ha,q⟩:=q1;obtain⟨t,rfl⟩:=r1;refine wpAny_pyIter_ascii ha ?_;refine⟨s1.heap.objs.size,[s1.heap.objs.size],_,_,H1,rfl,I1.kept (t':=s1.toks) λb o e=>Ce _ e,wx y t _,⟨_,Cy _ rfl,rfl,rfl⟩,λb hb=>?_,q⟩;have e:b=s1.heap.objs.size:=by simpa using hb
 subst e;exact I1.fpOk (Cc _) (I1.hok.fresh (Cc _))
theorem uR {prog:Program}{w:World}{A:Around}{E:zz9->zz8->Prop}{s:zz8}{t sl:Addr}{items:Array zz9}{vl vu:zz9}{lo hi:Option Int}{Q:zz9->zz8->Prop} (ht:IsTup s.heap t items) (hs:s.heap.IsSliceOf sl vl vu .none) (pl:IsPart vl lo) (pu:IsPart vu hi)
  (h0:HT.sIx items.size 0 lo=0) (h1:HT.sIx items.size items.size hi=items.size) (h:Q (.ref t) s):wpAny (model prog w) A (getItem (.ref t) (.ref sl)) Q E s:=by
 obtain⟨os,Jc,J0,Io⟩:=id hs;have OZ:s.TypeIs (.ref sl) "slice":=⟨os,Jc,J0⟩
 unfold getItem
 try with_reducible refine Dr ?_
 first | refine B6 (B9 ?_) | skip
 refine B6 (FP ht.typeIs (by decide) (B6 (Dh (name:=Str.ofString "__getitem__") ht.typeIs C3
  (Dn C3 ht.typeIs entry_tuple_getitem ?_ (args_tuple_getitem _ _)))))
 show wpAny _ _ (Builtin.Tuple.tupleItemsOf (.ref t) >>= _) _ _ s;refine B6 (tupleItemsOf_ ht (B6 (Fq OZ ?_)));rw [if_pos (by decide)];refine B6 (HT.sY hs pl pu ?_);show wpAny _ _ (if (((HT.sIx items.size 0 lo:Nat):Int) == 0 && (1:Int) == 1 && (HT.sIx items.size items.size hi - HT.sIx items.size 0 lo) == items.size)=true then _ else _) _ _ s;rw [h0,h1,if_pos (by simp)];refine B6 (B6 (Fq ht.typeIs (B9 ?_)));rw [if_pos (by rfl)];exact B6 (FX (B9 ⟨_,rfl,B9 h⟩))
def lU (K:zz7):V->Option Int->Option Int->Hp->VK->Prop:=λx lo hi H Q=>∃a xs,x=.ref a/\Gp K H a xs /\
 (ce xs lo hi=xs->Q (.ref a) H)/\∀p,H p=none->Q (.ref p) (upd H p (.tup (ce xs lo hi)))
theorem cW:Qz X (lU X.K):=by
 intro pins s σ H x v vl vu lo hi sl Q I rx hs pl pu h;obtain⟨a,xs,rfl,hx,q1,q2⟩:=h
 by_cases hw:HT.sIx xs.length 0 lo=0/\HT.sIx xs.length xs.length hi=xs.length
 ·cases rx
  obtain⟨Gm,r,ht,hz⟩:=I.tuple hx;have Gs:Gm.toArray.size=xs.length:=by rw [Cq];exact r.length.symm
  refine⟨"tuple",_,C3.lookup,ht.typeIs,uR ht hs pl pu (by rw [Gs];exact hw.1) (by rw [Gs];exact hw.2) ⟨.ref a,H,I,rfl,q1 ?_⟩⟩;unfold ce;rw [hw.1,hw.2];simp
 ·exact zu pins s σ H (.ref a) v vl vu lo hi sl Q I rx hs pl pu ⟨a,xs,rfl,hx,hw,q2⟩
def lL (K:zz7):R2:=λx y H Q=>∃a b xs ys,x=.ref a/\y=.ref b/\Gp K H a xs/\Gp K H b ys/\xs.length + ys.length<=sizeLine /\
 (xs=[]->Q (.ref b) H)/\(ys=[]->Q (.ref a) H)/\∀p,H p=none->Q (.ref p) (upd H p (.tup (xs++ys)))
theorem dF:GT X (binaryOp .Add) (lL X.K):=by
 intro pins s σ H x y v u Q I rx ry h;obtain⟨a,b,xs,ys,rfl,rfl,ha,hb,hz,q0,q1,q2⟩:=h
 by_cases hx:xs=[]
 ·subst hx
  cases rx;cases ry;obtain⟨Gm,r1,p1,_⟩:=I.tuple ha;obtain⟨Ha,r2,p2,_⟩:=I.tuple hb;cases r1;obtain⟨⟨cls,dd,data,sl⟩,ho,hc,n,hd⟩:=id p1;obtain⟨⟨TU,Qt,data2,PF⟩,Ju,M7,n2,hd2⟩:=id p2;simp only at hc hd M7 hd2;subst hc hd M7 hd2;exact concat_meets ⟨_,ho,rfl⟩ ⟨_,Ju,rfl⟩ noFill_tuple_add seq_tuple_add E7 EY (EK _ _)
   (tuple_addW0 a b _ Ha.toArray n n2 dd Qt sl PF (by simp)) ⟨ho,Ju,⟨.ref b,H,I,rfl,q0 rfl⟩⟩
 ·exact yk pins s σ H (.ref a) (.ref b) v u Q I rx ry ⟨a,b,xs,ys,rfl,rfl,ha,hb,hx,hz,q1,λ_=>q2⟩
end
section
variable {K:zz7}{g:TG}{tt:TT}{te:TE}{σ':St}{fin:List V->Hp->Prop}{H1:Hp}
theorem jk {J:It}{n:Nat} (hn:n < sizeLine) (Pv:Nat->List V->St->Hp->Prop) (Yd:Nat->V->Prop) (h0:Pv 0 [] σ' H1) (hl:∀i ys σ H,i<=n->Pv i ys σ H->ys.length<=i)
  (SX:∀i ys σ H,i < n->Pv i ys σ H->J.go i H) (Ms:∀ys σ H,Pv n ys σ H->J.stop n H) (hy:∀i ys σ H x H',i < n->Pv i ys σ H->J.yld i H x H'->H'=H/\Yd i x)
  (hs:∀i x ys σ H,i < n->Yd i x->Pv i ys σ H->g x σ H λσ2 H2=>tt σ2 H2 λb H3=>if b=true then te σ2 H3 (λv H4=>Pv (i + 1) (ys++[v]) σ2 H4) else Pv (i + 1) ys σ2 H3) (hd:∀ys σ H,Pv n ys σ H->fin ys H) :
  HC J g tt te σ' fin H1:=by
 refine⟨λi m ys σ H=>m=n - i/\i<=n/\Pv i ys σ H,⟨n,by simp,Cz _,h0⟩,?_⟩;rintro i m ys σ H ⟨rfl,hi,p⟩;have hly:=hl i ys σ H hi p
 by_cases GO:i < n
 ·refine .inr ⟨SX i ys σ H GO p,by omega,λKk σ2 H2=>Pv (i + 1) Kk σ2 H2,λKk σ2 H2 q=>⟨n - (i + 1),by omega,rfl,GO,q⟩,λx H' y=>?_⟩
  obtain⟨e,yd⟩:=hy i ys σ H x H' GO p y;subst e;exact hs i x ys σ H' GO yd p
 ·have e:i=n:=by omega
  subst e;exact .inl ⟨Ms ys σ H p,by omega,hd ys σ H p⟩
theorem ig {a:Addr}{xs:List V} (hn:xs.length < sizeLine) (Pv:Nat->List V->St->Hp->Prop) (h0:Pv 0 [] σ' H1) (hl:∀i ys σ H,i<=xs.length->Pv i ys σ H->ys.length<=i/\Gp K H a xs)
  (hs:∀i x ys σ H,xs[i]?=some x->Pv i ys σ H->g x σ H λσ2 H2=>tt σ2 H2 λb H3=>if b=true then te σ2 H3 (λv H4=>Pv (i + 1) (ys++[v]) σ2 H4) else Pv (i + 1) ys σ2 H3) (hd:∀ys σ H,Pv xs.length ys σ H->fin ys H) :
  HC (LO K a) g tt te σ' fin H1 :=
 jk hn Pv (λi x=>xs[i]?=some x) h0 (λi ys σ H hi p=>(hl i ys σ H hi p).1) (λi ys σ H hi p=>⟨xs,xs[i],(hl i ys σ H (CO hi) p).2,by simp [hi]⟩) (λys σ H p=>⟨xs,(hl _ ys σ H (Cc _) p).2,Cc _⟩)
  (λi ys σ H x H' hi p y=>⟨y.1,y.2 xs (hl i ys σ H (CO hi) p).2⟩) (λi x ys σ H _ yd p=>hs i x ys σ H yd p) hd
theorem i8 {a:Addr}{xs:List V} (hn:xs.length < sizeLine) (Pv:Nat->List V->St->Hp->Prop) (h0:Pv 0 [] σ' H1) (hl:∀i ys σ H,i<=xs.length->Pv i ys σ H->ys.length<=i/\Gq K H a xs)
  (hs:∀i x ys σ H,xs[i]?=some x->Pv i ys σ H->g x σ H λσ2 H2=>tt σ2 H2 λb H3=>if b=true then te σ2 H3 (λv H4=>Pv (i + 1) (ys++[v]) σ2 H4) else Pv (i + 1) ys σ2 H3) (hd:∀ys σ H,Pv xs.length ys σ H->fin ys H) :
  HC (LP K a) g tt te σ' fin H1 :=
 jk hn Pv (λi x=>xs[i]?=some x) h0 (λi ys σ H hi p=>(hl i ys σ H hi p).1) (λi ys σ H hi p=>⟨xs,xs[i],(hl i ys σ H (CO hi) p).2,by simp [hi]⟩) (λys σ H p=>⟨xs,(hl _ ys σ H (Cc _) p).2,Cc _⟩)
  (λi ys σ H x H' hi p y=>⟨y.1,y.2 xs (hl i ys σ H (CO hi) p).2⟩) (λi x ys σ H _ yd p=>hs i x ys σ H yd p) hd
theorem vv {lo:Int}{n:Nat} (hn:n < sizeLine) (Pv:Nat->List V->St->Hp->Prop) (h0:Pv 0 [] σ' H1) (hl:∀i ys σ H,i<=n->Pv i ys σ H->ys.length<=i)
  (hs:∀i ys σ H,i < n->Pv i ys σ H->g (.int (lo + i)) σ H λσ2 H2=>tt σ2 H2 λb H3=>if b=true then te σ2 H3 (λv H4=>Pv (i + 1) (ys++[v]) σ2 H4) else Pv (i + 1) ys σ2 H3) (hd:∀ys σ H,Pv n ys σ H->fin ys H) :
  HC (Lh lo n) g tt te σ' fin H1 :=
 jk hn Pv (λi x=>x=.int (lo + i)) h0 hl (λi ys σ H hi p=>hi) (λys σ H p=>Cc _) (λi ys σ H x H' hi p y=>y) (λi x ys σ H hi yd p=>by subst yd;exact hs i ys σ H hi p) hd
theorem yi {x:Str} (hn:x.length < sizeLine) (Pv:Nat->List V->St->Hp->Prop) (h0:Pv 0 [] σ' H1) (hl:∀i ys σ H,i<=x.length->Pv i ys σ H->ys.length<=i)
  (hs:∀i c ys σ H,x.cps[i]?=some c->Pv i ys σ H->g (.str ⟨#[c]⟩) σ H λσ2 H2=>tt σ2 H2 λb H3=>if b=true then te σ2 H3 (λv H4=>Pv (i + 1) (ys++[v]) σ2 H4) else Pv (i + 1) ys σ2 H3) (hd:∀ys σ H,Pv x.length ys σ H->fin ys H) :
  HC (QH x) g tt te σ' fin H1 :=
 jk hn Pv (λi v=>∃c,x.cps[i]?=some c/\v=.str ⟨#[c]⟩) h0 hl (λi ys σ H hi p=>hi) (λys σ H p=>Cc _) (λi ys σ H v H' hi p y=>y) (λi v ys σ H hi yd p=>by obtain⟨c,e,rfl⟩:=yd;exact hs i c ys σ H e p) hd
end
section
variable {K:zz7}{tt:TT}{te:TE}{σ':St}{fin:List V->Hp->Prop}{H1:Hp}{j:Nat}
theorem eX {a:Addr}{xs:List V} (hn:xs.length < sizeLine) (Pv:Nat->List V->St->Hp->Prop) (h0:Pv 0 [] σ' H1) (hl:∀i ys σ H,i<=xs.length->Pv i ys σ H->ys.length<=i/\Gp K H a xs)
  (hs:∀i x ys σ H,xs[i]?=some x->Pv i ys σ H->te (σ.set j (some x)) H λv H4=>Pv (i + 1) (ys++[v]) (σ.set j (some x)) H4) (hd:∀ys σ H,Pv xs.length ys σ H->fin ys H):HC (LO K a) (c7 j) cu te σ' fin H1 :=
 ig hn Pv h0 hl (λi x ys σ H hx p=>by unfold c7 cu;exact aB (hs i x ys σ H hx p)) hd
theorem iX {a:Addr}{xs:List V} (hn:xs.length < sizeLine) (Pv:Nat->List V->St->Hp->Prop) (h0:Pv 0 [] σ' H1) (hl:∀i ys σ H,i<=xs.length->Pv i ys σ H->ys.length<=i/\Gq K H a xs)
  (hs:∀i x ys σ H,xs[i]?=some x->Pv i ys σ H->te (σ.set j (some x)) H λv H4=>Pv (i + 1) (ys++[v]) (σ.set j (some x)) H4) (hd:∀ys σ H,Pv xs.length ys σ H->fin ys H):HC (LP K a) (c7 j) cu te σ' fin H1 :=
 i8 hn Pv h0 hl (λi x ys σ H hx p=>by unfold c7 cu;exact aB (hs i x ys σ H hx p)) hd
theorem fC {lo:Int}{n:Nat} (hn:n < sizeLine) (Pv:Nat->List V->St->Hp->Prop) (h0:Pv 0 [] σ' H1) (hl:∀i ys σ H,i<=n->Pv i ys σ H->ys.length<=i)
  (hs:∀i ys σ H,i < n->Pv i ys σ H->te (σ.set j (some (.int (lo + i)))) H λv H4=>Pv (i + 1) (ys++[v]) (σ.set j (some (.int (lo + i)))) H4) (hd:∀ys σ H,Pv n ys σ H->fin ys H):HC (Lh lo n) (c7 j) cu te σ' fin H1 :=
 vv hn Pv h0 hl (λi ys σ H hx p=>by unfold c7 cu;exact aB (hs i ys σ H hx p)) hd
theorem nJ {x:Str} (hn:x.length < sizeLine) (Pv:Nat->List V->St->Hp->Prop) (h0:Pv 0 [] σ' H1) (hl:∀i ys σ H,i<=x.length->Pv i ys σ H->ys.length<=i)
  (hs:∀i c ys σ H,x.cps[i]?=some c->Pv i ys σ H->te (σ.set j (some (.str ⟨#[c]⟩))) H λv H4=>Pv (i + 1) (ys++[v]) (σ.set j (some (.str ⟨#[c]⟩))) H4) (hd:∀ys σ H,Pv x.length ys σ H->fin ys H):HC (QH x) (c7 j) cu te σ' fin H1 :=
 yi hn Pv h0 hl (λi c ys σ H hx p=>by unfold c7 cu;exact aB (hs i c ys σ H hx p)) hd
theorem jf {a:Addr}{xs:List V} (hn:xs.length < sizeLine) (Pv:Nat->List V->St->Hp->Prop) (h0:Pv 0 [] σ' H1) (hl:∀i ys σ H,i<=xs.length->Pv i ys σ H->ys.length<=i/\Gp K H a xs)
  (hs:∀i x ys σ H,xs[i]?=some x->Pv i ys σ H->tt (σ.set j (some x)) H λb H3=>if b=true then te (σ.set j (some x)) H3 (λv H4=>Pv (i + 1) (ys++[v]) (σ.set j (some x)) H4) else Pv (i + 1) ys (σ.set j (some x)) H3)
  (hd:∀ys σ H,Pv xs.length ys σ H->fin ys H):HC (LO K a) (c7 j) tt te σ' fin H1:=ig hn Pv h0 hl hs hd
theorem vp {a:Addr}{xs:List V} (hn:xs.length < sizeLine) (Pv:Nat->List V->St->Hp->Prop) (h0:Pv 0 [] σ' H1) (hl:∀i ys σ H,i<=xs.length->Pv i ys σ H->ys.length<=i/\Gq K H a xs)
  (hs:∀i x ys σ H,xs[i]?=some x->Pv i ys σ H->tt (σ.set j (some x)) H λb H3=>if b=true then te (σ.set j (some x)) H3 (λv H4=>Pv (i + 1) (ys++[v]) (σ.set j (some x)) H4) else Pv (i + 1) ys (σ.set j (some x)) H3)
  (hd:∀ys σ H,Pv xs.length ys σ H->fin ys H):HC (LP K a) (c7 j) tt te σ' fin H1:=i8 hn Pv h0 hl hs hd
end
section
variable {X:Cx}{pins:List (Addr×Obj)}{σ:St}{H:Hp}{s:zz8}{h':Heap}
theorem Inv.turnedS {t':Nat}{ch:List Addr} (I:Inv X pins σ H s) (k:∀b o,b∉ch->s.heap.get? b=some o->h'.get? b=some o) (hf:∀b∈ch,cj X pins H b):Inv X pins σ H { s with heap:=h',toks:=t' }:=by
 have Oj:∀b u,H b=some u->b∉ch:=λb u e z=>by rw [(hf b z).1] at e;cases e
 have hL:X.env.locals∉ch:=λz=>(hf _ z).2.1 rfl;refine I.step (g':=s.gens) (d':=s.drawn) (ch:=ch) (λb hb=>⟨(hf b hb).2.2.2.1,(hf b hb).2.1,(hf b hb).2.2.2.2.1,(hf b hb).2.2.2.2.2⟩) (λb o _ _ hc e _=>k b o hc e) (λb o _ _ hc e _=>⟨o.slots,k b o hc e⟩) (λ_ _ _ _ n=>n)
  (λb o hc e=>⟨o,k b o hc e⟩) (λ_ _ e=>e) (λ_ _ _ e=>e) (λb ps e=>⟨#[],by rw [e];simp⟩) (λm hm=>?_) (λb u e=>?_) I.bare
 ·obtain⟨o,es,ep,ho,r⟩:=hm
  exact⟨o,es,ep,k _ o hL ho,r⟩
 ·refine (I.hok b u e).stay (λc v hc q=>k c v ?_ q) (λ_ q=>q) λ_ _ q=>q
  rcases hc with z | z
  ·rw [z];exact Oj b u e
  ·exact Oj c _ z
end
def QG (K:zz7) (a b:Addr):It :=
 ⟨λi H=>∃xs ys x y,Gq K H a xs/\Gq K H b ys/\xs[i]?=some x/\ys[i]?=some y,
  λi H v H'=>∃T x y,v=.ref T/\H T=none/\H'=upd H T (.tup [x,y])/\(∀xs,Gq K H a xs->xs[i]?=some x)/\∀ys,Gq K H b ys->ys[i]?=some y,
  λi H=>∃xs ys,Gq K H a xs/\Gq K H b ys/\(xs.length<=i\/ys.length<=i)⟩
def AE (z TI TO i1 i2 l1 l2:Addr) (i:Nat) (h:Heap):Prop:=IsZip h z TI TO .none/\IsPair h TI (.ref i1) (.ref i2)/\(∃a b,IsPair h TO a b)/\h.IsListIter i1 l1 i/\h.IsListIter i2 l2 i
theorem wN {P:Program}{w:World}{K:zz7}{elts:List Expr}{x1}{pos:Pos} (z TI TO i1 i2 l1 l2:Addr) (D:ZipApart z TI TO i1 i2 l1 l2) :
  Turn P w K (.Tuple elts x1 pos) (QG K l1 l2) [z,TI,TO,i1,i2] z (AE z TI TO i1 i2 l1 l2) where
 mem:=by simp
 obj:=λi h st b hb=>by
  obtain⟨hz,G0,⟨a,c,Hi⟩,⟨o1,e1,c1,d1⟩,⟨o2,e2,c2,d2⟩⟩:=st;simp only [Ci,C2,or_false] at hb
  rcases hb with rfl | rfl | rfl | rfl | rfl
  ·exact⟨_,hz,λv q=>by cases q⟩
  ·exact⟨_,G0,λv q=>by cases q⟩
  ·exact⟨_,Hi,λv q=>by cases q⟩
  ·exact⟨_,e1,λv q=>by rw [d1] at q;cases q⟩
  ·exact⟨_,e2,λv q=>by rw [d2] at q;cases q⟩
 keep:=λi h h' st k=>by
  obtain⟨hz,G0,⟨a,c,Hi⟩,h1,h2⟩:=st;exact⟨k z (by simp) _ hz,k TI (by simp) _ G0,⟨a,c,k TO (by simp) _ Hi⟩,h1.at λo e=>k i1 (by simp) o e,h2.at λo e=>k i2 (by simp) o e⟩
 item:=by
  intro X hP hw hK hc i pins s σ H E I hf st hg;subst hP hw hK;obtain⟨xs,ys,x,y,G6,He,hx,hy⟩:=hg;obtain⟨hz,G0,⟨a,c,Hi⟩,h1,h2⟩:=id st;obtain⟨Hm,IQ,p1,Lv⟩:=I.list G6;obtain⟨Ha,Mi,p2,Qd⟩:=I.list He;obtain⟨u1,OA,N7⟩:=IQ.get hx;obtain⟨u2,Si,Rt⟩:=Mi.get hy;refine wpAny_pyNext_zip_item D hz G0 Hi h1 h2 p1.isList p2.isList (x:=u1) (y:=u2) (by simpa using OA) (by simpa using Si) λh' a1 a2 a3 a4 a5 a6 a7=>?_;refine⟨_,rfl,wpAny_letOwnedTupleGo_zip (s:={ s with heap:=h' }) a1 λJw z2 sb=>?_⟩;have Ii:=sb.extBut;generalize hT:s.heap.objs.size=T at *;have lt:∀{b:Addr}{o:Obj},s.heap.get? b=some o->b≠T:=λ{b o} e=>by rw [<- hT];exact CU (Cp e)
  have fresh:H T=none:=by rw [<- hT];exact I.hok.fresh (Cc _)
  have GQ:∀b∈[z,TI,TO,i1,i2],b≠T:=λb hb=>by
   obtain⟨o1,e1,_⟩:=h1;obtain⟨o2,e2,_⟩:=h2;simp only [Ci,C2,or_false] at hb
   rcases hb with rfl | rfl | rfl | rfl | rfl
   ·exact lt hz
   ·exact lt G0
   ·exact lt Hi
   ·exact lt e1
   ·exact lt e2
  have I0:Inv X pins σ (upd H T (.tup [x,y])) { s with heap:=s.heap.push { cls:=.type "tuple",data:=.seq #[u1,u2] },toks:=s.toks }:=by
   subst hT;exact I.laid (t':=s.toks) (λb o q=>Ce _ q) (Cc _) ⟨by show 2<=sizeLine;decide,[u1,u2],.cons N7 (.cons Rt .nil),_,Cy _ rfl,rfl,0,rfl⟩
  have up:∀b o,b∉[z,TI,TO,i1,i2]->(s.heap.push { cls:=.type "tuple",data:=.seq #[u1,u2] }).get? b=some o->Jw.get? b=some o:=λb o hb e=>by
   simp only [Ci,C2,or_false,not_or] at hb
   rcases Fx e with ⟨e1,e2⟩ | e1
   ·subst e2
    rw [e1,hT];exact Ii _ _ (GQ z (by simp)).symm a5
   ·exact Ii _ _ hb.1 (a7 b o hb.1 hb.2.2.1 hb.2.2.2.1 hb.2.2.2.2 e1)
  have I2:Inv X pins σ (upd H T (.tup [x,y])) { s with heap:=Jw,toks:=s.toks }:=Inv.turnedS (s:={ s with heap:=s.heap.push { cls:=.type "tuple",data:=.seq #[u1,u2] },toks:=s.toks }) (t':=s.toks) (ch:=[z,TI,TO,i1,i2]) I0 up λb hb=>by
   obtain⟨f0,f1⟩:=hf b hb;exact⟨by rw [av (GQ b hb)];exact f0,f1⟩
  exact⟨.ref T,upd H T (.tup [x,y]),I2,rfl,⟨T,x,y,rfl,fresh,rfl,λws hw=>by rw [I.list_inj hw G6];exact hx,λws hw=>by rw [I.list_inj hw He];exact hy⟩,
   ⟨z2,Ii _ _ D.TIz (a7 _ _ D.TIz D.TITO D.TIi1 D.TIi2 G0),⟨_,_,Ii _ _ D.TOz a2⟩,a3.at λo e=>Ii _ _ D.i1z e,a4.at λo e=>Ii _ _ D.i2z e⟩,λb hb=>by rw [av (GQ b hb)];exact (hf b hb).1⟩
 done:=by
  intro X hP hw hK hc i pins s σ H E I hf st hg;subst hP hw hK;obtain⟨xs,ys,G6,He,hx⟩:=hg;obtain⟨hz,G0,⟨a,c,Hi⟩,h1,h2⟩:=id st;obtain⟨Hm,IQ,p1,Lv⟩:=I.list G6;obtain⟨Ha,Mi,p2,Qd⟩:=I.list He;have M3:=IQ.length;have JV:=Mi.length;refine wpAny_pyNext_zip_end (I.ok.hd hc) D hz G0 Hi h1 h2 p1.isList p2.isList ?_ λh' hk=>⟨rfl,I.turnedS (t':=s.toks) (ch:=[z,TI,TO,i1,i2]) (λb o hb e=>?_) hf⟩
  ·rcases hx with q | q
   ·exact .inl (by simp;omega)
   ·exact .inr (by simp;omega)
  ·simp only [Ci,C2,or_false,not_or] at hb
   exact hk b o hb.1 hb.2.2.1 hb.2.2.2.1 hb.2.2.2.2 e
 self:=λ_ _ _ _ _ st h=>Fj st.1 h
theorem boot_zip:bootBuiltins "zip"=some (.type "zip"):=by decide +kernel
section
variable {X:Cx}
def By (K:zz7) (ta:TA):TI:=λσ H R=>ta σ H λvs H1=>∃a b xs ys,vs=[.ref a,.ref b]/\Gq K H1 a xs/\Gq K H1 b ys/\R (QG K a b) H1
theorem zN {a b:Expr}{elts:List Expr}{x1}{HQ:Pos}{ta:TA}{p pos:Pos} (hg:Gl X "zip") (hm:X.mg "zip"=none) (ha:PA X [a,b] ta) (hs:starEach [a,b] X.env=[(false,eval a X.env),(false,eval b X.env)]:=by rfl) (Hq:starEach [b] X.env=[(false,eval b X.env)]:=by rfl) :
  PI X (.Tuple elts x1 HQ) (.Call (.Name "zip" p) [a,b] [] pos) (By X.K ta):=by
 intro pins s σ H R I h;refine Call_ (e7 I hg hm boot_zip (Dp (Gu (ha pos pins s σ H _ I h) λus s1 ⟨vs,H1,I1,r1,q1⟩=>?_) (by rw [hs,Hq]) (by rw [Hq];rfl)));obtain⟨a',b',xs,ys,rfl,G6,He,q⟩:=q1;obtain⟨u1,u2,rfl,ra,rb⟩:=vals2 r1;cases ra;cases rb;obtain⟨Hm,IQ,p1,Lv⟩:=I1.list G6;obtain⟨Ha,Mi,p2,Qd⟩:=I1.list He;have l1:a' < s1.heap.objs.size:=by obtain⟨o,n,e,_⟩:=p1;exact Cp e
 have l2:b' < s1.heap.objs.size:=by obtain⟨o,n,e,_⟩:=p2;exact Cp e
 refine call_zip_2 p1.isList p2.isList λh' hz G0 Hi SW M4 hsz hk=>?_;refine Fj hz ?_;refine⟨_,[s1.heap.objs.size + 4,s1.heap.objs.size + 2,s1.heap.objs.size + 3,s1.heap.objs.size,s1.heap.objs.size + 1],_,_,H1,rfl,I1.kept (t':=s1.toks) hk,wN _ _ _ _ _ _ _ (zipApart_new l1 l2),⟨hz,G0,⟨_,_,Hi⟩,SW,M4⟩,λb hb=>?_,q⟩;have HW:s1.heap.objs.size<=b:=by
  simp only [Ci,C2,or_false] at hb
  rcases hb with rfl | rfl | rfl | rfl | rfl
  ·exact Dz _ _
  ·exact Dz _ _
  ·exact Dz _ _
  ·exact Cc _
  ·exact Dz _ _
 exact I1.fpOk HW (I1.hok.fresh HW)
end
theorem wz (l:List zz9):((List.range l.length).filterMap λ(k:Nat)=>l.toArray[(((l.length:Int) - 1) + (k:Int) * -1).toNat]?)=l.reverse:=by
 have e:(λ(k:Nat)=>l.toArray[(((l.length:Int) - 1) + (k:Int) * -1).toNat]?)=(λi=>l.toArray[i]?) ∘ (λk=>l.length - 1 - k):=by
  funext k
  have:(((l.length:Int) - 1) + (k:Int) * -1).toNat=l.length - 1 - k:=by omega
  rw [this];rfl
 have q:=PySem.W.krv_all l.toArray;rw [Cq] at q;rw [e,<- List.filterMap_map,PySem.W.krv_range,List.filterMap_reverse,q]
section
variable {prog:Program}{w:World}{A:Around}{E:zz9->zz8->Prop}{s:zz8}
theorem tW {sl:Addr}{vk:zz9}{n:Nat}{Q:Int×Int×Nat->zz8->Prop} (hs:s.heap.IsSliceOf sl .none .none vk) (pk:IsPart vk (some (-1))) (h:Q ((n:Int) - 1,-1,n) s) :
  wpAny (model prog w) A (Builtin.Slice.sliceApplied (.ref sl) (pure (n:Int))) Q E s:=by
 obtain⟨os,Jc,J0,Io⟩:=id hs;unfold Builtin.Slice.sliceApplied Builtin.Slice.sliceFields;refine B6 (B6 (C4 Jc Io (x:=.none) rfl (B6 (C4 Jc Io (x:=.none) rfl (B6 (C4 Jc Io (x:=vk) rfl (B9 ?_)))))));refine B6 (HT.mF pk ?_);show wpAny _ _ (if ((-1:Int) == 0)=true then _ else _) _ _ s;rw [if_neg (by decide)];refine B6 (slicePart_none (B6 (slicePart_none (B6 (B9 ?_)))));have e1:Builtin.Slice.sliceAdjust none none (-1) (n:Int)=((n:Int) - 1,-1):=by
  unfold Builtin.Slice.sliceAdjust;simp
 have e2:Builtin.Slice.slicePlaces ((n:Int) - 1) (-1) (-1)=n:=by
  unfold Builtin.Slice.slicePlaces;rw [if_neg (by decide)];split
  ·simp only [Int.neg_neg,Int.ediv_one];omega
  ·omega
 show wpAny _ _ (match Builtin.Slice.sliceAdjust none none (-1) (n:Int) with | (lo,hi)=>pure (lo,(-1:Int),Builtin.Slice.slicePlaces lo hi (-1))) _ _ s;rw [e1];show wpAny _ _ (pure ((n:Int) - 1,(-1:Int),Builtin.Slice.slicePlaces ((n:Int) - 1) (-1) (-1))) _ _ s;rw [e2];exact B9 h
theorem xF {t sl:Addr}{Gm:List zz9}{vk:zz9}{Q:zz9->zz8->Prop} (ht:IsTup s.heap t Gm.toArray) (hs:s.heap.IsSliceOf sl .none .none vk) (pk:IsPart vk (some (-1))) (hz:Gm.length<=sizeLine)
  (h:Q (.ref s.heap.objs.size) { s with heap:=s.heap.push { cls:=.type "tuple",data:=.seq Gm.reverse.toArray } }):wpAny (model prog w) A (getItem (.ref t) (.ref sl)) Q E s:=by
 obtain⟨os,Jc,J0,Io⟩:=id hs;have OZ:s.TypeIs (.ref sl) "slice":=⟨os,Jc,J0⟩
 have Qa:sizeOk (.seq Gm.reverse.toArray):=by
  show Gm.reverse.toArray.size<=sizeLine;rw [Cq,List.length_reverse];exact hz
 unfold getItem
 try with_reducible refine Dr ?_
 first | refine B6 (B9 ?_) | skip
 refine B6 (FP ht.typeIs (by decide) (B6 (Dh (name:=Str.ofString "__getitem__") ht.typeIs C3
  (Dn C3 ht.typeIs entry_tuple_getitem ?_ (args_tuple_getitem _ _)))))
 show wpAny _ _ (Builtin.Tuple.tupleItemsOf (.ref t) >>= _) _ _ s;refine B6 (tupleItemsOf_ ht (B6 (Fq OZ ?_)));rw [if_pos (by decide)];have hsz:Gm.toArray.size=Gm.length:=by simp
 rw [hsz];refine B6 (tW hs pk ?_);show wpAny _ _ (if ((((Gm.length:Nat):Int) - 1 == 0) && ((-1:Int) == 1) && (Gm.length == Gm.length))=true then _ else _) _ _ s;rw [if_neg (by simp),wz]
 first
  | exact B6 (m:=Builtin.Tuple.tupleExact _) (CS (B9 ⟨_,rfl,B9 h⟩) Qa)
  | exact B6 (m:=Builtin.Tuple.tupleExact _) (CS (B6 (B9 (B9 ⟨_,rfl,B9 h⟩))) Qa)
  | exact B6 (B6 (m:=Builtin.Tuple.tupleExact _) (CS (B9 (B9 ⟨_,rfl,B9 h⟩)) Qa))
  | exact B6 (B6 (m:=Builtin.Tuple.tupleExact _) (CS (B9 ⟨_,rfl,B9 h⟩) Qa))
end
section
variable {X:Cx}
def rG (K:zz7) (te:TE) (tk:TO):TE:=λσ H Q=>te σ H λx H1=>tk σ H1 λo H2=>o=some (-1)/\∃a xs,x=.ref a/\Gp K H2 a xs/\∀p,H2 p=none->Q (.ref p) (upd H2 p (.tup xs.reverse))
theorem xJ {e st:Expr}{te:TE}{tk:TO}{p2 pos:Pos} (ops:zz9->zz9->List zz9) (he:PE X e te) (hk:PO X (some st) tk) (hs:∀o i,subscripted (.Slice none none (some st) p2) false o i=operate (ops o i) (getItem o i)):PE X (.Subscript e (.Slice none none (some st) p2) pos) (rG X.K te tk):=by
 intro pins s σ H Q I h;refine Subscript_ (Gu (he pins s σ H _ I h) λv s1 ⟨x,H1,I1,r1,q1⟩=>?_);refine wpAny_Slice ?_;rw [evalPart_none];refine B9 (B9 (Gu (hk pins s1 σ H1 _ I1 q1) λvk s2 ⟨o,H2,I2,pk,q2⟩=>?_));obtain⟨rfl,a,xs,rfl,hx,q⟩:=q2;cases r1;have I4:Inv X pins σ H2 { s2 with heap:=s2.heap.push { cls:=.type "slice",data:=.fields #[.none,.none,vk] } }:=I2.kept (t':=s2.toks) λb ob q=>Ce _ q;obtain⟨Gm,r,ht,hz⟩:=I4.tuple hx;have Gs:=r.length;show wpAny (model X.prog X.w) X.A (subscriptTail e (.Slice none none (some st) p2) (.ref a) (.ref s2.heap.objs.size)) (EP X pins σ Q) X.xe { s2 with heap:=s2.heap.push { cls:=.type "slice",data:=.fields #[.none,.none,vk] } };refine tail_any (ops:=ops _ _) ht.typeIs slot_tuple_getitem.lookup ?_ (hs _ _);refine xF ht (Heap.IsSliceOf.new ..) pk (by omega) ?_;refine⟨.ref _,_,I4.laid (t':=s2.toks) (o:=.tup xs.reverse) (λb ob q=>Ce _ q) (Cc _) ⟨by rw [List.length_reverse];exact hz,Gm.reverse,r.reverse,_,Cy _ rfl,rfl,0,rfl⟩,rfl,q _ (I4.hok.fresh (Cc _))⟩
theorem yC {K:zz7}{g:TG}{tt:TT}{te:TE}{σ':St}{fin:List V->Hp->Prop}{H1:Hp}{a b:Addr}{xs ys:List V} (hn:min xs.length ys.length < sizeLine) (Pv:Nat->List V->St->Hp->Prop) (h0:Pv 0 [] σ' H1)
  (hl:∀i zs σ H,i<=min xs.length ys.length->Pv i zs σ H->zs.length<=i/\Gq K H a xs/\Gq K H b ys)
  (hs:∀i x y zs σ H T,xs[i]?=some x->ys[i]?=some y->Pv i zs σ H->H T=none->g (.ref T) σ (upd H T (.tup [x,y])) λσ2 H2=>tt σ2 H2 λb H3=>if b=true then te σ2 H3 (λv H4=>Pv (i + 1) (zs++[v]) σ2 H4) else Pv (i + 1) zs σ2 H3)
  (hd:∀zs σ H,Pv (min xs.length ys.length) zs σ H->fin zs H):HC (QG K a b) g tt te σ' fin H1:=by
 refine⟨λi m zs σ H=>m=min xs.length ys.length - i/\i<=min xs.length ys.length/\Pv i zs σ H,⟨min xs.length ys.length,by simp,Cz _,h0⟩,?_⟩;rintro i m zs σ H ⟨rfl,hi,p⟩;obtain⟨q0,q1,q2⟩:=hl i zs σ H hi p
 by_cases GO:i < min xs.length ys.length
 ·have h1:i < xs.length:=by omega
  have h2:i < ys.length:=by omega
  refine .inr ⟨⟨xs,ys,xs[i],ys[i],q1,q2,by simp [h1],by simp [h2]⟩,by omega,λJB σ2 H2=>Pv (i + 1) JB σ2 H2,λJB σ2 H2 q=>⟨min xs.length ys.length - (i + 1),by omega,rfl,GO,q⟩,λv H' y=>?_⟩;obtain⟨T,x,y,rfl,hT,rfl,e1,e2⟩:=y;exact hs i x y zs σ H T (e1 xs q1) (e2 ys q2) p hT
 ·have e:i=min xs.length ys.length:=by omega
  subst e;refine .inl ⟨⟨xs,ys,q1,q2,?_⟩,by omega,hd zs σ H p⟩
  rcases F9 xs.length ys.length with z | z
  ·exact .inl (by omega)
  ·exact .inr (by omega)
end
section
variable {κ:Type} [DecidableEq κ]
def bT (kvs:List (κ×V)) (k:κ):Option V:=(kvs.find? λkv=>decide (kv.1=k)).map (·.2)
def putK (kvs:List (κ×V)) (k:κ) (v:V):List (κ×V) :=
 if (kvs.any λkv=>decide (kv.1=k))=true then kvs.map (λkv=>if kv.1=k then (kv.1,v) else kv) else kvs++[(k,v)]
def BX (kvs:List (κ×V)) (k:κ):List (κ×V):=kvs.filter λkv=>decide (kv.1≠k)
theorem dn {p:κ×V}{r:List (κ×V)}{k:κ} (e:p.1=k):bT (p::r) k=some p.2:=by simp [bT,Er,e]
theorem dq {p:κ×V}{r:List (κ×V)}{k:κ} (e:¬ p.1=k):bT (p::r) k=bT r k:=by simp [bT,Er,e]
theorem gq (k:κ):∀kvs:List (κ×V),(kvs.any λkv=>decide (kv.1=k))=(bT kvs k).isSome
 | []=>rfl
 | p::r=>by
  rw [Fd]
  by_cases e:p.1=k
  ·simp only [dn e,decide_eq_true e,Bool.true_or,Option.isSome_some]
  ·rw [dq e,decide_eq_false e,Bool.false_or];exact gq k r
theorem nW (k j:κ) (y:V):∀kvs:List (κ×V),bT (kvs.map λkv=>if kv.1=k then (kv.1,y) else kv) j=(bT kvs j).map λx=>if j=k then y else x
 | []=>rfl
 | p::r=>by
  have ih:=nW k j y r;rw [CD]
  by_cases h:p.1=k
  ·rw [if_pos h]
   by_cases e:p.1=j
   ·rw [dn (p:=(p.1,y)) e,dn e,D1,if_pos (e.symm.trans h)]
   ·rw [dq (p:=(p.1,y)) e,dq e,ih]
  ·rw [if_neg h]
   by_cases e:p.1=j
   ·rw [dn (p:=p) e,dn e,D1,if_neg (λz=>h (e.trans z))]
   ·rw [dq (p:=p) e,dq e,ih]
theorem mS (k j:κ) (y:V):∀kvs:List (κ×V),bT kvs k=none->bT (kvs++[(k,y)]) j=if j=k then some y else bT kvs j
 | [],_=>by
  by_cases e:k=j
  ·rw [if_pos e.symm];exact dn (p:=(k,y)) e
  ·rw [if_neg (λz=>e z.symm)];exact dq (p:=(k,y)) e
 | p::r,hn=>by
  rw [Ga];have hk:¬ p.1=k:=λz=>by rw [dn z] at hn;cases hn
  rw [dq hk] at hn;have ih:=mS k j y r hn
  by_cases e:p.1=j
  ·rw [dn e,dn e,if_neg (λz=>hk (e.trans z))]
  ·rw [dq e,dq e,ih]
theorem oB (kvs:List (κ×V)) (k j:κ) (y:V):bT (putK kvs k y) j=if j=k then some y else bT kvs j:=by
 unfold putK
 by_cases a:(kvs.any λkv=>decide (kv.1=k))=true
 ·rw [if_pos a,nW]
  rw [gq] at a
  by_cases e:j=k
  ·obtain⟨x,hx⟩:=DQ.mp a
   rw [if_pos e,e,hx,D1,if_pos rfl]
  ·rw [if_neg e]
   cases bT kvs j with
   | none=>rfl
   | some x=>rw [D1,if_neg e]
 ·rw [if_neg a]
  refine mS k j y kvs ?_;rw [gq] at a;cases q:bT kvs k with
  | none=>rfl
  | some x=>rw [q] at a;exact (a rfl).elim
theorem iN (kvs:List (κ×V)) (k:κ) (v:V):(putK kvs k v).length<=kvs.length + 1:=by
 unfold putK;split
 ·rw [B8];omega
 ·rw [Di,C5,Gg];omega
theorem dP.isSome_eq {o:Option V}{u:Option zz9} (r:dP o u):o.isSome=u.isSome:=by
 cases o with
 | none=>cases u with
  | none=>rfl
  | some _=>exact (show False from r).elim
 | some _=>cases u with
  | none=>exact (show False from r).elim
  | some _=>rfl
theorem KV.val {kvs:List (κ×V)}{vs:List (κ×zz9)} (r:KV kvs vs) (k:κ):dP (bT kvs k) (valueAt vs k):=by
 unfold KV at r
 induction r with
 | nil=>exact True.intro
 | @cons p q ps qs h t ih =>
  obtain⟨h1,h2⟩:=h
  by_cases e:p.1=k
  ·have e':q.1=k:=h1.symm.trans e
   have b:valueAt (q::qs) k=some q.2:=by simp [valueAt,Er,e']
   rw [dn e,b];exact h2
  ·have e':¬ q.1=k:=λz=>e (h1.trans z)
   have b:valueAt (q::qs) k=valueAt qs k:=by simp [valueAt,Er,e']
   rw [dq e,b];exact ih
theorem KV.any {kvs:List (κ×V)}{vs:List (κ×zz9)} (r:KV kvs vs) (k:κ):(kvs.any λkv=>decide (kv.1=k))=vs.any λkv=>decide (kv.1=k):=by
 unfold KV at r
 induction r with
 | nil=>rfl
 | cons h t ih=>rw [Fd,Fd,ih,h.1]
theorem KV.repl {kvs:List (κ×V)}{vs:List (κ×zz9)} (r:KV kvs vs) (k:κ) {y:V}{u:zz9} (ry:RelV y u) :
  KV (kvs.map λkv=>if kv.1=k then (kv.1,y) else kv) (vs.map λkv=>if kv.1=k then (kv.1,u) else kv):=by
 unfold KV at r ⊢
 induction r with
 | nil=>exact .nil
 | @cons p q ps qs h t ih =>
  rw [CD,CD];refine .cons ?_ ih;obtain⟨h1,h2⟩:=h
  by_cases e:p.1=k
  ·rw [if_pos e,if_pos (h1.symm.trans e)];exact⟨h1,ry⟩
  ·rw [if_neg e,if_neg (λz=>e (h1.trans z))];exact⟨h1,h2⟩
theorem KV.put {kvs:List (κ×V)}{vs:List (κ×zz9)} (r:KV kvs vs) (k:κ) {y:V}{u:zz9} (ry:RelV y u):KV (putK kvs k y) (stored vs k u):=by
 unfold putK stored;rw [r.any k]
 by_cases e:(vs.any λkv=>decide (kv.1=k))=true
 ·rw [if_pos e,if_pos e];exact r.repl k ry
 ·rw [if_neg e,if_neg e];exact Paired.snoc r ⟨rfl,ry⟩
theorem KV.length {kvs:List (κ×V)}{vs:List (κ×zz9)} (r:KV kvs vs):kvs.length=vs.length:=Fb r
end
theorem fT {P:Program}{w:World}{k:Key}{u:zz9} (r:RelV (kV k) u):(cK P w).is k u=true:=by
 cases k with
 | inl i=>obtain⟨t,e⟩:=(show ∃t,u=Value.int i t from r);subst e;exact tS P w i t
 | inr x=>obtain⟨t,e⟩:=(show ∃t,u=Value.str x t from r);subst e;exact tT P w x t
theorem mP {P:Program}{w:World}:∀{ks:List Key}{us:List zz9},aC (ks.map kV) us->ItemsAre (cK P w) ks us
 | [],_,r=>by rw [Fv] at r;cases r;exact .nil
 | k::ks,_,r=>by
  rw [CD] at r;cases r with
  | cons h t=>exact .cons (fT h) (mP t)
abbrev KT (H:Hp):List (List Key×V)->List (List Key×Addr×zz9)->Prop:=Paired λp q=>p.1=q.1/\H q.2.1=some (.tup (p.1.map kV))/\RelV p.2 q.2.2
theorem KT.val {H:Hp}{kvs:List (List Key×V)}{xs:List (List Key×Addr×zz9)} (r:KT H kvs xs) (k:List Key):dP (bT kvs k) ((atKey xs k).map (·.2)):=by
 induction r with
 | nil=>exact True.intro
 | @cons p q ps qs h t ih =>
  obtain⟨h1,_,h2⟩:=h
  by_cases e:p.1=k
  ·have e':q.1=k:=h1.symm.trans e
   have b:atKey (q::qs) k=some q.2:=by simp [atKey,Er,e']
   rw [dn e,b];exact h2
  ·have e':¬ q.1=k:=λz=>e (h1.trans z)
   have b:atKey (q::qs) k=atKey qs k:=by simp [atKey,Er,e']
   rw [dq e,b];exact ih
theorem KT.repl {H:Hp}{kvs:List (List Key×V)}{xs:List (List Key×Addr×zz9)} (r:KT H kvs xs) (k:List Key) {y:V}{u:zz9} (ry:RelV y u) :
  KT H (kvs.map λkv=>if kv.1=k then (kv.1,y) else kv) (xs.map (putAt k u)):=by
 induction r with
 | nil=>exact .nil
 | @cons p q ps qs h t ih =>
  rw [CD,CD];refine .cons ?_ ih;obtain⟨h1,h2,h3⟩:=h;unfold putAt
  by_cases e:p.1=k
  ·rw [if_pos e,if_pos (h1.symm.trans e)];exact⟨h1,h2,ry⟩
  ·rw [if_neg e,if_neg (λz=>e (h1.trans z))];exact⟨h1,h2,h3⟩
theorem KT.put {H:Hp}{kvs:List (List Key×V)}{xs:List (List Key×Addr×zz9)} (r:KT H kvs xs) (k:List Key) {b:Addr}{y:V}{u:zz9} (hb:H b=some (.tup (k.map kV))) (ry:RelV y u) :
  KT H (putK kvs k y) (storedH xs k b u):=by
 have e:(kvs.any λkv=>decide (kv.1=k))=(atKey xs k).isSome:=by
  rw [gq,(r.val k).isSome_eq,FR]
 unfold putK storedH;rw [e]
 by_cases q:(atKey xs k).isSome=true
 ·rw [if_pos q,if_pos q];exact r.repl k ry
 ·rw [if_neg q,if_neg q];exact Paired.snoc r ⟨rfl,hb,ry⟩
theorem KT.keeps {H H':Hp}{kvs:List (List Key×V)}{xs:List (List Key×Addr×zz9)} (r:KT H kvs xs) (ht:∀b ys,H b=some (.tup ys)->H' b=some (.tup ys)):KT H' kvs xs :=
 Paired.mapP r λ_ _ z=>⟨z.1,ht _ _ z.2.1,z.2.2⟩
section
variable {P:Program}{w:World}{H:Hp}{h:Heap}{a:Addr}
theorem rm {u:HO} (ok:GU P w H h) (e:Rd H a u):bg P w H h a u:=e.ok ok
theorem gH {kvs:List (Key×V)} (ok:GU P w H h) (e:Rd H a (.dK kvs)):kvs.length<=sizeLine/\(a == sysModules)=false/\∃vs,KV kvs vs/\h.DictOf (cK P w) a vs :=
 show bg P w H h a (.dK kvs) from rm ok e
theorem lK {kvs:List (Key×V)} (ok:GU P w H h) (e:H a=some (.dK kvs)):kvs.length<=sizeLine/\(a == sysModules)=false/\∃vs,KV kvs vs/\h.DictOf (cK P w) a vs:=gH ok (.inl e)
theorem iq {ks:List Key} (ok:GU P w H h) (e:H a=some (.tup (ks.map kV))):(tupleKind (cK P w)).is h ks a:=by
 obtain⟨_,Gm,r,o,h1,h2,n,h3⟩:=(show bg P w H h a (.tup (ks.map kV)) from ok a _ e)
 exact⟨o,Gm.toArray,n,h1,h2,h3,by simpa using mP r⟩
theorem iC {kvs:List (List Key×V)} (ok:GU P w H h) (e:Rd H a (.dT kvs)):kvs.length<=sizeLine/\(a == sysModules)=false /\
  ∃xs,KT H kvs xs/\h.DictOfH (tupleKind (cK P w)) a xs:=by
 obtain⟨z,y,xs,r,o,es,ep,h1,h2,h3,h4,h5⟩:=(show bg P w H h a (.dT kvs) from rm ok e)
 refine⟨z,y,xs,r,o,es,ep,h1,h2,h3,h4,λx hx=>?_,h5⟩;have all:∀{l:List (List Key×V)}{m:List (List Key×Addr×zz9)},KT H l m->∀x∈m,(tupleKind (cK P w)).is h x.1 x.2.1:=by
  intro l m q
  induction q with
  | nil=>intro x hx;exact nomatch hx
  | @cons p q ps qs hq t ih =>
   intro x hx
   rcases Ci.mp hx with e | hx
   ·subst e
    exact iq ok (by rw [<- hq.1];exact hq.2.1)
   ·exact ih x hx
 exact all r x hx
theorem AI {kvs:List (List Key×V)} (ok:GU P w H h) (e:H a=some (.dT kvs)):kvs.length<=sizeLine/\(a == sysModules)=false /\
  ∃xs,KT H kvs xs/\h.DictOfH (tupleKind (cK P w)) a xs:=iC ok (.inl e)
end
def fk (H:Hp) (a:Addr) (y:V) (r:Option V):Prop :=
 (∃kvs k,Rd H a (.dK kvs)/\y=kV k/\r=bT kvs k)\/∃kvs k b,Rd H a (.dT kvs)/\y=.ref b/\H b=some (.tup (k.map kV))/\r=bT kvs k
def rX (H:Hp) (a:Addr) (y v:V) (H':Hp):Prop :=
 (∃kvs k,H a=some (.dK kvs)/\y=kV k/\kvs.length < sizeLine/\H'=upd H a (.dK (putK kvs k v))) \/
 ∃kvs k b,H a=some (.dT kvs)/\y=.ref b/\H b=some (.tup (k.map kV))/\kvs.length < sizeLine/\H'=upd H a (.dT (putK kvs k v))
section
variable {X:Cx}{pins:List (Addr×Obj)}{σ:St}{H:Hp}{s:zz8}{a:Addr}{y v:V}{u r:zz9}{o:Option V}{A:Around}{E:zz9->zz8->Prop}
theorem Inv.big (I:Inv X pins σ H s):sysModules < s.heap.objs.size:=by
 have h:mainGlobals < s.heap.objs.size:=(I.mod.glob.keeps I.bk).lt;exact Nat.lt_trans (by decide) h
theorem vD {Q:zz9->zz8->Prop} (hu:A.units + 1 < cLine) (I:Inv X pins σ H s) (g:fk H a y (some v)) (ry:RelV y u) (h:∀w' s',Inv X pins σ H s'->RelV v w'->Q w' s') :
  wpAny (model X.prog X.w) A (getItem (.ref a) u) Q E s:=by
 rcases g with ⟨kvs,k,e,ey,l⟩ | ⟨kvs,k,b,e,ey,eb,l⟩
 ·subst ey
  obtain⟨z,hd,vs,rel,dd⟩:=gH I.hok e;obtain⟨w',hw,Hl⟩:=dP.some_of (v:=v) (o:=valueAt vs k) (by rw [l];exact rel.val k);exact wpAny_getItem_of (fT ry) dd.mapOf hw (h w' _ (I.tok _) Hl)
 ·subst ey
  cases (show u=Value.ref b from ry);obtain⟨z,hd,xs,rel,dd⟩:=iC I.hok e;obtain⟨w',hw,Hl⟩:=dP.some_of (v:=v) (o:=(atKey xs k).map (·.2)) (by rw [l];exact rel.val k);obtain⟨p,hp,JT⟩:=Option.map_eq_some_iff.mp hw;refine wpAny_getItem_heap (EN hu) (iq I.hok eb) dd hp ?_;rw [JT];exact h w' _ (I.tok _) Hl
theorem Bh {Q:zz9->zz8->Prop} (hu:A.units + 1 < cLine) (I:Inv X pins σ H s) (g:fk H a y o) (ry:RelV y u) (h:∀s',Inv X pins σ H s'->Q (.bool o.isSome) s') :
  wpAny (model X.prog X.w) A (compareOp .In u (.ref a)) Q E s:=by
 rcases g with ⟨kvs,k,e,ey,l⟩ | ⟨kvs,k,b,e,ey,eb,l⟩
 ·subst ey
  obtain⟨z,hd,vs,rel,dd⟩:=gH I.hok e;refine wpAny_in_of (fT ry) hd dd.mapOf ?_;rw [<- (rel.val k).isSome_eq,<- l];exact h _ (I.tok _)
 ·subst ey
  cases (show u=Value.ref b from ry);obtain⟨z,hd,xs,rel,dd⟩:=iC I.hok e;refine wpAny_in_heap (EN hu) (iq I.hok eb) hd dd ?_;have q:=(rel.val k).isSome_eq;rw [FR] at q;rw [<- q,<- l];exact h _ (I.tok _)
theorem xZ {Q:zz9->zz8->Prop} (hu:A.units + 1 < cLine) (I:Inv X pins σ H s) (g:fk H a y o) (ry:RelV y u) (h:∀s',Inv X pins σ H s'->Q (.bool (!o.isSome)) s') :
  wpAny (model X.prog X.w) A (compareOp .NotIn u (.ref a)) Q E s:=by
 rcases g with ⟨kvs,k,e,ey,l⟩ | ⟨kvs,k,b,e,ey,eb,l⟩
 ·subst ey
  obtain⟨z,hd,vs,rel,dd⟩:=gH I.hok e;refine wpAny_notIn_of (fT ry) hd dd.mapOf ?_;rw [<- (rel.val k).isSome_eq,<- l];exact h _ (I.tok _)
 ·subst ey
  cases (show u=Value.ref b from ry);obtain⟨z,hd,xs,rel,dd⟩:=iC I.hok e;refine wpAny_notIn_heap (EN hu) (iq I.hok eb) hd dd ?_;have q:=(rel.val k).isSome_eq;rw [FR] at q;rw [<- q,<- l];exact h _ (I.tok _)
theorem jj {h':Heap}{t':Nat}{ob:HO} (I:Inv X pins σ H s) (mu:Pf (H a)) (hs:Heap.SameBut a s.heap h') (he:∃q,h'.get? a=some q) (new:bg X.prog X.w (upd H a ob) h' a ob) :
  Inv X pins σ (upd H a ob) { s with heap:=h',toks:=t' } :=
 I.write (x:=a) (e:=a) mu (.inl rfl) (λb q hb z=>(hs.2 b hb).trans z) he new
theorem lE {P:Program}{w:World}{H':Hp}{h':Heap}{kvs:List (Key×V)}{vs:List (Key×zz9)} (z:kvs.length<=sizeLine) (hd:(a == sysModules)=false) (rel:KV kvs vs) (dd:h'.DictOf (cK P w) a vs) :
  bg P w H' h' a (.dK kvs):=⟨z,hd,vs,rel,dd⟩
theorem uW {H':Hp}{Q:Unit->zz8->Prop} (hu:A.units + 1 < cLine) (I:Inv X pins σ H s) (g:rX H a y v H') (ry:RelV y u) (rv:RelV v r) (h:∀s',Inv X pins σ H' s'->Q () s') :
  wpAny (model X.prog X.w) A (setItem (.ref a) u r) Q E s:=by
 rcases g with ⟨kvs,k,e,ey,l,eH⟩ | ⟨kvs,k,b,e,ey,eb,l,eH⟩
 ·subst ey eH
  obtain⟨z,hd,vs,rel,dd⟩:=lK I.hok e;have hz:vs.length<=sizeLine:=by rw [<- rel.length];exact z
  have hl:(putK kvs k v).length<=sizeLine:=by have:=iN kvs k v;omega
  refine wpAny_setItem_pairs (hsz:=hz) (fT ry) dd λh' Jh hs=>h _ ?_;have he:∃q,h'.get? a=some q:=let ⟨q,_,_,hq,_⟩:=Jh;⟨q,hq⟩;exact jj I (by rw [e];exact True.intro) hs he (lE hl hd (rel.put k rv) Jh)
 ·subst ey eH
  cases (show u=Value.ref b from ry);obtain⟨z,hd,xs,rel,dd⟩:=AI I.hok e;have hz:xs.length<=sizeLine:=by rw [<- Fb rel];exact z
  have hl:(putK kvs k v).length<=sizeLine:=by have:=iN kvs k v;omega
  refine wpAny_setItem_heap (hsz:=hz) (EN hu) (iq I.hok eb) dd λh' Jh hs=>h _ ?_;obtain⟨q,es,ep,hq,h2,h3,h4,_,h5⟩:=Jh;refine jj I (by rw [e];exact True.intro) hs ⟨q,hq⟩ ⟨hl,hd,_,(rel.put k eb rv).keeps λc ys ec=>?_,q,es,ep,hq,h2,h3,h4,h5⟩;rw [av (rN ec e (λz=>nomatch z))];exact ec
end
section
variable {X:Cx}{pins:List (Addr×Obj)}{σ:St}{H:Hp}{s:zz8}{a:Addr}{kvs:List (Key×V)}{k:Key}{u:zz9}{A:Around}{E:zz9->zz8->Prop}
theorem rB {Q:zz9->zz8->Prop} (I:Inv X pins σ H s) (e:Rd H a (.dK kvs)) (h:∀t s',Inv X pins σ H s'->Q (.int kvs.length t) s'):wpAny (model X.prog X.w) A (call (.builtin "len") [.ref a]) Q E s:=by
 obtain⟨z,hd,vs,rel,dd⟩:=gH I.hok e;refine call_len_dict hd dd (by rw [<- rel.length];rw [DO] at z;omega) ?_;rw [<- rel.length];exact h _ _ (I.tok _)
end
def sR (i:Expr):Prop:=∀ov iv,subscripted i false ov iv=operate [ov,iv] (getItem ov iv)
theorem xB {prog:Program}{w:World}{A:Around}{E:zz9->zz8->Prop}{s:zz8}{env:Env}{value slice:Expr}{pos:Pos}{T id:String}{Q:zz9->zz8->Prop}
  (hl:typeLookup (.type T) "__getitem__"=pure (some (.builtin id))) (hs:sR slice)
  (h:wpAny (model prog w) A (eval value env) (λo s₁=>wpAny (model prog w) A (eval slice env) (λi s₂=>s₂.TypeIs o T/\wpAny (model prog w) A (getItem o i) Q E s₂) E s₁) E s) :
  wpAny (model prog w) A (eval (.Subscript value slice pos) env) Q E s:=by
 refine Subscript_ (DD h (λo s₁ h₁=>DD h₁ (λi s₂ h₂=>?_) λ_ _ x=>x) λ_ _ x=>x);obtain⟨hT,h₂⟩:=h₂;unfold subscriptTail;refine B6 ?_;rw [getitemInPython_of_ne hT.not_modules];refine B6 (wpAny_specialOf hT hl ?_);have fin:wpAny (model prog w) A (subscripted slice false o i) (λr s₃=>wpAny (model prog w) A (letTemporaryGo value o r >>= λ_=>pure r) Q E s₃) E s₂:=by
  rw [hs o i];exact wpAny_operating (DD h₂ (λr s₃ h₃=>B6 (wpAny_letTemporaryGo (B9 h₃))) λ_ _ x=>x)
 first
  | exact B9 (B6 fin)
  | exact B6 (B9 (B6 fin))
  | exact B6 fin
theorem tX {X:Cx}{pins:List (Addr×Obj)}{σ:St}{H:Hp}{s:zz8}{a:Addr}{y:V}{o:Option V} (I:Inv X pins σ H s) (g:fk H a y o):s.TypeIs (.ref a) "dict":=by
 rcases g with ⟨kvs,k,e,_,_⟩ | ⟨kvs,k,b,e,_,_,_⟩
 ·obtain⟨_,_,vs,_,dd⟩:=gH I.hok e
  exact dd.typeIs
 ·obtain⟨_,_,xs,_,dd⟩:=iC I.hok e
  exact dd.typeIs
def AF (td ty:TE):TE:=λσ H Q=>td σ H λx H1=>ty σ H1 λy H2=>∃a v,x=.ref a/\fk H2 a y (some v)/\Q v H2
def AX (ty td:TE):TE:=λσ H Q=>ty σ H λy H1=>td σ H1 λx H2=>∃a o,x=.ref a/\fk H2 a y o/\Q (.bl o.isSome) H2
def xC (ty td:TE):TE:=λσ H Q=>ty σ H λy H1=>td σ H1 λx H2=>∃a o,x=.ref a/\fk H2 a y o/\Q (.bl (!o.isSome)) H2
def An (td ty tv:TE):TS:=λD σ H=>tv σ H λv H1=>td σ H1 λx H2=>ty σ H2 λy H3=>∃a H4,x=.ref a/\rX H3 a y v H4/\D.nx σ H4
section
variable {X:Cx}{o i e value:Expr}{pos HU HQ:Pos}{td ty tv:TE}
theorem jn (hu:X.A.units + 1 < cLine) (ho:PE X o td) (hi:PE X i ty) (hs:sR i):PE X (.Subscript o i pos) (AF td ty):=by
 intro pins s σ H Q I h;refine xB PySem.F.slot_dict_getitem.lookup hs (Gu (ho pins s σ H _ I h) λu s1 ⟨x,H1,I1,rx,q1⟩=>Gu (hi pins s1 σ H1 _ I1 q1) λiv s2 ⟨y,H2,I2,ry,a,v,ex,g,q2⟩=>?_);subst ex;obtain rfl:u=Value.ref a:=rx;exact⟨tX I2 g,vD hu I2 g ry λw' s3 I3 Hl=>⟨v,H2,I3,Hl,q2⟩⟩
theorem zB (hu:X.A.units + 1 < cLine) (hi:PE X i ty) (ho:PE X o td):PC X .In i o (AX ty td):=by
 intro pins s σ H Q I h;refine Gu (hi pins s σ H _ I h) λiv s1 ⟨y,H1,I1,ry,q1⟩=>Gu (ho pins s1 σ H1 _ I1 q1) λu s2 ⟨x,H2,I2,rx,a,ov,ex,g,q2⟩=>?_;subst ex;obtain rfl:u=Value.ref a:=rx;exact Bh hu I2 g ry λs3 I3=>⟨.bl ov.isSome,H2,I3,rfl,q2⟩
theorem vq (hu:X.A.units + 1 < cLine) (hi:PE X i ty) (ho:PE X o td):PC X .NotIn i o (xC ty td):=by
 intro pins s σ H Q I h;refine Gu (hi pins s σ H _ I h) λiv s1 ⟨y,H1,I1,ry,q1⟩=>Gu (ho pins s1 σ H1 _ I1 q1) λu s2 ⟨x,H2,I2,rx,a,ov,ex,g,q2⟩=>?_;subst ex;obtain rfl:u=Value.ref a:=rx;exact xZ hu I2 g ry λs3 I3=>⟨.bl (!ov.isSome),H2,I3,rfl,q2⟩
theorem yj (hu:X.A.units + 1 < cLine) (ho:PE X o td) (hi:PE X i ty) (hv:PE X value tv) (hs:swapsWith value (some (.Subscript o i HU)) pos.line X.env=pure false) :
  PS X (.Assign [.Subscript o i HU] value pos) (An td ty tv):=by
 intro pins s σ H D I h;refine wpAny_Assign_Subscript (Gu (hv pins s σ H _ I h) λr s1 ⟨v,H1,I1,rv,q1⟩=>Gu (ho pins s1 σ H1 _ I1 q1) λu s2 ⟨x,H2,I2,rx,q2⟩=>Gu (hi pins s2 σ H2 _ I2 q2) λiv s3 ⟨y,H3,I3,ry,a,H4,ex,g,q3⟩=>?_) hs;subst ex;obtain rfl:u=Value.ref a:=rx;exact uW hu I3 g ry rv λs4 I4=>⟨σ,H4,I4,q3⟩
end
theorem ky {P:Program}{w:World}{H:Hp} (h:Heap) (hb:sysModules < h.objs.size):bg P w H (h.push { cls:=.type "dict",data:=.dict #[] }) h.objs.size (.dK []) :=
 ⟨Cz _,beq_eq_false_iff_ne.mpr (Dy (CU hb)),[],.nil,Heap.DictOf.new h⟩
def lA:TE:=λ_ H Q=>∀p,H p=none->Q (.ref p) (upd H p (.dK []))
section
variable {X:Cx}{pos:Pos}
theorem wu:PE X (.Dict [] [] pos) lA:=λpins s σ H Q I h =>
 wpAny_Dict_empty ⟨.ref s.heap.objs.size,_,I.laid (a:=s.heap.objs.size) (o:=.dK []) (t':=s.toks) (λ_ _ q=>Ce _ q) (Cc _) (ky s.heap I.big),rfl,h _ (I.hok.fresh (Cc _))⟩
end
section
variable {prog:Program}{w:World}{A:Around}{R:Result->zz8->Prop}{s:zz8}
theorem xX {kx vx tg iter:Expr}{ifs:List Expr}{scope:Scope}{pos:Pos}{it:zz9}{D:Addr}{env:Env} (J:Nat->zz8->Prop)
  (turn:∀n s,J n s->wpAny (model prog w) A (pyNext it) (λr s1=>match r with
   | none=>R (.ok .next) s1
   | some v=>wpAny (model prog w) A (letOwnedTupleGo tg it v) (λ_ s2=>wpAny (model prog w) A (assign tg env v) (λ_ s3 =>
     wpAny (model prog w) A (forIn ifs true λc r=>if r=true then do let ok <- isTrue c env (eval c env);pure (ForInStep.yield ok) else pure (ForInStep.yield r)) (λok s4 =>
      if ok=true then wpAny (model prog w) A (eval kx env) (λy s5=>wpAny (model prog w) A (eval vx env) (λx s6=>wpAny (model prog w) A (dictSet D y x) (λ_ s7=>∃m,m < n/\J m s7) (λ_ _=>False) s6) (λ_ _=>False) s5) (λ_ _=>False) s4
      else ∃m,m < n/\J m s4) (λ_ _=>False) s3) (λ_ _=>False) s2) (λ_ _=>False) s1) (λ_ _=>False) s)
  (n:Nat) (h:J n s):codeAny (model prog w) A (.compLoop (.DictComp kx vx [⟨tg,iter,ifs,0⟩] scope pos) 0 it (.ref D) env) R s:=by
 refine codeAny_loop rfl J (λk t hJ=>?_) n h;show wpAny _ A ((compTurn (.DictComp kx vx [⟨tg,iter,ifs,0⟩] scope pos) 0 it (.ref D) env).onRaise (λx=>do noteFrame x env;theTreesLotGoes x)) _ _ t;refine wpAny_noted (DD (E:=λ_ _=>False) ?_ (λ_ _ q=>q) λ_ _ f=>f.elim);rw [compTurn_dict];refine B6 (EC (B6 (Gu (turn k t hJ) λr s1 h1=>?_)));cases r with
 | none=>exact B9 h1
 | some v =>
  refine B6 (Gu h1 λ_ s2 h2=>B6 (Gu h2 λ_ s3 h3=>B6 (Gu h3 λok s4 h4=>?_)));cases ok with
  | false=>exact B9 ⟨rfl,h4⟩
  | true=>exact B6 (B6 (Gu h4 λy s5 h5=>B6 (Dr (Gu h5 λx s6 h6=>B6 (EC (Dr (Gu h6 λ_ s7 h7=>B9 ⟨rfl,h7⟩)))))))
end
theorem yp {b D C:Nat} (h:b < D) (e:C=D + 1) (z:b=C):False:=by omega
section
variable {X:Cx}{scope:Scope}{N:List Str}{ix:List (Option Nat)}
theorem yZ {pins pins':List (Addr×Obj)}{σ σ':St}{H2 H':Hp}{s2 s':zz8}{C:Addr}{fp:List Addr}{h':Heap} (I2:Inv X pins σ H2 s2) (hf:∀b∈fp,cj X pins H2 b)
  (I':Inv (be X scope N C s2 H2 fp) pins' σ' H' s') (hC:s2.heap.objs.size<=C) (hs:∀b o,b≠C->s'.heap.get? b=some o->h'.get? b=some o):Inv X pins σ H' { s' with heap:=h' }:=by
 have B:Un (GR X.stack) fp H2 H' s2.heap s'.heap:=I'.base;have Ij:∀b o,s2.heap.get? b=some o->b≠C:=λb o e=>CU (CC (Cp e) hC);have To:H' C=none:=I'.free;have tC:∀b u,H' b=some u->b≠C:=λb u e=>bh e To;refine I2.call' (s':={ s' with heap:=h' }) (ch:=fp) I'.os ⟨λb o e n hb hx=>?_,λb o e n hb hx=>?_,λb o e n hx=>?_,λb o e hx=>?_,λb xs e=>?_,λb o u e=>?_,λb ps e=>?_⟩ (λb u e=>?_) I'.bare λb hb=>⟨(hf b hb).2.2.2.1,(hf b hb).2.1,(hf b hb).2.2.2.2.1,(hf b hb).2.2.2.2.2⟩
 ·exact hs b o (Ij b o e) (B.keep b o e n hb hx)
 ·obtain⟨sl,q⟩:=B.slot b o e n hb hx
  exact⟨sl,hs b _ (Ij b o e) q⟩
 ·exact B.free b o e n hx
 ·obtain⟨o',q⟩:=B.there b o e hx
  exact⟨o',hs b o' (Ij b o e) q⟩
 ·exact B.tups b xs e
 ·exact B.frzs b o u e
 ·exact B.tbls b ps e
 ·refine (I'.hok b u e).stay (λc v hc q=>hs c v ?_ q) (λc q=>q) λc xs q=>q
  rcases hc with z | z
  ·rw [z];exact tC b u e
  ·exact tC c _ z
variable {tg iter kx vx:Expr}{ifs:List Expr}{pos:Pos}{g:TG}{tt:TT}{tk tv:TE}
end
inductive lg (A:Around) (s:zz8):List (zz9×zz9)->List (Bool×Bool)->Prop
 | nil:lg A s [] []
 | cons {v u:zz9}{e b:Bool}{r:List (zz9×zz9)}{cs:List (Bool×Bool)}:SeqAt.EqAt A s v u e ->
   (e=false->∀(prog:Program) (w:World) (E:zz9->zz8->Prop) (Q:zz9->zz8->Prop),Q (.bool b) s->wpAny (model prog w) A (richCompare .Lt v u) Q E s)->lg A s r cs->lg A s ((v,u)::r) ((e,b)::cs)
section
open PySem.SeqAt
open PySem.AutoSeq1 (wpAny_loadPart')
open PySem.MeetsSeq PySem.MeetsSeq2 PySem.MeetsSeq3
end
section
variable {prog:Program}{w:World}{A:Around}{E:zz9->zz8->Prop}{s:zz8}
end
section
variable {prog:Program}{w:World}{A:Around}{R:Result->zz8->Prop}{I:Addr}{fp wr:List Addr}{n:Nat}{P:Nat->zz9->Prop}{St:Nat->Heap->Prop}
end
section
variable {prog:Program}{w:World}{A:Around}{E:zz9->zz8->Prop}{s:zz8}
end
end L2
namespace L2
open PySem PySem.Spec PyProof.Rows PySem.W PySem.Calls
def Po (vs:Array zz9) (a0:zz9):Prop:=vs[0]?=some a0/\vs[2]?=some Value.none
def iH (fl:zz9) (h:Heap) (e T:Addr) (cls a0:zz9) (dx:Option Addr):Prop:=∃oe vs oT ts,h.get? e=some oe/\oe.cls=cls/\Po vs a0/\oe.data=Data.fields vs/\vs[1]?=some (Value.ref T)/\T≠e/\h.get? T=some oT/\oT.data=Data.fields ts/\ts[3]?=some fl/\oe.dict=dx
abbrev Lc:Heap->Addr->Addr->zz9->zz9->Option Addr->Prop:=iH .none
def GX (P:Program) (w:World):Ht:=λouter H s E e s'=>∃(ea T:Addr) (cls a0:zz9) (dx:Option Addr) (H':Hp),e=.ref ea/\s'.os=s.os/\AllBare s'.gens/\Un (GR outer) [] H H' s.heap s'.heap/\GU P w H' s'.heap/\s.heap.get? ea=none/\s.heap.get? T=none/\H' ea=none/\H' T=none/\Lc s'.heap ea T cls a0 dx/\E cls dx H'
theorem fW {h base:Heap}:∀{l:List Env},h.FunFrames base l->∀b∈GR l,∃o,h.get? b=some o/\∀vs:Array zz9,o.data≠Data.fields vs
 | [],_,b,hb=>by simp [GR] at hb
 | e::l,k,b,hb=>by
  simp only [Heap.FunFrames] at k;obtain⟨k1,⟨L,o,k2,k3,k4,k5⟩,k6⟩:=k;unfold GR at hb;rw [Ej,k2] at hb
  rcases Ci.mp hb with z | z
  ·rw [z];exact⟨o,k4,k5⟩
  ·exact fW k6 b z
theorem vz (o:Obj) (f:Array zz9->Array zz9):(o.mapFields f).dict=o.dict:=by
 obtain⟨c,d,dt,sl⟩:=o;cases dt <;> rfl
structure Moved (fr:List Addr) (g:List Addr) (h h':Heap):Prop where
 keep:∀b o,h.get? b=some o->b∉fr->b∉g->h'.get? b=some o
 slot:∀b o,h.get? b=some o->b∈fr->∃sl,h'.get? b=some { o with slots:=sl }
section
variable {M:Model}{A:Around}{E:zz9->zz8->Prop}{s:zz8}{env:Env}{outer:List Env}{L e T:Addr}{base:Heap}{cls a0:zz9}{dx:Option Addr}{Q:Unit->zz8->Prop}
theorem pe {oe:Obj}{vs:Array zz9}{head:zz9}{ZN:Bool}
  (hf:A.frames=some (env::outer)) (ff:s.heap.FunFrames base (env::outer)) (hL:env.frame=some L) (he:s.heap.get? e=some oe) (hd:oe.data=Data.fields vs) (hz:1 < vs.size) (h0:Po vs a0)
  (k:∀(h':Heap) (T':Addr),Moved (GR (env::outer)) [e] s.heap h'->s.heap.get? T'=none->iH (rawInt L) h' e T' oe.cls a0 oe.dict->Q () { s with heap:=h' }) :
  wpAny M A (do let a <- frameOf env;let pl <- entryPlaceOf L ZN;let b <- EntryCells.newEntry head a .none (rawInt L) .none pl;setField (.ref e) 1 b) Q E s:=by
 have Wd:e∉GR (env::outer):=λhm=>by
  obtain⟨o,q,nf⟩:=fW ff e hm;rw [he] at q;cases q;exact nf _ hd
 refine B6 (wpAny_frameOf_fun hf ff hL λg1 so=>B6 (wpAny_entryPlaceOf λpl GY=>?_));unfold EntryCells.newEntry newFields;refine B6 (CS ?_ (GY.sizeOk5 _ _ _ _ _));generalize Vx:({ cls:=.type "traceback",dict:=none,data:=.fields ([head,.ref L,.none,rawInt L,.none]++(if pl.isEmpty then List.replicate 6 Value.none else pl)).toArray }:Obj)=ob;have XR:ob.isFreed=false:=by rw [<- Vx];rfl
 have e1:g1.get? e=some oe:=(so.2.1 e Wd).trans he;have nz:g1.objs.size≠e:=FZ (Cp e1);have e2:=Ce (h:=g1) ob e1;refine Ee e2 hd hz ?_;have VP:=DN hd (λz=>z.setIfInBounds 1 (Value.ref g1.objs.size));have e3:=DK (Obj.mapFields λz=>z.setIfInBounds 1 (Value.ref g1.objs.size)) e2 (D2 VP);have fresh:s.heap.get? g1.objs.size=none:=by
  cases hc:s.heap.get? g1.objs.size with
  | none=>rfl
  | some o =>
   obtain⟨sl,q⟩:=so.2.2 _ o hc;exact absurd (Cp q) (DI _)
 have up:∀b o,b≠e->g1.get? b=some o->((g1.push ob).update e (Obj.mapFields λz=>z.setIfInBounds 1 (Value.ref g1.objs.size))).get? b=some o:=λb o n q=>by
  rw [Ds _ _ (Dy n)];exact Ce _ q
 refine k _ g1.objs.size ⟨λb o q hb hg=>up b o (λz=>hg (by simp [z])) ((so.2.1 b hb).trans q),λb o q hb=>?_⟩ fresh ⟨_,_,ob,_,e3,FS _ _,?_,VP,?_,nz,?_,by rw [<- Vx],?_,vz _ _⟩
 ·obtain⟨sl,q1⟩:=so.2.2 b o q
  exact⟨sl,up b _ (λz=>Wd (z ▸ hb)) q1⟩
 ·exact⟨by rw [Fm (by decide)];exact h0.1,by rw [Fm (by decide)];exact h0.2⟩
 ·simp [hz]
 ·rw [Ds _ _ (Dy nz)]
  exact Cy g1 XR
 ·first | (simp;done) | (rcases GY with rfl | ⟨_,_,_,_,_,_,_,rfl⟩ <;> simp)
theorem ground {fl:zz9} (ht:iH fl s.heap e T cls a0 dx)
  (k:∀h':Heap,(∀b,b≠T->h'.get? b=s.heap.get? b)->Lc h' e T cls a0 dx->Q () { s with heap:=h' }) :
  wpAny M A (setFlight (.ref e) none) Q E s:=by
 obtain⟨oe,vs,oT,ts,h1,h2,h3,h4,h5,h6,h7,h8,h9,Tr⟩:=ht;have z3:3 < ts.size:=(D3.mp h9).1;unfold setFlight;refine B6 (C4 h1 h4 h5 ?_);rw [if_pos (show (Value.ref T != Value.none)=true from by simp)];refine Ee h7 h8 z3 (k _ (λb n=>Ds _ _ (Dy n)) ?_);have d8:=DN h8 (λz=>z.setIfInBounds 3 ((none:Option Addr).elim Value.none λf=>rawInt f));exact⟨oe,vs,_,_,(Ds _ _ h6).trans h1,h2,h3,h4,h5,h6,DK _ h7 (D2 d8),d8,by simp [z3],Tr⟩
theorem wq {oe:Obj}{vs:Array zz9} (hf:A.frames=some (env::outer)) (hL:env.frame=some L) (ff:s.heap.FunFrames base (env::outer)) (h1:s.heap.get? e=some oe) (h2:oe.data=Data.fields vs) (h3:vs[1]?=some Value.none) (h4:Po vs a0)
  (k:∀(h':Heap) (T':Addr),Moved (GR (env::outer)) [e] s.heap h'->s.heap.get? T'=none->iH (rawInt L) h' e T' oe.cls a0 oe.dict->Q () { s with heap:=h' }) :
  wpAny M A (noteFrame (.ref e) env) Q E s:=by
 unfold noteFrame;simp only [hL];refine B6 (C4 h1 h2 h3 ?_);rw [if_neg (by decide)];exact pe hf ff hL h1 h2 (D3.mp h3).1 h4 k
theorem mT (hf:A.frames=some (env::outer)) (hL:env.frame=some L) (ff:s.heap.FunFrames base (env::outer)) (ht:Lc s.heap e T cls a0 dx)
  (k:∀(h':Heap) (T':Addr),Moved (GR (env::outer)) [e,T] s.heap h'->s.heap.get? T'=none->iH (rawInt L) h' e T' cls a0 dx->Q () { s with heap:=h' }) :
  wpAny M A (noteFrame (.ref e) env) Q E s:=by
 obtain⟨oe,vs,oT,ts,h1,rfl,h3,h4,h5,h6,h7,h8,h9,rfl⟩:=ht;unfold noteFrame;simp only [hL];refine B6 (C4 h1 h4 h5 ?_);rw [if_pos (show (Value.ref T != Value.none)=true from by simp)];refine B6 (C4 h7 h8 h9 ?_);rw [if_neg (show ¬ ((Value.none == rawInt L)=true) from by simp [rawInt])];refine B6 (Ee h7 h8 (D3.mp h9).1 ?_);have Oe:∀b,b≠T->(s.heap.update T (Obj.mapFields λz=>z.setIfInBounds 3 Value.none)).get? b=s.heap.get? b:=λb n=>Ds _ _ (Dy n);have nT:∀b,b∈GR (env::outer)->b≠T:=λb hb z=>by
  obtain⟨o,q,nf⟩:=fW ff b hb;rw [z,h7] at q;cases q;exact nf _ h8
 refine pe (s:={ s with heap:=s.heap.update T (Obj.mapFields λz=>z.setIfInBounds 3 Value.none) }) hf (ff.of_keeps λb o q nf=>⟨o,(Oe b λz=>?_).trans q,rfl⟩) hL ((Oe e (Dy h6)).trans h1) h4 (D3.mp h5).1 h3 λh' T' mv nw tr=>k h' T' ⟨λb o q hb hg=>?_,λb o q hb=>?_⟩ ?_ tr
 ·rw [z,h7] at q;cases q
  exact nf _ h8
 ·exact mv.keep b o ((Oe b λz=>hg (by simp [z])).trans q) hb λz=>hg (by simp at z;simp [z])
 ·exact mv.slot b o ((Oe b (nT b hb)).trans q) hb
 ·have z:T'≠T:=λz=>by
   have d8:=DN h8 (λz=>z.setIfInBounds 3 Value.none);have g7:=DK (Obj.mapFields λz=>z.setIfInBounds 3 Value.none) h7 (D2 d8);have UN:(s.heap.update T (Obj.mapFields λz=>z.setIfInBounds 3 Value.none)).get? T'=none:=nw;rw [z,g7] at UN;cases UN
  exact (Oe T' z).symm.trans nw
theorem Moved.ground {fr g:List Addr}{h h' Jw:Heap} (m:Moved fr g h h') (nT:h.get? T=none) (nf:∀b∈fr,∃o,h.get? b=some o) (k:∀b,b≠T->Jw.get? b=h'.get? b):Moved fr g h Jw :=
 ⟨λb o q hb hg=>(k b λz=>by rw [z,nT] at q;cases q).trans (m.keep b o q hb hg),λb o q hb=>by
  obtain⟨sl,e⟩:=m.slot b o q hb
  exact⟨sl,(k b λz=>by rw [z,nT] at q;cases q).trans e⟩⟩
theorem tQ (hf:A.frames=some (env::outer)) (hL:env.frame=some L) (ff:s.heap.FunFrames base (env::outer)) (ht:Lc s.heap e T cls a0 dx)
  (k:∀(h':Heap) (T':Addr),Moved (GR (env::outer)) [e,T] s.heap h'->s.heap.get? T'=none->Lc h' e T' cls a0 dx->Q () { s with heap:=h' }) :
  wpAny M A (leaving env (.ref e)) Q E s:=by
 unfold leaving;refine B6 (mT hf hL ff ht λh1 T1 mv nw tr=>ground tr λh2 same NP=>k h2 T1 (mv.ground nw (λb hb=>let ⟨o,q,_⟩:=fW ff b hb;⟨o,q⟩) same) nw NP)
theorem leave_new {oe:Obj}{vs:Array zz9} (hf:A.frames=some (env::outer)) (hL:env.frame=some L) (ff:s.heap.FunFrames base (env::outer)) (h1:s.heap.get? e=some oe) (h2:oe.data=Data.fields vs) (h3:vs[1]?=some Value.none) (h4:Po vs a0)
  (k:∀(h':Heap) (T':Addr),Moved (GR (env::outer)) [e] s.heap h'->s.heap.get? T'=none->Lc h' e T' oe.cls a0 oe.dict->Q () { s with heap:=h' }) :
  wpAny M A (leaving env (.ref e)) Q E s:=by
 unfold leaving;refine B6 (wq hf hL ff h1 h2 h3 h4 λg1 T1 mv nw tr=>ground tr λg2 same NP=>k g2 T1 (mv.ground nw (λb hb=>let ⟨o,q,_⟩:=fW ff b hb;⟨o,q⟩) same) nw NP)
theorem uc (hf:A.frames=some (env::outer)) (hL:env.frame=some L) (ff:s.heap.FunFrames base (env::outer)) (ht:Lc s.heap e T cls a0 dx)
  (k:∀(h':Heap) (T':Addr),Moved (GR (env::outer)) [e,T] s.heap h'->s.heap.get? T'=none->Lc h' e T' cls a0 dx->Q () { s with heap:=h' }) :
  wpAny M A (noteFrame (.ref e) env) (λ_ s2=>wpAny M A (setFlight (.ref e) none) (λ_ s3=>Q () s3) E s2) E s :=
 mT hf hL ff ht λh1 T1 mv nw tr=>ground tr λh2 same NP=>k h2 T1 (mv.ground nw (λb hb=>let ⟨o,q,_⟩:=fW ff b hb;⟨o,q⟩) same) nw NP
end
theorem bg.got {P:Program}{w:World}{H:Hp}{h:Heap}{a:Addr}{o:HO} (x:bg P w H h a o):∃ob,h.get? a=some ob:=by
 cases o with
 | lst xs=>obtain⟨_,_,_,_,e⟩:=x;exact⟨_,e⟩
 | tup xs=>obtain⟨_,_,_,o,e,_⟩:=x;exact⟨_,e⟩
 | dK kvs=>obtain⟨_,_,_,_,o,_,_,e,_⟩:=x;exact⟨_,e⟩
 | dT kvs=>obtain⟨_,_,_,_,o,_,_,e,_⟩:=x;exact⟨_,e⟩
 | set S n=>obtain⟨o,_,_,_,e,_⟩:=x;exact⟨_,e⟩
 | ins C dx fs=>obtain⟨_,_,_,e,_⟩:=x;exact⟨_,e⟩
 | own y=>exact x
 | xd fs=>obtain⟨_,⟨_,_,_,e,_⟩,_⟩:=x;exact⟨_,e⟩
 | rng lo hi=>obtain⟨_,_,_,e⟩:=x;exact⟨_,e⟩
 | frz ob u=>obtain⟨e,_⟩:=x;exact⟨_,e⟩
 | tbl ps=>exact⟨_,(show h.get? a=some _ from x)⟩
 | met f y=>exact⟨_,(show h.get? a=some _ from x)⟩
 | ext φ=>obtain⟨_,e,_⟩:=x;exact e
theorem pU {CX:Ht}{P:Program}{w:World}{K:zz7}{mg:Str->Option zz9}{base:Heap}{N:List Str}{qual:Str}{scope:Scope}{f:Addr}{cd:zz9}{A:Around}{outer:List Env}{s0:zz8}{H0:Hp}{E0':XK}
  {pins:List (Addr×Obj)}{σ:St}{H':Hp}{s':zz8}{E:XK}{ea T':Addr}{cls a0:zz9}{dx:Option Addr}{h':Heap}{G:List Addr}
  (I:Inv (cN CX P w K mg base N qual scope f cd A outer s0 H0 E0') pins σ H' s')
  (mv:Moved (GR (envOfC qual scope s0.heap.objs.size f cd::outer)) G s'.heap h')
  (hG:∀b∈G,s0.heap.get? b=none/\H' b=none) (tr:Lc h' ea T' cls a0 dx) (e1:s0.heap.get? ea=none) (e2:H' ea=none) (e3:T'∈G\/s'.heap.get? T'=none) (hE:E cls dx H') :
  GX P w outer H0 s0 E (.ref ea) { s' with heap:=h' }:=by
 have kp:=mv.keep;have sl:=mv.slot;have G8:=I.base;have hok:=I.hok;have nL:∀b o,s0.heap.get? b=some o->b∉GR outer->b∉GR (envOfC qual scope s0.heap.objs.size f cd::outer):=λb o q hb hm=>by
  have OK:b∈s0.heap.objs.size::GR outer:=hm
  rcases Ci.mp OK with z | z
  ·exact absurd (Cp q) (by rw [z];exact DI _)
  ·exact hb z
 have nG:∀b o,s0.heap.get? b=some o->b∉G:=λb o q hb=>by rw [(hG b hb).1] at q;cases q
 have mO:∀b,b∈GR outer->b∈GR (envOfC qual scope s0.heap.objs.size f cd::outer):=λb hb=>Cj _ hb;have T0:s0.heap.get? T'=none:=by
  rcases e3 with z | z
  ·exact (hG _ z).1
  ·cases hc:s0.heap.get? T' with
   | none=>rfl
   | some o =>
    obtain⟨o',q⟩:=G8.there T' o hc (by show T'∉[];simp);rw [z] at q;cases q
 have TH:H' T'=none:=by
  rcases e3 with z | z
  ·exact (hG _ z).2
  ·cases hc:H' T' with
   | none=>rfl
   | some o =>
    obtain⟨ob,q⟩:=bg.got (hok T' o hc);rw [z] at q;cases q
 refine⟨ea,T',cls,a0,dx,H',rfl,I.os,I.bare,?_,?_,e1,T0,e2,TH,tr,hE⟩
 ·refine⟨λb o q n hb hx=>?_,λb o q n hb hx=>?_,λb o q n hx=>G8.free b o q n hx,λb o q hx=>?_,G8.tups,G8.frzs,G8.tbls⟩
  ·exact kp b o (G8.keep b o q n hb hx) (nL b o q hb) (nG b o q)
  ·obtain⟨s1,q1⟩:=G8.slot b o q n hb hx
   obtain⟨s2,q2⟩:=sl b _ q1 (mO b hb);exact⟨s2,q2⟩
  ·obtain⟨o',q'⟩:=G8.there b o q hx
   by_cases hb:b∈GR (envOfC qual scope s0.heap.objs.size f cd::outer)
   ·obtain⟨s2,q2⟩:=sl b _ q' hb
    exact⟨_,q2⟩
   ·exact⟨o',kp b o' q' hb (nG b o q)⟩
 ·intro a o hH
  have nf:∀b u,H' b=some u->b∉GR (envOfC qual scope s0.heap.objs.size f cd::outer)/\b∉G:=λb u q=>⟨λhm=>(by
   have:=I.stkFree b hm
   rw [q] at this;cases this),λhm=>(by rw [(hG b hm).2] at q;cases q)⟩
  refine (hok a o hH).stay (λb u hb q=>?_) (λ_ q=>q) λ_ _ q=>q
  rcases hb with z | z
  ·rw [z] at q ⊢;exact kp a u q (nf a o hH).1 (nf a o hH).2
  ·exact kp b u q (nf b _ z).1 (nf b _ z).2
theorem cc {P:Program}{w:World}{K:zz7}{mg:Str->Option zz9}{base:Heap}{N:List Str}{qual:Str}{scope:Scope}{f:Addr}{cd:zz9}{A:Around}{outer:List Env}{s0:zz8}{H0:Hp}{E:XK} :
  fP (GX P w) (cN (GX P w) P w K mg base N qual scope f cd A outer s0 H0 E) E:=by
 intro pins σ H s e s' I h;obtain⟨ea,T,cls,a0,dx,H',rfl,os,bare,un,hok,n1,n2,m1,m2,Q2,hE⟩:=h;have I':Inv (cN (GX P w) P w K mg base N qual scope f cd A outer s0 H0 E) pins σ H' s':=I.call' (ch:=[]) os un hok bare (by simp);have back:∀b,s.heap.get? b=none->s0.heap.get? b=none:=λb q=>by
  cases hc:s0.heap.get? b with
  | none=>rfl
  | some o =>
   obtain⟨o',q'⟩:=I.base.there b o hc (by show b∉[];simp);rw [q] at q';cases q'
 show wpAny (model P w) (A.deeper (envOfC qual scope s0.heap.objs.size f cd)) (leaving (envOfC qual scope s0.heap.objs.size f cd) (.ref ea)) _ _ s';refine tQ (outer:=outer) (L:=s0.heap.objs.size) I'.ok.frames rfl I'.stack Q2 λh' T' mv nw Xi=>?_
 exact pU (G:=[ea,T]) I' mv (λb hb=>by
  simp at hb
  rcases hb with z | z
  ·rw [z];exact⟨back _ n1,m1⟩
  ·rw [z];exact⟨back _ n2,m2⟩) Xi (back _ n1) m1 (.inr nw) hE
theorem z0 {P:Program}{w:World}{K:zz7}{mg:Str->Option zz9}{base:Heap}{N:List Str}{qual:Str}{scope:Scope}{f:Addr}{cd:zz9}{A:Around}{outer:List Env}{s0:zz8}{H0:Hp}{E:XK}
  {pins:List (Addr×Obj)}{σ:St}{H:Hp}{s:zz8}{ea:Addr}{oe:Obj}{vs:Array zz9}{a0:zz9}
  (I:Inv (cN (GX P w) P w K mg base N qual scope f cd A outer s0 H0 E) pins σ H s) (h1:s.heap.get? ea=some oe) (h2:oe.data=Data.fields vs) (h3:vs[1]?=some Value.none) (h4:Po vs a0) (back:s0.heap.get? ea=none) (he:H ea=none) (hE:E oe.cls oe.dict H) :
  (cN (GX P w) P w K mg base N qual scope f cd A outer s0 H0 E).xe (.ref ea) s:=by
 show wpAny (model P w) (A.deeper (envOfC qual scope s0.heap.objs.size f cd)) (leaving (envOfC qual scope s0.heap.objs.size f cd) (.ref ea)) _ _ s;refine leave_new (outer:=outer) (L:=s0.heap.objs.size) I.ok.frames rfl I.stack h1 h2 h3 h4 λJw T' mv nT tr=>?_
 exact pU (G:=[ea]) I mv (λb hb=>by
  have z:b=ea:=by simpa using hb
  rw [z];exact⟨back,he⟩) tr back he (.inr nT) hE
theorem fS {P:Program}{w:World}{K:zz7}{mg:Str->Option zz9}{base:Heap}{N:List Str}{qual:Str}{scope:Scope}{f:Addr}{cd:zz9}{A:Around}{outer:List Env}{s0:zz8}{H0:Hp}{E:XK}
  {pins:List (Addr×Obj)}{σ:St}{H:Hp}{s:zz8}{h':Heap}{ea:Addr}{cls:zz9}{args:List zz9}
  (I:Inv (cN (GX P w) P w K mg base N qual scope f cd A outer s0 H0 E) pins σ H s) (m:s.heap.MadeExcOf h' ea cls args) (hE:E cls none H) :
  (cN (GX P w) P w K mg base N qual scope f cd A outer s0 H0 E).xe (.ref ea) { s with heap:=h' }:=by
 obtain⟨keeps,new,t,there,tn,tt⟩:=m;have I':Inv (cN (GX P w) P w K mg base N qual scope f cd A outer s0 H0 E) pins σ H { s with heap:=h' }:=I.kept (t':=s.toks) keeps;have back:s0.heap.get? ea=none:=by
  cases hc:s0.heap.get? ea with
  | none=>rfl
  | some o =>
   obtain⟨o',q'⟩:=I.base.there ea o hc (by show ea∉[];simp);rw [new] at q';cases q'
 have he:H ea=none:=by
  cases hc:H ea with
  | none=>rfl
  | some o =>
   obtain⟨ob,q⟩:=bg.got (I.hok ea o hc);rw [new] at q;cases q
 exact z0 I' there rfl rfl ⟨rfl,rfl⟩ back he hE
def dC (h:Heap) (C:Addr):Prop:=∃(nm q:Str) (N:Addr) (bs bm Hg:List zz9) (hdct:Bool) (sn:List Str) (sub:List zz9) (ab:Bool) (col:Option Bool) (dd:Option Addr) (k0 k1 k2 k3 k5:Option zz9) (mN:Str->Option zz9) (B Bn newId RK GJ Se:String) (TY:List zz9),
 h.get? C=some (excClassObj nm q C N bs bm hdct sn sub ab col dd k0 k1 k2 k3 k5 newId)/\h.Ns N mN/\mN (Str.ofString "__init__")=none/\OwnTail h Hg bm/\bm.contains (Value.type "BaseException")=true/\ExcBaseFacts Bn newId Se TY/\Hg.contains (Value.type Bn)=true/\ExcBaseFacts B RK GJ Hg
theorem OwnTail.stays {h h':Heap} (k:∀b o,h.get? b=some o->h'.get? b=some o) {a b:List zz9} (x:OwnTail h a b):OwnTail h' a b:=by
 induction x with
 | base=>exact .base
 | own e n i _ ih=>exact .own (k _ _ e) (n.keeps k) i ih
section
variable {X:Cx}{x:Str}{C:Addr}{e:Expr}{es:List Expr}{t:TA}{np GK pos:Pos}{W:Hp->Prop}
def qm (t:TA) (W:Hp->Prop):TS:=λ_ σ H=>t σ H λvs H1=>vs.length<=sizeLine/\W H1
theorem fE (hx:X.mg x=some (.ref C)) (hC:dC X.base C) (hd:X.A.handled=none) (ha:PA X (e::es) t) (xe:∀(pins:List (Addr×Obj)) (σ:St) (H:Hp) (s:zz8) (h':Heap) (ea:Addr) (args:List zz9),Inv X pins σ H s->s.heap.MadeExcOf h' ea (.ref C) args->W H->X.xe (.ref ea) { s with heap:=h' })
  (hg:Gl X x:=by rfl) (HX:(x == ("__debug__":Str))=false:=by decide) (he:starEach (e::es) X.env=(false,eval e X.env)::starEach es X.env:=by rfl) (GY:(backTo GK (starEach (e::es) X.env)).any (·.1)=false:=by rfl) :
  PS X (.Raise (some (.Call (.Name x np) (e::es) [] GK)) none pos) (qm t W):=by
 intro pins s σ H D I h;obtain⟨nm,q,N,bs,bm,Hg,hdct,sn,sub,ab,col,dd,k0,k1,k2,k3,k5,mN,B,Bn,newId,RK,GJ,Se,TY,a1,a2,a3,a4,a5,a6,a7,a8⟩:=hC;refine wpAny_Raise_call_subU (nm:=nm) (q:=q) (N:=N) (bs:=bs) (hdct:=hdct) (sn:=sn) (sub:=sub) (ab:=ab) (col:=col) (dd:=dd) (k0:=k0) (k1:=k1) (k2:=k2) (k3:=k3) (k5:=k5) a6 a7 a8 a5 hd GY a3 (gw I hg hx ⟨rfl,?_⟩ HX);have IU:=ha GK pins s σ H _ I h;have eb:backTo GK (starEach (e::es) X.env)=(false,eval e X.env)::backTo GK (starEach es X.env):=by rw [he];rfl
 rw [eb] at IU ⊢;refine Calls.evalArgs_plain (Gu IU λus s2 hq=>?_);obtain⟨vs,H1,I1,r1,hl,hw⟩:=hq;have k:=I1.bk;exact⟨rfl,by rw [<- r1.length];exact hl,k _ _ a1,a2.keeps k,OwnTail.stays k a4,λh' ea m=>xe pins σ H1 s2 h' ea _ I1 m hw⟩
end
variable {P:Program}{w:World}{K:zz7}{mg:Str->Option zz9}{base:Heap}{f:Addr}{fd:FuncData}
theorem Gy.okX {x qual:Str}{st:Stmt}{f:Addr}{fd:FuncData}{N ps:List Str}{k:Nat}{sp:Sp} (F:Gy K x qual st f fd) (S:aV N ps (aH st)) (len:∀vs H Q E,sp vs H Q E->vs.length=ps.length)
  (GZ:∀(GL:zz9) (A:Around) (outer:List Env) (s:zz8) (H:Hp) (vs:List V) (Q:VK) (E:XK),aT k (A.deeper (envOfC qual (aH st) s.heap.objs.size f GL))->sp vs H Q E ->
   ∃t,Ig (cN (GX P w) P w K mg base N qual (aH st) f GL A outer s H E) (dh st) t/\t { nx:=λ_ H'=>Q .non H',rt:=Q } (start N vs) H):au P w K mg base (GX P w) (k + 1) f fd ps sp:=by
 obtain⟨oc,od,kV,doc,pm,an,GL,ct,Jm,rfl,lk,Ip⟩:=F.ex;exact rp lk Ip S len λA outer s H vs Q E hr IK=>GZ GL A outer s H vs Q E hr IK
theorem au.lift {k:Nat}{f:Addr}{fd:FuncData}{ps:List Str}{sp:Sp} (F:au P w K mg base GB k f fd ps sp):au P w K mg base (GX P w) k f fd ps sp :=
 ⟨F.len,λA outer s H args us vs Q E hr he hb hv hs=>EI (F.run A outer s H args us vs Q E hr he hb hv hs) λr s' hq=>by
  cases r with
  | error e=>exact False.elim hq
  | ok fl=>cases fl <;> exact hq⟩
def Hj (P:Program) (w:World) (K:zz7) (mg:Str->Option zz9) (base:Heap) (k:Nat) (x:Str) (ps:List Str) (sp:Sp):Prop :=
 ∃f fd,mg x=some (.ref f)/\PySem.W.keepIn K (.ref f)=true/\Binds K fd ps []/\au P w K mg base (GX P w) k f fd ps sp
theorem b9 {X:Cx}{k:Nat}{x:Str}{ps:List Str}{sp:Sp}{E:XK}{e:Expr}{es:List Expr}{t:TA}{p pos:Pos} (F:Hj X.prog X.w X.K X.mg X.base k x ps sp) (hr:aT k X.A) (hx:fP (GX X.prog X.w) X E) (ha:PA X (e::es) t) (hg:Gl X x:=by rfl)
  (HX:(x == ("__debug__":Str))=false:=by decide) (he:starEach (e::es) X.env=(false,eval e X.env)::starEach es X.env:=by rfl) (GY:(backTo pos (starEach es X.env)).any (·.1)=false:=by rfl) :
  PE X (.Call (.Name x p) (e::es) [] pos) (iE sp [] E t):=by
 obtain⟨f,fd,h1,h2,h3,h4⟩:=F;exact pG h4 hr hg h1 h2 h3 .nil hx ha HX he GY
def XP (X:Cx) (pins:List (Addr×Obj)) (Ex:St->zz9->Option Addr->Hp->Prop) (e:zz9) (s1:zz8):Prop :=
 ∃(σ:St) (H:Hp) (s:zz8),Inv X pins σ H s/\GX X.prog X.w X.stack H s (λcls dx H'=>Ex σ cls dx H') e s1
abbrev Qy:=(St->zz9->Option Addr->Hp->Prop)->St->Hp->VK->Prop
abbrev LL:=(St->zz9->Option Addr->Hp->Prop)->Ends->St->Hp->Prop
def Wq (X:Cx) (e:Expr) (t:Qy):Prop:=∀(pins:List (Addr×Obj)) (s:zz8) (σ:St) (H:Hp) (Q:VK) (Ex:St->zz9->Option Addr->Hp->Prop),Inv X pins σ H s->t Ex σ H Q->wpAny (model X.prog X.w) X.A (eval e X.env) (EP X pins σ Q) (XP X pins Ex) s
def Wo (X:Cx) (st:Stmt) (t:LL):Prop:=∀(pins:List (Addr×Obj)) (s:zz8) (σ:St) (H:Hp) (D:Ends) (Ex:St->zz9->Option Addr->Hp->Prop),Inv X pins σ H s->t Ex D σ H->wpAny (model X.prog X.w) X.A (exec st X.env) (SP X pins D) (XP X pins Ex) s
section
variable {X:Cx}{k:Nat}{x:Str}{ps:List Str}{sp:Sp}{e:Expr}{es:List Expr}{t:TA}{p pos:Pos}
def zH (sp:Sp) (t:TA):Qy:=λEx σ H Q=>t σ H λvs H1=>sp vs H1 Q (λcls dx H'=>Ex σ cls dx H')
theorem yu (F:Hj X.prog X.w X.K X.mg X.base k x ps sp) (hr:aT k X.A) (ha:PA X.nox (e::es) t) (hg:Gl X x:=by rfl)
  (HX:(x == ("__debug__":Str))=false:=by decide) (he:starEach (e::es) X.env=(false,eval e X.env)::starEach es X.env:=by rfl) (GY:(backTo pos (starEach es X.env)).any (·.1)=false:=by rfl) :
  Wq X (.Call (.Name x p) (e::es) [] pos) (zH sp t):=by
 obtain⟨f,fd,hm,hk,hb,F⟩:=F;intro pins s σ H Q Ex I h;refine Ep (gw I hg hm ?_ HX);have I0:Inv X.nox pins σ H s:=⟨⟨I.ok.mod,I.ok.kind,I.ok.glob,I.ok.blt,I.ok.above,I.ok.inj,I.ok.has,I.ok.cab,I.ok.hd,I.ok.frames,I.ok.stk,I.ok.exf,I.ok.bs,I.ok.bsz,I.ok.noex,I.ok.exfs,I.ok.funs,I.ok.frf⟩,I.os,I.bare,I.base,I.loc,I.cell,I.free,I.freeC,I.pin,I.hok,I.len⟩
 refine FI (h₀:=X.base) I.ok.mod.kin hk (DD (ha pos pins s σ H _ I0 h) (λus s1 hq=>?_) λ_ _ z=>False.elim z) he GY;obtain⟨vs,H1,I1,r,q⟩:=hq;have I2:Inv X pins σ H1 s1:=⟨⟨I1.ok.mod,I1.ok.kind,I1.ok.glob,I1.ok.blt,I1.ok.above,I1.ok.inj,I1.ok.has,I1.ok.cab,I1.ok.hd,I1.ok.frames,I1.ok.stk,I1.ok.exf,I1.ok.bs,I1.ok.bsz,I1.ok.noex,I1.ok.exfs,I1.ok.funs,I1.ok.frf⟩,I1.os,I1.bare,I1.base,I1.loc,I1.cell,I1.free,I1.freeC,I1.pin,I1.hok,I1.len⟩
 refine⟨I2.kIn,?_⟩;have hl:us.length=ps.length:=by rw [<- r.length];exact F.len _ _ _ _ q
 have Qm:=hb s1 us I2.kIn (by simpa using hl);simp only [Eo] at Qm;refine wpAny_call (EI (F.run X.A X.stack s1 H1 ⟨us,[]⟩ us vs Q (λcls dx H'=>Ex σ cls dx H') hr I2.env0 Qm r q) λr s' hq=>?_);cases r with
 | error e=>exact⟨σ,H1,s1,I2,hq⟩
 | ok fl =>
  cases fl with
  | ret u=>exact I2.after hq
  | next=>exact False.elim hq
  | brk=>exact False.elim hq
  | cont=>exact False.elim hq
def zS (te:Qy):LL:=λEx D σ H=>te Ex σ H λ_ H1=>D.nx σ H1
theorem yq {te:Qy} (he:Wq X e te) (hs:swapsWith e none pos.line X.env=pure false:=by rfl):Wo X (.Expr e pos) (zS te):=by
 intro pins s σ H D Ex I h;exact wpAny_Expr_any (Gu (he pins s σ H _ Ex I h) λv s1 ⟨x,H1,I1,r1,q1⟩=>⟨σ,H1,I1,q1⟩) I.quiet hs
end
theorem OwnTail.has {h:Heap}{a b:List zz9}{v:zz9} (x:OwnTail h a b) (hv:a.contains v=true):b.contains v=true:=by
 induction x with
 | base=>exact hv
 | own _ _ _ _ ih=>rw [List.contains_cons,ih,Bool.or_true]
theorem xO {K:Frag}{h:Heap}{C:Addr}{Hg:List zz9}{newId GJ B:String} (X:K.In h) (hx:excIn K C Hg newId=true) (f:ExcBaseFacts B newId GJ Hg):dC h C:=by
 unfold excIn at hx;split at hx
 ·rename_i TN cd sl heq
  split at hx
  ·rename_i C' bm k0 k1 k2 k3 n k5 hm hs
   simp only [CK,FT,beq_iff_eq] at hx;obtain⟨⟨⟨⟨⟨h1,h2⟩,h3⟩,h4⟩,h5⟩,h6⟩:=hx;subst h1;subst h2;have ho:=X _ _ heq;have JS:sl=#[k0,k1,k2,k3,some (.builtin n),k5]:=by
    rw [<- F8];exact hs
   obtain⟨nm,bs,mro,ns,qn,hdct,sn,sub,ab,col,S8⟩:=cd;simp only at hm h3 h4 h5 h6;subst hm;subst h3;subst JS;refine⟨nm,qn,ns,bs,bm,Hg,hdct,sn,sub,ab,col,TN,k0,k1,k2,k3,k5,h.nsMap ns,B,B,n,n,GJ,GJ,Hg,ho,?_,nsMap_none_of_in X h5 h6,tail_of_in X h4,OwnTail.has (tail_of_in X h4) f.hasBase,f,f.hasB,f⟩;exact Heap.Ns.of_isNs (isNs_of_in X h5)
  ·cases hx
 ·cases hx
theorem tw:isSubtype (.type "type") (.type "tuple")=pure false:=by rw [isSubtype_type];kernel_rfl
theorem uv {M:Model}{A:Around}{E:zz9->zz8->Prop}{nm q UP q':Str}{C N R N':Addr}{bs bm Wg TZ:List zz9}{hdct LJ:Bool}{sn UC:List Str}{sub NV:List zz9}{ab Wj:Bool}{col Pa:Option Bool}{dd Jh:Option Addr}{k0 k1 k2 k3 k5 l0 l1 l2 l3 l5:Option zz9}{newId JN:String}
  {s:zz8}{e:Addr}{oe:Obj}{Q:Bool->zz8->Prop} (hC:s.heap.get? C=some (excClassObj nm q C N bs bm hdct sn sub ab col dd k0 k1 k2 k3 k5 newId)) (hR:s.heap.get? R=some (excClassObj UP q' R N' Wg TZ LJ UC NV Wj Pa Jh l0 l1 l2 l3 l5 JN))
  (he:s.heap.get? e=some oe) (hc:oe.cls=.ref C) (hb:TZ.contains (.type "BaseException")=true) (k:Q ((Value.ref C::bm).contains (.ref R)) s):wpAny M A (excMatches (.ref e) (.ref R)) Q E s:=by
 unfold excMatches;refine B6 (wpAny_isInstance (T:="type") ⟨_,hR,rfl⟩ tw ?_);simp only [DZ,if_false,pure_bind,Fw,Gj];obtain⟨h,g,d,tk,os⟩:=s;have hex:∀{Q':Bool->zz8->Prop},Q' true ⟨h,g,d,tk,os⟩->wpAny M A (isExcClass (.ref R)) Q' E ⟨h,g,d,tk,os⟩:=λ{Q'} qq=>by
  unfold isExcClass isType;simp only [bind_assoc,pure_bind];refine B6 (wpAny_loadPart hR ?_);simp only [if_true];refine wpAny_isSubtype_exc hR ?_;rw [List.contains_cons,hb,Bool.or_true];exact qq
 refine B6 (B6 (B6 (hex ?_)));simp only [Bool.not_true,DZ,if_false];refine B9 (B9 (B6 (wpAny_typeOf_ref he ?_)));rw [hc];refine B6 (B6 (B6 (wpAny_isSubtype_exc hC ?_)));cases c:(Value.ref C::bm).contains (Value.ref R) with
 | true =>
  rw [c] at k;exact B9 (B9 (B9 k))
 | false =>
  rw [c] at k;exact B9 (B9 (B9 k))
section
variable {X:Cx}{pins:List (Addr×Obj)}{σ:List (Option V)}{H H':Hp}{s:zz8}{h':Heap}
theorem Inv.stepN {g':Array GenState}{t':Nat}{d':Drawn}{ch:List Addr} (I:Inv X pins σ H s)
  (IB:∀b∈ch,X.s₀.heap.get? b=none/\b≠X.env.locals/\(∀x c,X.env.cells.lookup x=some c->c≠b)/\∀p∈X.pn++pins,p.1≠b)
  (keep:∀b o,b≠X.env.locals->b∉X.fs->b∉ch->s.heap.get? b=some o->H b=none->h'.get? b=some o)
  (slot:∀b o,b≠X.env.locals->b∈X.fs->b∉ch->s.heap.get? b=some o->H b=none->∃sl,h'.get? b=some { o with slots:=sl }) (free:∀b o,b∉ch->s.heap.get? b=some o->H b=none->H' b=none)
  (there:∀b o,b∉ch->s.heap.get? b=some o->∃o',h'.get? b=some o')
  (tups:∀b xs,H b=some (.tup xs)->H' b=some (.tup xs)) (frzs:∀b o u,H b=some (.frz o u)->H' b=some (.frz o u)) (tbls:∀b ps,H b=some (.tbl ps)->∃more,H' b=some (.tbl (ps++more)))
  (ns:∀m,s.heap.Ns X.env.locals m->h'.Ns X.env.locals m) (hok:GU X.prog X.w H' h') (hg:AllBare g') :
  Inv X pins σ H' { s with heap:=h',gens:=g',drawn:=d',toks:=t' }:=by
 have Ol:∀b o,X.s₀.heap.get? b=some o->b≠X.env.locals:=λb o e=>CU (CC (Cp e) I.ok.above);have Ij:∀b o,X.s₀.heap.get? b=some o->b∉X.ex->b∉ch:=λb o e hx hb=>by
  rw [(IB b hb).1] at e;cases e
 have cellK:∀x c,X.env.cells.lookup x=some c->∀v,s.heap.IsCell c v->h'.IsCell c v:=λx c e v ⟨o,ho,hd⟩=>by
  have JO:c∉ch:=λz=>(IB c z).2.2.1 x c e rfl
  by_cases hc:c∈X.fs
  ·obtain⟨sl,q⟩:=slot c o (I.cne x c e) hc JO ho (I.freeC x c e)
   exact⟨_,q,hd⟩
  ·exact⟨o,keep c o (I.cne x c e) hc JO ho (I.freeC x c e),hd⟩
 refine⟨I.ok,I.os,hg,⟨λb o e n hb hx=>?_,λb o e n hb hx=>?_,λb o e n hx=>?_,λb o e hx=>?_,λb xs e=>tups b xs (I.base.tups b xs e),λb o xs e=>frzs b o xs (I.base.frzs b o xs e),λb ps e=>?_⟩,?_,λx c e=>?_,?_,λx c e=>?_,λp hp=>?_,hok,I.len⟩
 ·exact keep b o (Ol b o e) hb (Ij b o e hx) (I.base.keep b o e n hb hx) (I.base.free b o e n hx)
 ·obtain⟨sl,e1⟩:=I.base.slot b o e n hb hx
  obtain⟨Re,e2⟩:=slot b _ (Ol b o e) hb (Ij b o e hx) e1 (I.base.free b o e n hx);exact⟨Re,e2⟩
 ·obtain⟨o',e1⟩:=I.base.there b o e hx
  exact free b o' (Ij b o e hx) e1 (I.base.free b o e n hx)
 ·obtain⟨o',e1⟩:=I.base.there b o e hx
  exact there b o' (Ij b o e hx) e1
 ·obtain⟨m1,e1⟩:=I.base.tbls b ps e
  obtain⟨m2,e2⟩:=tbls b _ e1;exact⟨m1++m2,by rw [e2,Array.append_assoc]⟩
 ·obtain⟨m,hn,hl⟩:=I.loc
  refine⟨m,ns m hn,λi x v e1 e2 e3=>?_⟩;obtain⟨u,r,l⟩:=hl i x v e1 e2 e3;refine⟨u,r,?_⟩
  rcases l with l | ⟨k,c,e,z⟩
  ·exact .inl l
  ·exact .inr ⟨k,c,e,cellK x c e _ z⟩
 ·obtain⟨v,z⟩:=I.cell x c e
  exact⟨v,cellK x c e v z⟩
 ·obtain⟨m,⟨o,_,_,ho,_⟩,_⟩:=I.loc
  exact free _ o (λz=>(IB _ z).2.1 rfl) ho I.free
 ·obtain⟨v,o,ho,hd⟩:=I.cell x c e
  exact free c o (λz=>(IB c z).2.2.1 x c e rfl) ho (I.freeC x c e)
 ·obtain⟨e,n,ne,nf,d⟩:=I.pin p hp
  have JO:p.1∉ch:=λz=>(IB p.1 z).2.2.2 p hp rfl;exact⟨keep p.1 p.2 ne nf JO e n,free p.1 p.2 JO e n,ne,nf,d⟩
theorem Inv.moved {G:List Addr} (I:Inv X pins σ H s) (hG:∀b∈G,X.s₀.heap.get? b=none/\H b=none/\b≠X.env.locals/\(∀x c,X.env.cells.lookup x=some c->c≠b)/\∀p∈X.pn++pins,p.1≠b)
  (kp:∀b o,s.heap.get? b=some o->b∉GR X.stack->b∉G->h'.get? b=some o) (sl:∀b o,s.heap.get? b=some o->b∈GR X.stack->∃sl,h'.get? b=some { o with slots:=sl }) :
  Inv X pins σ H { s with heap:=h' }:=by
 refine I.stepN (g':=s.gens) (d':=s.drawn) (t':=s.toks) (ch:=G) (λb hb=>⟨(hG b hb).1,(hG b hb).2.2⟩) (λb o hL hb hc e _=>kp b o e (λz=>(Ci.mp (I.stkSub b z)).elim hL hb) hc) (λb o hL hb hc e _=>?_) (λ_ _ _ _ n=>n) (λb o hc e=>?_) (λ_ _ e=>e) (λ_ _ _ e=>e) (λb ps e=>⟨#[],by rw [e];simp⟩) (λm hm=>?_) (λb u e=>?_) I.bare
 ·by_cases z:b∈GR X.stack
  ·exact sl b o e z
  ·exact⟨o.slots,kp b o e z hc⟩
 ·by_cases z:b∈GR X.stack
  ·obtain⟨q,q'⟩:=sl b o e z
   exact⟨_,q'⟩
  ·exact⟨o,kp b o e z hc⟩
 ·obtain⟨o,es,ep,ho,r⟩:=hm
  by_cases z:X.env.locals∈GR X.stack
  ·obtain⟨q,q'⟩:=sl _ o ho z
   exact⟨_,es,ep,q',r⟩
  ·exact⟨o,es,ep,kp _ o ho z (λy=>(hG _ y).2.2.1 rfl),r⟩
 ·have nf:∀c v,H c=some v->c∉GR X.stack/\c∉G:=λc v q=>⟨λhm=>(by
   have:=I.stkFree c hm
   rw [q] at this;cases this),λhm=>(by rw [(hG c hm).2.1] at q;cases q)⟩
  refine (I.hok b u e).stay (λc v hc q=>?_) (λ_ q=>q) λ_ _ q=>q
  rcases hc with z | z
  ·rw [z] at q ⊢;exact kp b v q (nf b u e).1 (nf b u e).2
  ·exact kp c v q (nf c _ z).1 (nf c _ z).2
end
section
variable {X:Cx}{pins:List (Addr×Obj)}{σ:List (Option V)}{H:Hp}{s:zz8}
theorem vo {M:Model}{A:Around}{E:zz9->zz8->Prop}{i:Nat}{x:Str}{v:V}{Q:Unit->zz8->Prop} (I:Inv X pins σ H s) (hN:X.N.Nodup) (hi:X.N[i]?=some x) (hk:X.env.scope.names.lookup x=some .local) (hv:σ[i]?=some (some v))
  (h:∀s',Inv X pins (σ.set i none) H s'->Q () s'):wpAny M A (unbindName X.env x) Q E s:=by
 obtain⟨m,hn,hl⟩:=id I.loc;have MG:(X.env.scope.kind == .class || (X.env.scope.kind == .module && X.env.locals != X.env.globals))=false:=by rw [I.ok.kind];rfl
 have Gs:i < σ.length:=by rw [I.len];exact (Ca.mp hi).1
 obtain⟨u,r,lk⟩:=hl i x v hi hv (.inl hk);have hm:m x=some u:=by
  rcases lk with ⟨_,e⟩ | ⟨z,_⟩
  ·exact e
  ·have MD:X.env.kindOf x=some .local:=hk
   rcases z with z | z <;> (rw [MD] at z;cases z)
 refine wpAny_unbindName_local hk hn hm MG λh' u' Kb hs=>?_;have nb:∀b o,X.s₀.heap.get? b=some o->b≠X.env.locals:=λb o e=>CU (CC (Cp e) I.ok.above);have cne:=I.cne;refine h _ ⟨I.ok,I.os,I.bare,⟨λb o e n hb hx=>(hs.2 b (nb b o e)).trans (I.base.keep b o e n hb hx),λb o e n hb hx=>?_,I.base.free,λb o e hx=>?_,I.base.tups,I.base.frzs,I.base.tbls⟩,⟨_,Kb,λj y w e1 e2 e3=>?_⟩,λy c e=>?_,I.free,I.freeC,λp hp=>?_,λb ob e=>?_,?_⟩
 ·obtain⟨sl,e1⟩:=I.base.slot b o e n hb hx
  exact⟨sl,(hs.2 b (nb b o e)).trans e1⟩
 ·obtain⟨o',e1⟩:=I.base.there b o e hx
  exact⟨o',(hs.2 b (nb b o e)).trans e1⟩
 ·by_cases hj:j=i
  ·subst hj
   rw [DH Gs] at e2;cases e2
  ·rw [DP (Dy hj)] at e2
   obtain⟨u2,r2,q⟩:=hl j y w e1 e2 e3;refine⟨u2,r2,?_⟩
   rcases q with ⟨k,e⟩ | ⟨k,c,e,z⟩
   ·refine .inl ⟨k,?_⟩
    have:y≠x:=λe=>hj (ki hN e1 (e ▸ hi));simp [this,e]
   ·exact .inr ⟨k,c,e,z.sameBut hs (cne y c e)⟩
 ·obtain⟨w',z⟩:=I.cell y c e
  exact⟨w',z.sameBut hs (cne y c e)⟩
 ·obtain⟨e,n,ne,nf,d⟩:=I.pin p hp
  exact⟨(hs.2 p.1 ne).trans e,n,ne,nf,d⟩
 ·refine (I.hok b ob e).stay (λc w' hc q=>(hs.2 c ?_).trans q) (λ_ q=>q) λ_ _ q=>q
  rintro rfl
  rcases hc with z | z
  ·have:=I.free
   rw [z] at this;rw [this] at e;cases e
  ·rw [I.free] at z;cases z
 ·rw [List.length_set];exact I.len
end
section
variable {X:Cx}{pins:List (Addr×Obj)}{σ:St}{H:Hp}{s:zz8}{ea C:Addr}{o:HO}
theorem Inv.track (I:Inv X pins σ H s) (hn:H ea=none) (h0:X.s₀.heap.get? ea=none) (hl:ea≠X.env.locals) (hc:∀x c,X.env.cells.lookup x=some c->c≠ea) (hp:∀p∈X.pn++pins,p.1≠ea)
  (new:bg X.prog X.w (upd H ea o) s.heap ea o):Inv X pins σ (upd H ea o) s:=by
 have J:=I.stepN (h':=s.heap) (H':=upd H ea o) (g':=s.gens) (d':=s.drawn) (t':=s.toks) (ch:=[ea]) (λb hb=>by
   have z:b=ea:=by simpa using hb
   rw [z];exact⟨h0,hl,hc,hp⟩) (λb o _ _ _ e _=>e) (λb o _ _ _ e _=>⟨o.slots,e⟩) (λb o hb e n=>by rw [av (λz=>hb (by simp [z]))];exact n) (λb o _ e=>⟨o,e⟩)
  (λb xs e=>by rw [av (bh e hn)];exact e) (λb o u e=>by rw [av (bh e hn)];exact e) (λb ps e=>⟨#[],by rw [av (bh e hn),e];simp⟩) (λm hm=>hm) (λb u e=>?_) I.bare
 ·exact J
 ·by_cases z:b=ea
  ·rw [z,ak] at e
   cases e;rw [z];exact new
  ·rw [av z] at e
   exact (I.hok b u e).stay (λ_ _ _ q=>q) (λb q=>by rw [av (bh q hn)];exact q) (λb xs q=>by rw [av (bh q hn)];exact q)
def eQ (ea C:Addr) (dx:Option Addr):HO:=.ext λh=>∃oe vs,h.get? ea=some oe/\oe.cls=.ref C/\oe.dict=dx/\oe.data=Data.fields vs/\vs[2]?=some Value.none
theorem xi {P:Program}{w:World}{H:Hp}{h:Heap}{oe:Obj}{dx:Option Addr}{vs:Array zz9} (h1:h.get? ea=some oe) (h2:oe.cls=.ref C) (h3:oe.dict=dx) (h4:oe.data=Data.fields vs) (h5:vs[2]?=some Value.none):bg P w H h ea (eQ ea C dx) :=
 ⟨⟨oe,vs,h1,h2,h3,h4,h5⟩,⟨oe,h1⟩,λh1' Qq ⟨o,WP,q1,q2⟩ k=>⟨o,WP,k o q1,q2⟩⟩
end
def Cx.held (X:Cx) (ea:Addr):Cx:={ X with A:=X.A.mark (some (.ref ea)),calm:=false,xe:=λ_ _=>False }
section
variable {X:Cx}{pins:List (Addr×Obj)}{σ:St}{H:Hp}{s:zz8}{ea:Addr}
theorem Inv.held (I:Inv X pins σ H s) (ea:Addr):Inv (X.held ea) pins σ H s :=
 ⟨⟨I.ok.mod,I.ok.kind,I.ok.glob,I.ok.blt,I.ok.above,I.ok.inj,I.ok.has,I.ok.cab,(λz=>by cases z),I.ok.frames,I.ok.stk,I.ok.exf,I.ok.bs,I.ok.bsz,I.ok.noex,I.ok.exfs,I.ok.funs,I.ok.frf⟩,I.os,I.bare,I.base,I.loc,I.cell,I.free,I.freeC,I.pin,I.hok,I.len⟩
theorem Inv.unheld (ok:X.Ok) (I:Inv (X.held ea) pins σ H s):Inv X pins σ H s :=
 ⟨ok,I.os,I.bare,I.base,I.loc,I.cell,I.free,I.freeC,I.pin,I.hok,I.len⟩
theorem jl {M:Model}{A:Around}{E:zz9->zz8->Prop}{i:Nat}{n:Str}{pos:Pos}{Q:Unit->zz8->Prop} (I:Inv X pins σ H s) (hN:X.N.Nodup) (hi:X.N[i]?=some n) (hk:X.env.scope.names.lookup n=some .local)
  (h:∀s',Inv X pins (σ.set i none) H s'->Q () s'):wpAny M A (do bindName X.env n Value.none;unbindBehindTheSuite X.env n pos) Q E s:=by
 refine B6 (FC (eW I hN hi (.inl hk) (v:=.non) rfl (λs' I'=>?_) (.inr hk)));have hl:i < σ.length:=by rw [I.len];exact (Ca.mp hi).1
 unfold unbindBehindTheSuite;refine FN (vo I' hN hi hk (v:=.non) (DH hl) λs2 I2=>h s2 ?_);rw [List.set_set] at I2;exact I2
def Under (h:Heap) (C R:Addr):Prop:=∃(nm q:Str) (N:Addr) (bs bm:List zz9) (hdct:Bool) (sn:List Str) (sub:List zz9) (ab:Bool) (col:Option Bool) (dd:Option Addr) (k0 k1 k2 k3 k5:Option zz9) (newId:String),
 h.get? C=some (excClassObj nm q C N bs bm hdct sn sub ab col dd k0 k1 k2 k3 k5 newId)/\(Value.ref C::bm).contains (.ref R)=true
def rJ (D:Ends) (j:Nat):Ends:={ nx:=λσ H=>D.nx (σ.set j none) H,rt:=D.rt,bk:=λσ H=>D.bk (σ.set j none) H,ct:=λσ H=>D.ct (σ.set j none) H }
end
section
variable {X:Cx}{st b0:Stmt}{Hk:List Stmt}{tx:LL}{th:TS}{x n:Str}{R:Addr}{j:Nat}{np GV pos:Pos}
end
section
variable {X:Cx}{pins:List (Addr×Obj)}{σ:St}{H:Hp}{s:zz8}
end
section
variable {X:Cx}{st:Stmt}{rest:List Stmt}{t u:LL}{pos:Pos}
end
open Builtin Builtin.ObjectAttr
inductive jJ (h:Heap) (S:List Str) (Hg:List zz9):List zz9->Prop
 | base:jJ h S Hg Hg
 | own {B:Addr}{c0:zz9}{dd:Option Addr}{cd:ClassData}{sl:Array (Option zz9)}{m:Str->Option zz9}{tl:List zz9} (e:h.get? B=some ⟨c0,dd,.cls cd,sl⟩) (n:h.Ns cd.ns m) (i:∀x∈S,m x=none) (r:jJ h S Hg tl):jJ h S Hg (.ref B::tl)
section
variable {h h':Heap}{S:List Str}{Hg tl:List zz9}
end
section
variable {M:Model}{A:Around}{E:zz9->zz8->Prop}{h:Heap}{g:Array GenState}{d:Drawn}{t:Nat}{os:OsState}{S:List Str}{Hg tl:List zz9}{x:Str}{y:Option zz9}{Q:Option zz9->zz8->Prop}
variable {nm q:Str}{C N:Addr}{bs bm:List zz9}{hdct:Bool}{sn:List Str}{sub:List zz9}{ab:Bool}{col:Option Bool}{dd:Option Addr}{k0 k1 k2 k3 k5:Option zz9}{B newId:String}{mN:Str->Option zz9}
end
structure B5 (S:List Str) (h:Heap) (C f:Addr) (nm q:Str) (N:Addr) (bs bm Hg:List zz9) (sn:List Str) (sub:List zz9) (ab:Bool) (col:Option Bool) (dd:Option Addr) (k0 k1 k2 k3 k5:Option zz9) (mN:Str->Option zz9) (B newId GJ sa ow:String):Prop where
 at_:h.get? C=some (excClassObj nm q C N bs bm true sn sub ab col dd k0 k1 k2 k3 k5 newId)
 ns:h.Ns N mN
 init:mN (Str.ofString "__init__")=some (.ref f)
 no:∀x∈S,mN x=none
 tail:jJ h (Str.ofString "__init__"::S) Hg bm
 bf:ExcBaseFacts B newId GJ Hg
 sf:StoreFacts B Hg sa ow
 af:ExcAttrBase B Hg
section
variable {prog:Program}{w:World}{A:Around}{E:zz9->zz8->Prop}{h:Heap}{g:Array GenState}{d:Drawn}{t:Nat}{os:OsState}
 {S:List Str}{C f:Addr}{nm q:Str}{N:Addr}{bs bm Hg:List zz9}{sn:List Str}{sub:List zz9}{ab:Bool}{col:Option Bool}{dd:Option Addr}{k0 k1 k2 k3 k5:Option zz9}{mN:Str->Option zz9}{B newId GJ sa ow:String}
end
section
variable {X:Cx}{pins:List (Addr×Obj)}{σ:St}{H:Hp}{s:zz8}{ea:Addr}{φ:Heap->Prop}
end
section
variable {M:Model}{A:Around}{E:zz9->zz8->Prop}{s:zz8}{env:Env}{x:Sem zz9}{Q:Flow->zz8->Prop}
 {nm q:Str}{C N:Addr}{bs bm:List zz9}{hdct:Bool}{sn:List Str}{sub:List zz9}{ab:Bool}{col:Option Bool}{dd:Option Addr}{k0 k1 k2 k3 k5:Option zz9}{newId:String}
end
section
variable {X:Cx}{x:Str}{C f:Addr}{fd:FuncData}{ps:List Str}{sp:Sp}{k:Nat}{e:Expr}{es:List Expr}{t:TA}{np GK pos:Pos}{W:zz9->Option Addr->Hp->Prop}{S:List Str}
end
open Builtin Builtin.ObjectAttr
section
variable {prog:Program}{w:World}{A:Around}{E:zz9->zz8->Prop}{h:Heap}{g:Array GenState}{d:Drawn}{t:Nat}{os:OsState}
 {S:List Str}{C f x:Addr}{nm q:Str}{N:Addr}{bs bm Hg:List zz9}{sn:List Str}{sub:List zz9}{ab:Bool}{col:Option Bool}{dd:Option Addr}{k0 k1 k2 k3 k5:Option zz9}{mN:Str->Option zz9}{B newId GJ sa ow:String}
 {o:Obj}{vs:Array zz9}{name:Str}{v:zz9}
end
open Builtin Builtin.ObjectAttr
section
variable {prog:Program}{w:World}{A:Around}{E:zz9->zz8->Prop}{h:Heap}{g:Array GenState}{d:Drawn}{t:Nat}{os:OsState}
 {S:List Str}{C f x dx:Addr}{nm q:Str}{N:Addr}{bs bm Hg:List zz9}{sn:List Str}{sub:List zz9}{ab:Bool}{col:Option Bool}{dd:Option Addr}{k0 k1 k2 k3 k5:Option zz9}{mN mA:Str->Option zz9}{B newId GJ sa ow:String}
 {o:Obj}{vs:Array zz9}{name:Str}{v:zz9}
end
section
variable {X:Cx}{S:List Str}{o e value:Expr}{n:Str}{pos HU:Pos}{ta tv:TE}{C f:Addr}
end
abbrev Lm:List zz9:=[.type "ValueError",.type "Exception",.type "BaseException",.type "object"]
theorem fJ {K:Frag}{h:Heap}{C:Addr} (X:K.In h) (hx:excIn K C Lm "ValueError.__new__"=true):dC h C:=xO X hx F.excBase_ValueError
def fL (K:Frag) (C R:Addr):Bool:=match K.lookup C with
 | some ⟨.type "type",_,.cls cd,sl⟩=>(match cd.mro,sl.toList with
  | .ref C'::bm,[_,_,_,_,some (.builtin _),_]=>C' == C && !cd.hasDel && (Value.ref C::bm).contains (.ref R)
  | _,_=>false)
 | _=>false
theorem hU {K:Frag}{h:Heap}{C R:Addr} (X:K.In h) (hx:fL K C R=true):Under h C R:=by
 unfold fL at hx;split at hx
 ·rename_i TN cd sl heq
  split at hx
  ·rename_i C' bm k0 k1 k2 k3 n k5 hm hs
   simp only [CK,FT,beq_iff_eq] at hx;obtain⟨⟨h1,h2⟩,h3⟩:=hx;subst h1;have ho:=X _ _ heq;have JS:sl=#[k0,k1,k2,k3,some (.builtin n),k5]:=by
    rw [<- F8];exact hs
   obtain⟨nm,bs,mro,ns,qn,hdct,sn,sub,ab,col,S8⟩:=cd;simp only at hm h2 h3;subst hm;subst h2;subst JS;exact⟨nm,qn,ns,bs,bm,hdct,sn,sub,ab,col,TN,k0,k1,k2,k3,k5,n,ho,h3⟩
  ·cases hx
 ·cases hx
section
variable {X:Cx}{st b0:Stmt}{Hk:List Stmt}{tx:LL}{th:TS}{x n:Str}{R:Addr}{j:Nat}{np GV pos:Pos}
end
section
variable {X:Cx}{e:Expr}{es:List Expr}{pos:Pos}
end
section
variable {X:Cx}{st b0:Stmt}{Hk:List Stmt}{tx:LL}{th:TS}{x:Str}{R:Addr}{np GV pos:Pos}
end
open Builtin Builtin.ObjectAttr
section
variable {prog:Program}{w:World}{A:Around}{E:zz9->zz8->Prop}{K:Frag}{x D:Addr}{ox:Obj}{MU:Option Obj}{hh:Heap}{g:Array GenState}{d:Drawn}{t:Nat}{os:OsState}
theorem uQ {M:Model}{nv:zz9}{Q:Unit->zz8->Prop} (L0:Looks M hh (typeOf (.ref x)) (.ref D)) (L1:Looks M hh (isSubtype (.ref D) (.type "BaseException")) true) (hq:Q () ⟨hh,g,d,t,os⟩) :
  wpAny M A (checkBuiltinCall "BaseException.__getattribute__" ⟨[.ref x,nv],[]⟩) Q E ⟨hh,g,d,t,os⟩:=by
 have b1:builtinKind "BaseException.__getattribute__"=some .slot:=by decide +kernel
 have b2:splitId "BaseException.__getattribute__"=some ("BaseException","__getattribute__"):=by decide +kernel
 have ha:=F.args_bexc_ga (.ref x) nv;simp only [checkBuiltinCall,b1,b2];refine B6 ?_;unfold isInstance
 repeat (first | with_reducible refine L0.at ?_ | with_reducible refine L1.at ?_ | wp_step)
 exact hq
theorem vh {Q:Option zz9->zz8->Prop}{s:zz8} (X:K.In s.heap) (I:InstAt s.heap x ox D MU) (SL:Slot "ValueError" "__getattribute__" "BaseException.__getattribute__") (hc:(clsIn K D).isSome=true) (ZA:findIn K (.ref D) "__getattribute__"=some (some (.builtin "BaseException.__getattribute__"))) (Zz:findIn K (.ref D) "__getattr__"=some none)
  (ha:findIn K (.ref D) "__class__"=some (some (.builtin "object.__class__"))) (hn:specialIn K (.builtin "object.__class__") "__get__"=some (some (.builtin "getset_descriptor.__get__"))) (IJ:takesIn K (.builtin "object.__class__")=some true)
  (hb:subIn K (.ref D) (.type "BaseException")=some true) (hm:mroIn K D (.type "object")=some true) (h:Q (some (.ref D)) { s with toks:=s.toks + 1 }) :
  wpAny (model prog w) A (getAttr? (.ref x) "__class__") Q E s:=by
 obtain⟨hh,g,d,t,os⟩:=s;have L0:=I.type (M:=model prog w);have L1:=looks_findIn (M:=model prog w) X ZA;have L2:=looks_findIn (M:=model prog w) X Zz;have L4:Looks (model prog w) hh (isSubtype (.ref D) (.type "BaseException")) true:=looks_subIn X hb;obtain⟨cd,hc⟩:=DQ.mp hc;have hf:findObj K D MU "__class__"=some (.bind (.builtin "getset_descriptor.__get__") (.builtin "object.__class__")):=by
  simp only [findObj,hc,ha,hn,IJ,Option.bind_some]
 have L3:=looks_find (M:=model prog w) X I hf;have b3:=SL.bind (.ref x);have z2:(Value.builtin "BaseException.__getattribute__" == Value.builtin "object.__getattribute__")=false:=by decide +kernel
 unfold getAttr? getAttrBy? getAttrBy;refine B6 (wpAny_mkText (B6 (Fh (Dr (B6 (L0.at (B6 (L1.at ?_))))))))
 dsimp only
 rw [z2,Bool.and_false,if_neg Cs];unfold getAttrByItsOwn hookBefore
 repeat (any_goals (first | assumption | with_reducible refine L2.at ?_ | wp_step))
 refine codeAny_call_builtin SL.plain F.entry_bexc_ga (uQ L0 L4 ?_);unfold Builtin.«object.__getattribute__»
 repeat (any_goals (first | assumption | with_reducible refine L0.at ?_ | with_reducible refine L3.at ?_ | wp_step))
 refine class_get (s:=⟨hh,g,d,t + 1,os⟩) X I hm (B9 ?_);exact handed_on rfl (B9 h)
structure jV (K:Frag) (D:Addr):Prop where
 cls:(clsIn K D).isSome=true
 ga:findIn K (.ref D) "__getattribute__"=some (some (.builtin "BaseException.__getattribute__"))
 gb:findIn K (.ref D) "__getattr__"=some none
 kl:findIn K (.ref D) "__class__"=some (some (.builtin "object.__class__"))
 gt:specialIn K (.builtin "object.__class__") "__get__"=some (some (.builtin "getset_descriptor.__get__"))
 tk:takesIn K (.builtin "object.__class__")=some true
 sb:subIn K (.ref D) (.type "BaseException")=some true
 mr:mroIn K D (.type "object")=some true
def fM (K:Frag) (D:Addr):Bool:=(clsIn K D).isSome && findIn K (.ref D) "__getattribute__" == some (some (.builtin "BaseException.__getattribute__")) && findIn K (.ref D) "__getattr__" == some none && findIn K (.ref D) "__class__" == some (some (.builtin "object.__class__")) &&
 specialIn K (.builtin "object.__class__") "__get__" == some (some (.builtin "getset_descriptor.__get__")) && takesIn K (.builtin "object.__class__") == some true && subIn K (.ref D) (.type "BaseException") == some true && mroIn K D (.type "object") == some true
theorem ia {K:Frag}{D:Addr} (h:fM K D=true):jV K D:=by
 unfold fM at h;simp only [CK,beq_iff_eq] at h;obtain⟨⟨⟨⟨⟨⟨⟨h1,h2⟩,h3⟩,h4⟩,h5⟩,h6⟩,h7⟩,h8⟩:=h;exact⟨h1,h2,h3,h4,h5,h6,h7,h8⟩
theorem wC {K:Frag}{x D:Addr} (k:jV K D):KitX K (.ref x) (.ref D) (λh=>∃ox MU,InstAt h x ox D MU) where
 ty:=λ_ _ _ ⟨_,_,I⟩=>I.type
 it:=λ_ _ X _=>by
  obtain⟨cd,hc⟩:=DQ.mp k.cls;unfold clsIn at hc;split at hc
  ·rename_i ho
   intro A' Q' E' s' kk q;unfold isType loadHead;exact B6 (wpAny_loadPart (kk _ _ (X _ _ ho)) (B9 q))
  ·cases hc
 ne:=λh tp dd Gm n sl X Y4=>by
  obtain⟨cd,hc⟩:=DQ.mp k.cls;refine Bool.eq_false_iff.mpr λq=>?_;have e:D=tp:=Value.ref.inj (beq_iff_eq.mp q);subst e;unfold clsIn at hc;split at hc
  ·rename_i ho
   have z:=(X _ _ ho).symm.trans Y4;cases z
  ·cases hc
 ca:=λX ⟨_,_,I⟩ h=>vh X I F.attrBase_ValueError.ga k.cls k.ga k.gb k.kl k.gt k.tk k.sb k.mr h
end
section
variable {X:Cx}
theorem wc {pins:List (Addr×Obj)}{σ:St}{H:Hp}{s:zz8}{a C:Addr}{dx:Option Addr} (I:Inv X pins σ H s) (ea:H a=some (eQ a C dx)) (hd:∀d,dx=some d->∃fs,H d=some (.xd fs)):∃ox MU,InstAt s.heap a ox C MU:=by
 obtain⟨⟨oe,vs,o1,o2,o3,o4,_⟩,_⟩:=(show bg X.prog X.w H s.heap a (eQ a C dx) from I.hok a _ ea)
 cases dx with
 | none=>exact⟨oe,none,o1,o2,by unfold notCls;rw [o4],by rw [o3];exact True.intro⟩
 | some d =>
  obtain⟨fs,hf⟩:=hd d rfl;obtain⟨mA,nA,rA⟩:=(show bg X.prog X.w H s.heap d (.xd fs) from I.hok d _ hf)
  obtain⟨o,es,ep,h1,h2⟩:=nA.ns;exact⟨oe,some o,o1,o2,by unfold notCls;rw [o4],by rw [o3];exact h1⟩
theorem fA {C:Addr}{c:V}{cv:zz9}{b:Bool} (k:jV X.K C) (rc:∀u,RelV c u->u=cv) (e:kitOne X.K (.ref C) cv=some b):cC X (.builtin "isinstance") (λxs H Q=>∃a dx,xs=[.ref a,c]/\H a=some (eQ a C dx)/\(∀d,dx=some d->∃fs,H d=some (.xd fs))/\Q (.bl b) H):=by
 intro pins s σ H xs us Q I r h;obtain⟨a,dx,rfl,ea,hd,q⟩:=h;obtain⟨u,w',rfl,rx,ry⟩:=vals2 r;cases (show u=Value.ref a from rx);rw [rc _ ry];exact kia_one (wC k) I.kIn (wc I ea hd) e (λz=>nomatch z) λtk=>⟨.bl b,H,I.tok tk,rfl,q⟩
end
end L2
namespace L2
open PySem PySem.Spec PyProof.Rows
structure dw (k:Nat) (A:Around):Prop where
 dp:A.depth + 3 * k + 5 < recursionLimit
 un:A.units + 16 * k + 200 < cLine
 gd:A.guards=some []
theorem dw.deeper {k:Nat}{A:Around} (r:dw (k + 1) A) (env:Env):dw k (A.deeper env) :=
 ⟨by have:=r.dp;show A.depth + 1 + 3 * k + 5 < _;omega,by have:=r.un;show A.units + 3 + 16 * k + 200 < _;omega,r.gd⟩
theorem dw.depth {k:Nat}{A:Around} (r:dw k A):A.depth < recursionLimit:=by have:=r.dp;omega
def gE (CX:Ht) (P:Program) (w:World) (K:zz7) (mg:Str->Option zz9) (base:Heap) (N:List Str) (qual:Str) (scope:Scope) (f:Addr) (cd:zz9) (A:Around) (outer:List Env) (s:zz8) (H:Hp) (E:XK):Cx:={ cN CX P w K mg base N qual scope f cd A outer s H E with calm:=false }
structure BU (P:Program) (w:World) (K:zz7) (mg:Str->Option zz9) (base:Heap) (CX:Ht) (k:Nat) (f:Addr) (fd:FuncData) (ps:List Str) (sp:Sp):Prop where
 len:∀vs H Q E,sp vs H Q E->vs.length=ps.length
 run:∀(A:Around) (outer:List Env) (s:zz8) (H:Hp) (args:Args) (us:List zz9) (vs:List V) (Q:VK) (E:XK),dw k A->gg P w K mg base A outer s H->BindsTo s fd args (ps.zip us)->aC vs us->sp vs H Q E ->
  codeAny (model P w) A (.call (.ref f) args) (CR CX outer P w H s Q E) s
theorem uo {CX:Ht}{P:Program}{w:World}{K:zz7}{mg:Str->Option zz9}{base:Heap}{N ps:List Str}{qual:Str}{scope:Scope}{f:Addr}{cd:zz9}{A:Around}{outer:List Env}{s s1:zz8}{H:Hp}{E:XK}{us:List zz9}{vs:List V}
  (S:aV N ps scope) (e0:gg P w K mg base A outer s H) (hl:vs.length=ps.length) (r:aC vs us)
  (x:InCallC s s.heap.objs.size (bindL (envOfC qual scope s.heap.objs.size f cd).kindOf (ps.zip us) λ_=>none) (cellsFrom (s.heap.objs.size + 1) scope.names []) (bindC (envOfC qual scope s.heap.objs.size f cd).kindOf (ps.zip us) λ_=>none) s1) :
  Inv (gE CX P w K mg base N qual scope f cd A outer s H E) [] (start N vs) H s1:=by
 have GY:ps.length<=N.length:=by have:=congrArg List.length S.pre;rw [Dc] at this;omega
 obtain⟨h1,tk,rfl,hk⟩:=x.done;have KI:∀b:Addr,b∉(gE CX P w K mg base N qual scope f cd A outer s H E).ex:=λb z=>absurd (show b∈([]:List Addr) from z) (by simp)
 refine⟨⟨e0.mod,S.kind,rfl,rfl,Cc _,λy z c h1 h2=>?_,λy hy=>?_,λy c _ h=>?_,λz=>(nomatch (show false=true from z)),Around.frames_deeper e0.frames,.inr ⟨rfl,rfl⟩,λb z=>absurd z (KI b),e0.bs,e0.bsz,λb _ _=>KI b,λb z=>absurd z (KI b),e0.funs,e0.frf⟩,
  rfl,e0.bare,Un.kept hk,⟨_,x.toInCall.ns,λi y v h1 h2 h3=>?_⟩,λy c h=>⟨_,x.cell y c h⟩,e0.hok.fresh (Cc _),λy c h=>?_,λp hp=>absurd (show p∈([]:List (Addr×Obj)) from hp) (by simp),e0.hok.kept hk,?_⟩
 ·exact name_of_addr x.apart (C9 h1) (C9 h2)
 ·have hy:scope.names.lookup y=some .cell\/scope.names.lookup y=some .free:=hy
  rcases hy with hy | hy
  ·exact i5 hy
  ·exact absurd rfl (S.nofree _ (C9 hy))
 ·exact CO (x.above y c (C9 h))
 ·have hi:i < vs.length:=by
   unfold start at h2
   by_cases hi:i < vs.length
   ·exact hi
   ·rw [DJ (by simpa using hi)] at h2
    rw [EX] at h2;split at h2 <;> cases h2
  have ha:vs[i]?=some v:=by
   unfold start at h2;rw [CV (by simpa using hi),Cd] at h2;cases e:vs[i]? with
   | none=>rw [e] at h2;cases h2
   | some a=>rw [e] at h2;cases h2;rfl
  obtain⟨u,hu,rv⟩:=r.get ha;have hp:ps[i]?=some y:=by
   rw [<- S.pre,EJ (by omega)];exact h1
  have Om:ps.Nodup:=by rw [<- S.pre];exact S.nd.sublist (EZ _ _)
  refine⟨u,rv,?_⟩
  rcases S.par y (Cb hp) with k | k
  ·exact .inl ⟨k,j9 Om hp hu k⟩
  ·obtain⟨c,e⟩:=i5 (n:=s.heap.objs.size + 1) k
   refine .inr ⟨.inl k,c,e,?_⟩;have q:=x.cell y c e;rw [jZ Om hp hu (by show scope.names.lookup y≠_;rw [k];decide)] at q;exact q
 ·exact e0.hok.fresh (CO (x.above y c (C9 h)))
 ·unfold start
  show _=N.length;rw [Di,B8,List.length_replicate];omega
section
variable {X:Cx}{CX:Ht}{k:Nat}{f C:Addr}{fd:FuncData}{ps:List Str}{sp:Sp}{IC:List V}{ds:List zz9}{E:XK}{x m:Str}{p pos apos:Pos}{e o:Expr}{es:List Expr}{ta:TE}{t:TA}
end
variable {P:Program}{w:World}{K:zz7}{mg:Str->Option zz9}{base:Heap}{f:Addr}{fd:FuncData}
structure cT (P:Program) (w:World) (K:zz7) (mg:Str->Option zz9) (base:Heap) (CX:Ht) (k:Nat) (f:Addr) (fd:FuncData) (ps:List Str) (sp:Option zz9->Sp):Prop where
 len:∀hv vs H Q E,sp hv vs H Q E->vs.length=ps.length
 run:∀(A:Around) (outer:List Env) (s:zz8) (H:Hp) (args:Args) (us:List zz9) (vs:List V) (Q:VK) (E:XK),dw k A->gg P w K mg base A outer s H->BindsTo s fd args (ps.zip us)->aC vs us->sp A.handled vs H Q E ->
  codeAny (model P w) A (.call (.ref f) args) (CR CX outer P w H s Q E) s
theorem zk {CX:Ht}{P:Program}{w:World}{K:zz7}{mg:Str->Option zz9}{base:Heap}{k:Nat}{f:Addr}{name qual:Str}{params:Arguments}{body:List Stmt}{scope:Scope}{dV kV doc pm GL ct oc:zz9}{an od:Option Addr}
  {Jm:Array (Option zz9)}{N ps:List Str}{sp:Option zz9->Sp} (lk:K.lookup f=some ⟨oc,od,.func (PySem.W.fnOf name qual params body scope dV kV doc pm an GL ct),Jm⟩) (Ip:PySem.W.codeIn K GL qual=true) (S:aV N ps scope)
  (len:∀hv vs H Q E,sp hv vs H Q E->vs.length=ps.length)
  (GZ:∀(A:Around) (outer:List Env) (s:zz8) (H:Hp) (vs:List V) (Q:VK) (E:XK),dw k (A.deeper (envOfC qual scope s.heap.objs.size f GL))->sp A.handled vs H Q E ->
   ∃t,Ig (gE CX P w K mg base N qual scope f GL A outer s H E) body t/\t { nx:=λ_ H'=>Q .non H',rt:=Q } (start N vs) H) :
  cT P w K mg base CX (k + 1) f (PySem.W.fnOf name qual params body scope dV kV doc pm an GL ct) ps sp:=by
 refine⟨len,λA outer s H args us vs Q E hr e0 hb r IK=>?_⟩;have hl:=len _ _ _ _ _ IK;have KX:K.In s.heap:=e0.mod.kin.keeps λb o e=>(e0.bs b o e).1;have lim:s.heap.NoLimit:=e0.mod.nolimit.keeps λb o e=>(e0.bs b o e).1;have JX:∀y∈ps.zip us,scope.names.lookup y.1=some .local\/(scope.names.lookup y.1=some .cell/\((cellsFrom (s.heap.objs.size + 1) scope.names []).lookup y.1).isSome=true):=λ⟨n,v⟩ hy=>by
  rcases S.par n (Fo hy).1 with q | q
  ·exact .inl q
  ·exact .inr ⟨q,E6 _ _ _ (.inl q)⟩
 refine codeAny_call_function hr.depth (KX _ _ lk) rfl S.co S.gen rfl (PySem.W.codeRec_of KX Ip) (hb _ _ _ _ ?_);refine wpAny_newFunctionEnv_cells S.kind JX λenv he s1 x=>?_;subst he;refine⟨lim.keeps x.toInCall.keep,codeAny_func ?_⟩;obtain⟨t,ht,hq⟩:=GZ A outer s H vs Q E (hr.deeper _) IK;have I:Inv (gE CX P w K mg base N qual scope f GL A outer s H E) [] (start N vs) H s1:=uo S e0 hl r x;refine DD (ht [] s1 (start N vs) H _ I hq) (λfl s' hs=>?_) λe s' hs=>hs;have fin:∀{σ':St}{H':Hp}{v:V}{u:zz9},Inv (gE CX P w K mg base N qual scope f GL A outer s H E) [] σ' H' s'->RelV v u->Q v H'->CE outer P w H s Q u s' :=
  λ{σ' H' v u} J rv q=>⟨v,H',J.os,J.bare,J.base,J.hok,rv,q⟩
 cases fl with
 | ret u =>
  obtain⟨v,σ',H',J,rv,q⟩:=hs;exact fin J rv q
 | next =>
  obtain⟨σ',H',J,q⟩:=hs;exact fin (v:=V.non) (u:=Value.none) J rfl q
 | brk =>
  obtain⟨_,_,_,q⟩:=hs;exact False.elim q
 | cont =>
  obtain⟨_,_,_,q⟩:=hs;exact False.elim q
section
variable {X:Cx}{CX:Ht}{k:Nat}{f C:Addr}{fd:FuncData}{ps:List Str}{sp:Option zz9->Sp}{IC:List V}{ds:List zz9}{E:XK}{x m:Str}{p pos apos:Pos}{e o:Expr}{es:List Expr}{ta:TE}{t:TA}
theorem yl {pins:List (Addr×Obj)}{σ:St}{H:Hp}{s:zz8}{Q:VK}{us:List zz9}{vs:List V} (F:cT X.prog X.w X.K X.mg X.base CX k f fd ps sp) (hr:dw k X.A) (hb:Binds X.K fd ps ds) (hd:aC IC ds) (hx:fP CX X E)
  (I:Inv X pins σ H s) (r:aC vs us) (h:sp X.A.handled (vs++IC) H Q E):wpAny (model X.prog X.w) X.A (call (.ref f) us) (EP X pins σ Q) X.xe s:=by
 have r2:aC (vs++IC) (us++ds):=r.append hd;have hl:(us++ds).length=ps.length:=by rw [<- r2.length];exact F.len _ _ _ _ _ h
 refine wpAny_call (EI (F.run X.A X.stack s H ⟨us,[]⟩ (us++ds) (vs++IC) Q E hr I.env0 (hb s us I.kIn hl) r2 h) λr s' hq=>?_);cases r with
 | error e=>exact hx pins σ H s e s' I hq
 | ok fl =>
  cases fl with
  | ret u=>exact I.after hq
  | next=>exact False.elim hq
  | brk=>exact False.elim hq
  | cont=>exact False.elim hq
theorem v6 (F:cT X.prog X.w X.K X.mg X.base CX k f fd ps sp) (hr:dw k X.A) (hg:Gl X x) (hm:X.mg x=some (.ref f)) (hk:PySem.W.keepIn X.K (.ref f)=true) (hb:Binds X.K fd ps ds) (hd:aC IC ds) (hx:fP CX X E)
  (ha:PA X (e::es) t) (HX:(x == ("__debug__":Str))=false:=by decide) (he:starEach (e::es) X.env=(false,eval e X.env)::starEach es X.env:=by rfl) (GY:(backTo pos (starEach es X.env)).any (·.1)=false:=by rfl) :
  PE X (.Call (.Name x p) (e::es) [] pos) (iE (sp X.A.handled) IC E t):=by
 intro pins s σ H Q I h;refine Ep (gw I hg hm ?_ HX);refine FI (h₀:=X.base) I.ok.mod.kin hk (Gu (ha pos pins s σ H _ I h) λus s1 ⟨vs,H1,I1,r,q⟩=>⟨I1.kIn,?_⟩) he GY;exact yl F hr hb hd hx I1 r q
end
theorem Gy.okG {x qual:Str}{st:Stmt}{f:Addr}{fd:FuncData}{N ps:List Str}{k:Nat}{sp:Option zz9->Sp} (F:Gy K x qual st f fd) (S:aV N ps (aH st)) (len:∀hv vs H Q E,sp hv vs H Q E->vs.length=ps.length)
  (GZ:∀(GL:zz9) (A:Around) (outer:List Env) (s:zz8) (H:Hp) (vs:List V) (Q:VK) (E:XK),dw k (A.deeper (envOfC qual (aH st) s.heap.objs.size f GL))->sp A.handled vs H Q E ->
   ∃t,Ig (gE GB P w K mg base N qual (aH st) f GL A outer s H E).nox (dh st) t/\t { nx:=λ_ H'=>Q .non H',rt:=Q } (start N vs) H):cT P w K mg base GB (k + 1) f fd ps sp:=by
 obtain⟨oc,od,kV,doc,pm,an,GL,ct,Jm,rfl,lk,Ip⟩:=F.ex;refine zk lk Ip S len λA outer s H vs Q E hr IK=>?_;obtain⟨t,h,q⟩:=GZ GL A outer s H vs Q E hr IK;exact⟨t,h.nox,q⟩
def Uh (P:Program) (w:World) (K:zz7) (mg:Str->Option zz9) (base:Heap) (k:Nat) (x:Str) (ps:List Str) (sp:Option zz9->Sp):Prop :=
 ∃f fd,mg x=some (.ref f)/\PySem.W.keepIn K (.ref f)=true/\Binds K fd ps []/\cT P w K mg base GB k f fd ps sp
theorem zW {X:Cx}{k:Nat}{x:Str}{ps:List Str}{sp:Option zz9->Sp}{e:Expr}{es:List Expr}{t:TA}{p pos:Pos} (F:Uh X.prog X.w X.K X.mg X.base k x ps sp) (hr:dw k X.A) (ha:PA X (e::es) t) (hg:Gl X x:=by rfl)
  (HX:(x == ("__debug__":Str))=false:=by decide) (he:starEach (e::es) X.env=(false,eval e X.env)::starEach es X.env:=by rfl) (GY:(backTo pos (starEach es X.env)).any (·.1)=false:=by rfl) :
  PE X (.Call (.Name x p) (e::es) [] pos) (iE (sp X.A.handled) [] E0 t):=by
 obtain⟨f,fd,h1,h2,h3,h4⟩:=F;exact v6 h4 hr hg h1 h2 h3 .nil rH ha HX he GY
end L2
namespace L2
open PySem PySem.Spec PyProof.Rows PySem.W PySem.Calls
def B0 (h:Heap) (ea:Addr):Prop:=∃oe vs,h.get? ea=some oe/\oe.data=Data.fields vs/\vs[2]?=some Value.none
section
variable {prog:Program}{w:World}{A:Around}{E:zz9->zz8->Prop}{s:zz8}
end
end L2
namespace L2
open PySem PySem.Spec PyProof.Rows
section
variable {X:Cx}
theorem ng:cC X (.builtin "abs") (λxs H Q=>∃i,xs=[.int i]/\Q (.int (if i < 0 then -i else i)) H):=by
 intro pins s σ H xs us Q I r h;obtain⟨i,rfl,q⟩:=h;obtain⟨u,rfl,⟨t,rfl⟩⟩:=vals1 r;exact call_abs_int λu tk=>⟨.int (if i < 0 then -i else i),H,I.tok tk,⟨_,rfl⟩,q⟩
end
end L2
namespace L2
open PySem PySem.Spec PyProof.Rows PySem.W PySem.Calls
section
variable {prog:Program}{w:World}{A:Around}{E:zz9->zz8->Prop}{s:zz8}{R:Result->zz8->Prop}{I:Addr}{fp wr:List Addr}{n:Nat}{P:Nat->zz9->Prop}{St:Nat->Heap->Prop}
end
section
variable {X:Cx}
theorem vB:Pg X "list.index" (λx xs H Q=>∃(p:Addr) (ss:List Bool) (j:Nat) (y:Bool),x=.ref p/\xs=[.bl y]/\Gq X.K H p (ss.map V.bl)/\ss.length<=1000/\ss[j]?=some y/\(∀m,m < j->ss[m]?≠some y)/\Q (.int j) H):=by
 intro pins s σ H x xs v us Q I rx rs h;obtain⟨p,ss,j,y,rfl,rfl,hq,hz,hj,SM,q⟩:=h;cases rx;obtain⟨u,rfl,ry⟩:=vals1 rs;obtain⟨Gm,rv,pl,_⟩:=I.list hq;obtain⟨⟨cl,dc,da,sl⟩,n,ho,HY,OV,OW⟩:=pl;simp only at HY OV OW;subst HY OV OW;have hl:=rv.length;rw [B8] at hl;have fl:(ss.map V.bl).all dj=true:=by rw [EO];simp [dj,Function.comp_def]
 have HJ:j < ss.length:=(Ca.mp hj).1;have eq:∀m (hm:m < Gm.length),HA (.bl y) Gm[m]=decide (ss[m]?=some y):=λm hm=>by
  have OK:m < ss.length:=by omega
  obtain⟨w',hw,Hl⟩:=rv.get (i:=m) (x:=.bl ss[m]) (by rw [Cd,B7 OK];rfl);rw [B7 hm] at hw;cases hw;rw [jB Hl rfl,B7 OK];cases y <;> cases ss[m] <;> simp [Jy]
 refine Fs F.slot_list_index ⟨_,ho,rfl⟩ F.entry_list_index (F.args_list_index_2 _ _)
  (SeqAt.list_indexAt p Gm.toArray n none sl u (HA (.bl y)) j (by simpa [<- hl] using HJ) (by omega) ?_ ?_) ⟨ho,λw' hw=>fF ry rfl rv fl w' (by simpa using hw),⟨.int j,H,I.tok _,⟨_,rfl⟩,q⟩⟩
 ·show HA (.bl y) Gm[j]=true
  rw [eq j (by omega),hj];simp
 ·intro m hm GO
  show HA (.bl y) Gm[m]=false;rw [eq m (by simpa using hm)];exact decide_eq_false (SM m GO)
end
def Ah (tx:LL) (th:Addr->TS) (j:Nat) (U:Addr->Prop):TS:=λD σ H=>tx (λσ1 cls dx H'=>∃C,cls=.ref C/\U C/\∀ea,H' ea=none->th ea (rJ D j) (σ1.set j (some (.ref ea))) (upd H' ea (eQ ea C dx))) D σ H
section
variable {X:Cx}{st b0:Stmt}{Hk:List Stmt}{tx:LL}{th:Addr->TS}{x n:Str}{R:Addr}{j:Nat}{np GV pos:Pos}
theorem xT (Ms:Wo X st tx) (hx:X.mg x=some (.ref R)) (hR:dC X.base R) (JR:∀ea,Ig (X.held ea) (b0::Hk) (th ea)) (hN:X.N.Nodup) (hj:X.N[j]?=some n) (hn:X.env.scope.names.lookup n=some .local) (KQ:X.stack=X.env::X.outer) (OQ:X.env.frame=some X.env.locals) (hex:X.ex=[])
  (hg:Gl X x:=by rfl) (HX:(x == ("__debug__":Str))=false:=by decide) :
  PS X (.Try [st] [.ExceptHandler (some (.Name x np)) (some n) (b0::Hk) GV] [] [] pos) (Ah tx th j λC=>Under X.base C R):=by
 intro pins s σ H D I h;refine wpAny_Try_except (wpAny_execs_cons (DD (Ms pins s σ H D _ I h) (λf s1 q=>?_) (λe s1 q=>?_)))
 ·cases f with
  | next=>exact En (En q)
  | ret v=>exact q
  | brk=>exact q
  | cont=>exact q
 ·obtain⟨σ1,H1,s2,I1,ea,T,cls,a0,dx,H',rfl,os,bare,un,hok,n1,n2,m1,m2,Q2,C,rfl,hu,Sj⟩:=q
  have I':Inv X pins σ1 H' s1:=I1.call' (ch:=[]) os un hok bare (by simp);have Wa:=I'.stack;rw [KQ] at Wa;have afr:X.A.frames=some (X.env::X.outer):=by rw [<- KQ];exact I'.ok.frames
  have there:∀b o,s2.heap.get? b=some o->∃o',s1.heap.get? b=some o':=λb o q=>un.there b o q (by simp);have HG:∀b,s2.heap.get? b=none->X.s₀.heap.get? b=none/\b≠X.env.locals/\(∀x c,X.env.cells.lookup x=some c->c≠b)/\∀p∈X.pn++pins,p.1≠b:=λb q=>by
   refine⟨?_,λz=>?_,λy c e z=>?_,λp hp z=>?_⟩
   ·cases hc:X.s₀.heap.get? b with
    | none=>rfl
    | some o =>
     obtain⟨o',q'⟩:=I1.base.there b o hc (by rw [hex];simp);rw [q] at q';cases q'
   ·obtain⟨m,⟨o,_,_,ho,_⟩,_⟩:=I1.loc
    rw [<- z,q] at ho;cases ho
   ·obtain⟨v,o,ho,_⟩:=I1.cell y c e
    rw [z,q] at ho;cases ho
   ·have:=(I1.pin p hp).1
    rw [z,q] at this;cases this
  have XZ:∀b,s1.heap.get? b=none->H' b=none:=λb q=>by
   cases hc:H' b with
   | none=>rfl
   | some o =>
    obtain⟨ob,q'⟩:=bg.got (hok b o hc);rw [q] at q';cases q'
  have mk:∀b,s2.heap.get? b=none->H' b=none->X.s₀.heap.get? b=none/\H' b=none/\b≠X.env.locals/\(∀x c,X.env.cells.lookup x=some c->c≠b)/\∀p∈X.pn++pins,p.1≠b:=λb q1 q2=>⟨(HG b q1).1,q2,(HG b q1).2⟩
  refine uc (Q:=λ_ s3=>wpAny (model X.prog X.w) X.A (handleBy (Value.ref ea) X.env [ExceptHandler.ExceptHandler (some (Expr.Name x np)) (some n) (b0::Hk) GV]) (SP X pins D) X.xe s3) (base:=X.base) afr OQ Wa Q2 λh3 T3 U7 PP Uu=>?_;have US:s2.heap.get? T3=none/\H' T3=none:=by
   refine⟨?_,XZ T3 PP⟩;cases hc:s2.heap.get? T3 with
   | none=>rfl
   | some o =>
    obtain⟨o',q'⟩:=there T3 o hc;rw [PP] at q';cases q'
  have I3:Inv X pins σ1 H' { s1 with heap:=h3 }:=I'.moved (G:=[ea,T]) (λb hb=>by
   simp at hb
   rcases hb with z | z
   ·rw [z];exact mk ea n1 m1
   ·rw [z];exact mk T n2 m2) (λb o q hb hg=>U7.keep b o q (by rw [<- KQ];exact hb) hg) (λb o q hb=>U7.slot b o q (by rw [<- KQ];exact hb))
  refine wpAny_handleBy_cons (codeAny_handlers_test ?_) (by intro z;cases z);refine gw (X:=X.held ea) (I3.held ea) hg hx ?_ HX;obtain⟨nm,q,N,bs,bm,Hg,hdct,sn,sub,ab,col,dd,k0,k1,k2,k3,k5,mN,B,Bn,newId,RK,GJ,Se,TY,a1,a2,a3,a4,a5,a6,a7,a8⟩:=hR;obtain⟨UP,q',N',Wg,TZ,LJ,UC,NV,Wj,Pa,Jh,l0,l1,l2,l3,l5,JN,c1,c2⟩:=hu;obtain⟨oe,vs,oT,ts,g1,g2,g3,g4,g5,g6,g7,g8,g9,g10⟩:=id Uu;refine uv (I3.bk _ _ c1) (I3.bk _ _ a1) g1 g2 a5 ?_;rw [c2];show codeAny _ _ (Code.handlers (.ref ea) [ExceptHandler.ExceptHandler none (some n) (b0::Hk) GV] X.env) _ _;refine codeAny_handlers_suite_as (ground Uu λh4 Lp Xh=>?_)
  have I4:Inv X pins σ1 H' { s1 with heap:=h4 }:=Inv.moved (s:={ s1 with heap:=h3 }) (h':=h4) (G:=[T3]) I3 (λb hb=>by
   have z:b=T3:=by simpa using hb
   rw [z];exact mk T3 US.1 US.2) (λb o q hb hg=>(Lp b λz=>hg (by simp [z])).trans q) (λb o q hb=>⟨o.slots,(Lp b λz=>by
    obtain⟨o2,q2,nf⟩:=fW I3.stack b hb
    rw [z,g7] at q2;cases q2;exact nf _ g8).trans q⟩)
  obtain⟨oe4,vs4,oT4,ts4,f1,f2,f3,f4,_,_,_,_,_,Z2⟩:=id Xh;have I4t:Inv X pins σ1 (upd H' ea (eQ ea C dx)) { s1 with heap:=h4 }:=I4.track m1 (HG ea n1).1 (HG ea n1).2.1 (HG ea n1).2.2.1 (HG ea n1).2.2.2 (xi f1 f2 Z2 f4 f3.2);refine eW (X:=X.held ea) (I4t.held ea) hN hj (.inl hn) (v:=.ref ea) rfl (λs5 I5=>?_) (.inr hn);refine DD (JR ea pins s5 (σ1.set j (some (.ref ea))) (upd H' ea (eQ ea C dx)) (rJ D j) I5 (Sj ea m1)) (λf s6 q6=>?_) (λ_ _ z=>False.elim z);cases f with
  | next =>
   obtain⟨σ2,H2,J,q⟩:=q6;exact jl (J.unheld I.ok) hN hj hn λs7 I7=>⟨σ2.set j none,H2,I7,q⟩
  | brk =>
   obtain⟨σ2,H2,J,q⟩:=q6;exact jl (J.unheld I.ok) hN hj hn λs7 I7=>⟨σ2.set j none,H2,I7,q⟩
  | cont =>
   obtain⟨σ2,H2,J,q⟩:=q6;exact jl (J.unheld I.ok) hN hj hn λs7 I7=>⟨σ2.set j none,H2,I7,q⟩
  | ret u =>
   obtain⟨v,σ2,H2,J,rv,q⟩:=q6;exact jl (J.unheld I.ok) hN hj hn λs7 I7=>⟨v,σ2.set j none,H2,I7,rv,q⟩
end
end L2
namespace L2
open PySem PySem.Spec PyProof.Rows
section
variable {prog:Program}{w:World}{A:Around}{E:zz9->zz8->Prop}{s:zz8}
theorem pD {c t:Addr}{i:Nat}{Gm:Array zz9}{v:zz9}{Q:zz9->zz8->Prop} (hi:s.heap.IsTupleIter c t i) (ht:s.heap.IsTuple t Gm) (hv:Gm[i]?=some v)
  (k:∀G,G.IsTupleIter c t (i + 1)->Heap.SameBut c s.heap G->Q v { s with heap:=G }):wpAny (model prog w) A (Builtin.SmallTypes.nextOf (.ref c)) Q E s:=by
 obtain⟨o,e,cl,d⟩:=id hi;obtain⟨o2,e2,_,n2,d2⟩:=ht;unfold Builtin.SmallTypes.nextOf;refine B6 (Dh (name:=Str.ofString "__next__") hi.typeIs Ea (Dn Ea hi.typeIs F.entry_tuple_iterator_next ?_ (F.args_tuple_iterator_next_1 _)));refine (show wpAny _ _ (field (.ref c) 0 >>= _) _ _ s from B6 (C4 e d (x:=.ref t) rfl ?_));refine (show wpAny _ _ (if (Value.ref t == Value.none)=true then _ else _) _ _ s from ?_);rw [if_neg (show ¬ ((Value.ref t == Value.none)=true) from Cs)];refine (show wpAny _ _ (field (.ref c) 1 >>= _) _ _ s from B6 (C4 e d (x:=.int i 0) rfl ?_));refine (show wpAny _ _ (seqItems? (.ref t) >>= _) _ _ s from B6 (Ef e2 d2 ?_));simp only [Du,hv];refine B6 (Ee e d (by simp) (B9 ⟨v,rfl,B9 (k _ ⟨_,DK _ e (D2 (DN d _)),(FS ..).trans cl,by rw [DN d];simp [rawInt]⟩ (ED ..))⟩))
theorem zX {c t:Addr}{i:Nat}{Gm:Array zz9}{Q:zz9->zz8->Prop} (hh:A.handled=none) (hi:s.heap.IsTupleIter c t i) (ht:s.heap.IsTuple t Gm) (hv:Gm[i]?=none)
  (k:∀G x,Heap.ExtBut c s.heap G->(∃o,G.get? x=some o/\o.cls=.type "StopIteration")->E (.ref x) { s with heap:=G }):wpAny (model prog w) A (Builtin.SmallTypes.nextOf (.ref c)) Q E s:=by
 obtain⟨o,e,cl,d⟩:=id hi;obtain⟨o2,e2,_,n2,d2⟩:=ht;unfold Builtin.SmallTypes.nextOf;refine B6 (Dh (name:=Str.ofString "__next__") hi.typeIs Ea (Dn Ea hi.typeIs F.entry_tuple_iterator_next ?_ (F.args_tuple_iterator_next_1 _)));refine (show wpAny _ _ (field (.ref c) 0 >>= _) _ _ s from B6 (C4 e d (x:=.ref t) rfl ?_));refine (show wpAny _ _ (if (Value.ref t == Value.none)=true then _ else _) _ _ s from ?_);rw [if_neg (show ¬ ((Value.ref t == Value.none)=true) from Cs)];refine (show wpAny _ _ (field (.ref c) 1 >>= _) _ _ s from B6 (C4 e d (x:=.int i 0) rfl ?_));refine (show wpAny _ _ (seqItems? (.ref t) >>= _) _ _ s from B6 (Ef e2 d2 ?_));simp only [Du,hv];refine B6 (FX (B6 (Ee e d (by simp) (show wpAny _ _ (newExc (.type "StopIteration") [] >>= _) _ _ _ from B6 ?_))));simp only [newExc,newTuple];refine B6 (CS (B6 (m:=firstArgMember _ _) (wpAny_of_eq (a:=Value.none) (by first | rfl | (simp only [firstArgMember];rfl)) (CS ?_ (by size_fits)))) (by size_fits));simp only [raiseNew];refine B6 (wpAny_handled ?_);(first | rw [show A.in1.handled=none from hh] | rw [hh]);exact B6 (B9 (wpAny_throw (k _ _ (((ED ..).extBut.push _).push _) ⟨_,Cy _ rfl,rfl⟩)))
theorem xI {z TI TO i1 i2 l1 l2:Addr}{k:Nat}{xs ys:Array zz9}{x y a b:zz9}{Q:Option zz9->zz8->Prop} (D:ZipApart z TI TO i1 i2 l1 l2) (hz:IsZip s.heap z TI TO .none) (G0:IsPair s.heap TI (.ref i1) (.ref i2)) (Hi:IsPair s.heap TO a b)
  (h1:s.heap.IsTupleIter i1 l1 k) (h2:s.heap.IsTupleIter i2 l2 k) (t1:s.heap.IsTuple l1 xs) (t2:s.heap.IsTuple l2 ys) (hx:xs[k]?=some x) (hy:ys[k]?=some y)
  (q:∀G,IsZip G z TI TO (rawInt s.heap.objs.size)->IsPair G TO x y->G.IsTupleIter i1 l1 (k + 1)->G.IsTupleIter i2 l2 (k + 1)->IsPair G s.heap.objs.size x y->G.objs.size=s.heap.objs.size + 1 ->
   (∀c o,c≠z->c≠TO->c≠i1->c≠i2->s.heap.get? c=some o->G.get? c=some o)->Q (some (.ref s.heap.objs.size)) { s with heap:=G }):wpAny (model prog w) A (pyNext (.ref z)) Q E s:=by
 have ty:s.TypeIs (.ref z) "zip":=⟨_,hz,rfl⟩
 unfold pyNext;refine B6 (Fh (Dh (name:=Str.ofString "__next__") ty Fy (Dn Fy ty F.entry_zip_next ?_ (F.args_zip_next_1 _))));refine (show wpAny _ _ (field (.ref z) 2 >>= _) _ _ _ from B6 (C4 hz rfl (x:=.bool false) rfl ?_));refine (show wpAny _ _ (field (.ref z) 3 >>= _) _ _ _ from B6 (C4 hz rfl (x:=.ref TI) rfl (B6 (Ef G0 rfl ?_))));refine (show wpAny _ _ (Builtin.SmallTypes.ownedTupleIsFree (.ref z) >>= _) _ _ _ from B6 ?_);unfold Builtin.SmallTypes.ownedTupleIsFree;refine B6 (C4 hz rfl (x:=.none) rfl (B9 ?_));simp only [if_true];refine B6 (FX (B6 (C4 hz rfl (x:=.ref TO) rfl (B6 (Es hz (by simp) λg1 z1 s1=>?_)))));have QM:IsZip g1 z TI TO .ellipsis:=z1;refine B6 ?_;simp only [List.zipIdx_cons,List.zipIdx_nil,Fw,Gj];refine B6 (B6 (FN (show wpAny _ _ (Builtin.SmallTypes.nextOf (.ref i1) >>= _) _ _ _ from B6 (pD (h1.extBut s1.extBut D.i1z) (t1.at λo e=>s1.extBut _ o D.l1z e) hx λg2 j2 s2=>B9 ?_))));have o2:IsPair g2 TO a b:=s2.extBut _ _ D.TOi1 (s1.extBut _ _ D.TOz Hi);refine B6 (Ef o2 rfl (B6 (wpAny_updateSeq_pair o2 λg3 o3 s3=>?_)));have XS:IsPair g3 TO x b:=o3
 refine B6 (wpAny_letGo (B9 (B6 (B6 (FN (show wpAny _ _ (Builtin.SmallTypes.nextOf (.ref i2) >>= _) _ _ _ from B6 (pD (((h2.extBut s1.extBut D.i2z).extBut s2.extBut D.i12.symm).extBut s3.extBut D.TOi2.symm)
  (((t2.at λo e=>s1.extBut _ o D.l2z e).at λo e=>s2.extBut _ o D.l2i1 e).at λo e=>s3.extBut _ o D.l2TO e) hy λg4 j4 s4=>B9 ?_)))))))
 have o4:IsPair g4 TO x b:=s4.extBut _ _ D.TOi2 XS;refine B6 (Ef o4 rfl (B6 (wpAny_updateSeq_pair o4 λg5 o5 s5=>?_)));have UM:IsPair g5 TO x y:=o5;refine B6 (wpAny_letGo (B9 (B9 (B6 (Ef UM rfl (B6 (wpAny_newTuple ?_)))))));have sz:g5.objs.size=s.heap.objs.size:=by rw [s5.1,s4.1,s3.1,s2.1,s1.1]
 have z5:IsZip g5 z TI TO .ellipsis:=s5.extBut _ _ D.TOz.symm (s4.extBut _ _ D.i2z.symm (s3.extBut _ _ D.TOz.symm (s2.extBut _ _ D.i1z.symm QM)));have kp:∀c o,c≠z->c≠TO->c≠i1->c≠i2->s.heap.get? c=some o->g5.get? c=some o:=λc o n1 n2 n3 n4 e=>s5.extBut _ _ n2 (s4.extBut _ _ n4 (s3.extBut _ _ n2 (s2.extBut _ _ n3 (s1.extBut _ _ n1 e))));have j1:g5.IsTupleIter i1 l1 (k + 1):=((j2.extBut s3.extBut D.TOi1.symm).extBut s4.extBut D.i12).extBut s5.extBut D.TOi1.symm;have YO:g5.IsTupleIter i2 l2 (k + 1):=j4.extBut s5.extBut D.TOi2.symm;have lz:z < g5.objs.size:=Cp z5;refine (show wpAny _ _ (Builtin.SmallTypes.ownedTupleHandOut (.ref z) (.ref g5.objs.size) >>= _) _ _ _ from B6 ?_);unfold Builtin.SmallTypes.ownedTupleHandOut;have z6:IsZip (g5.push { cls:=.type "tuple",data:=.seq #[x,y] }) z TI TO .ellipsis:=Ce _ z5;refine B6 (Es z6 (by simp) λg7 z7 s7=>?_);have WD:IsZip g7 z TI TO (rawInt g5.objs.size):=z7;refine Es WD (by simp) λg8 z8 s8=>?_;have Uj:IsZip g8 z TI TO (rawInt g5.objs.size):=z8;have up:∀c o,c≠z->g5.get? c=some o->g8.get? c=some o:=λc o n e=>s8.extBut _ _ n (s7.extBut _ _ n (Ce _ e));have pr:IsPair g8 g5.objs.size x y:=s8.extBut _ _ (FZ lz) (s7.extBut _ _ (FZ lz) (Cy _ rfl));have UA:g8.objs.size=g5.objs.size + 1:=by rw [s8.1,s7.1,DM]
 rw [sz] at Uj pr UA;refine B9 ⟨_,rfl,B9 (show Q (some (.ref g5.objs.size)) _ from ?_)⟩;rw [sz];exact q g8 Uj (up _ _ D.TOz UM) (j1.at λo e=>up _ o D.i1z e) (YO.at λo e=>up _ o D.i2z e) pr UA λc o n1 n2 n3 n4 e=>up c o n1 (kp c o n1 n2 n3 n4 e)
theorem zg {z TI TO i1 i2 l1 l2:Addr}{k:Nat}{xs:Array zz9}{a b:zz9}{Q:Option zz9->zz8->Prop} (hh:A.handled=none) (D:ZipApart z TI TO i1 i2 l1 l2) (hz:IsZip s.heap z TI TO .none) (G0:IsPair s.heap TI (.ref i1) (.ref i2)) (Hi:IsPair s.heap TO a b)
  (h1:s.heap.IsTupleIter i1 l1 k) (t1:s.heap.IsTuple l1 xs) (hx:xs[k]?=none)
  (q:∀G,(∀c o,c≠z->c≠TO->c≠i1->c≠i2->s.heap.get? c=some o->G.get? c=some o)->Q none { s with heap:=G }):wpAny (model prog w) A (pyNext (.ref z)) Q E s:=by
 have ty:s.TypeIs (.ref z) "zip":=⟨_,hz,rfl⟩
 unfold pyNext;refine B6 (Fh (Dh (name:=Str.ofString "__next__") ty Fy (Dn Fy ty F.entry_zip_next ?_ (F.args_zip_next_1 _))));refine (show wpAny _ _ (field (.ref z) 2 >>= _) _ _ _ from B6 (C4 hz rfl (x:=.bool false) rfl ?_));refine (show wpAny _ _ (field (.ref z) 3 >>= _) _ _ _ from B6 (C4 hz rfl (x:=.ref TI) rfl (B6 (Ef G0 rfl ?_))));refine (show wpAny _ _ (Builtin.SmallTypes.ownedTupleIsFree (.ref z) >>= _) _ _ _ from B6 ?_);unfold Builtin.SmallTypes.ownedTupleIsFree;refine B6 (C4 hz rfl (x:=.none) rfl (B9 ?_));simp only [if_true];refine B6 (FX (B6 (C4 hz rfl (x:=.ref TO) rfl (B6 (Es hz (by simp) λg1 z1 s1=>?_)))));have QM:IsZip g1 z TI TO .ellipsis:=z1;refine B6 ?_;simp only [List.zipIdx_cons,List.zipIdx_nil,Fw,Gj];refine B6 (B6 (FN (show wpAny _ _ (Builtin.SmallTypes.nextOf (.ref i1) >>= _) _ _ _ from B6 (zX hh (h1.extBut s1.extBut D.i1z) (t1.at λo e=>s1.extBut _ o D.l1z e) hx λg2 x s2 he=>?_))));obtain⟨oe,e1,e2⟩:=he;have z2:IsZip g2 z TI TO .ellipsis:=s2 _ _ D.i1z.symm QM;have nz:x≠z:=λw'=>by subst w';rw [z2] at e1;cases e1;simp at e2
 refine Es z2 (by simp) λg3 _ s3=>?_;refine B6 (wpAny_isInstance (T:="StopIteration") (b:=true) ⟨oe,s3.extBut _ _ nz e1,e2⟩ isSubtype_stop (B9 (q _ λc o n1 _ n3 _ e=>s3.extBut _ _ n1 (s2 _ _ n3 (s1.extBut _ _ n1 e)))))
theorem v7 (l1 l2:Addr) (xs ys:Array zz9) :
  Meets (Builtin.«zip.__new__» ⟨[.type "zip",.ref l1,.ref l2],[]⟩) (λ_ R s=>s.heap.IsTuple l1 xs/\s.heap.IsTuple l2 ys /\
   ∃G:Heap,G=(((((s.heap.push { cls:=.type "tuple_iterator",data:=.fields #[.ref l1,.int 0 0] }).push { cls:=.type "tuple_iterator",data:=.fields #[.ref l2,.int 0 0] }).push { cls:=.type "tuple",data:=.seq #[.ref s.heap.objs.size,.ref (s.heap.objs.size + 1)] }).push { cls:=.type "tuple",data:=.seq #[.none,.none] }).push
    { cls:=.type "zip",data:=.fields #[.none,.bool false,.bool false,.ref (s.heap.objs.size + 2),.ref (s.heap.objs.size + 3)] })/\R (.ok (.ret (.ref (s.heap.objs.size + 4)))) { s with heap:=G }) :=
 .of_wp λprog w A R s h=>by
  obtain⟨hp,g,d,tk,os⟩:=s;obtain⟨a1,a2,G,e,h⟩:=h;have GH:=sub_zip;have b1:Heap.IsTuple (Shared.heap ⟨hp,g,d,tk,os⟩) l1 xs:=a1;have b2:Heap.IsTuple (Shared.heap ⟨hp.push { cls:=.type "tuple_iterator",data:=.fields #[.ref l1,.int 0 0] },g,d,tk,os⟩) l2 ys:=a2.at λo e=>Ce _ e
  wp_walk using FH b1,FH b2
  subst e;refine⟨_,rfl,?_⟩;simp only [DM];exact h
theorem yw {l1 l2:Addr}{xs ys:Array zz9}{Q:zz9->zz8->Prop} (t1:s.heap.IsTuple l1 xs) (t2:s.heap.IsTuple l2 ys)
  (q:∀G,IsZip G (s.heap.objs.size + 4) (s.heap.objs.size + 2) (s.heap.objs.size + 3) .none->IsPair G (s.heap.objs.size + 2) (.ref s.heap.objs.size) (.ref (s.heap.objs.size + 1))->IsPair G (s.heap.objs.size + 3) .none .none ->
   G.IsTupleIter s.heap.objs.size l1 0->G.IsTupleIter (s.heap.objs.size + 1) l2 0->G.objs.size=s.heap.objs.size + 5->(∀c o,s.heap.get? c=some o->G.get? c=some o)->Q (.ref (s.heap.objs.size + 4)) { s with heap:=G }) :
  wpAny (model prog w) A (call (.type "zip") [.ref l1,.ref l2]) Q E s:=by
 refine callType_new F.called_zip (by decide) (F.typeCall_zip_2 _ _) (F.newCall_zip_2 _ _) (λobj=>F.args_object_init_3 obj _ _) F.entry_zip_new (v7 l1 l2 xs ys) ⟨t1,t2,_,rfl,?_⟩;have at':∀(h:Heap) (o:Obj) (n:Nat),h.objs.size=n->o.isFreed=false->(h.push o).get? n=some o:=λh o n e f=>by rw [<- e];exact Cy _ f
 have kp:∀{h:Heap}{o:Obj}{c:Addr}{v:Obj},h.get? c=some v->(h.push o).get? c=some v:=λe=>Ce _ e;have g5:=at' ((((s.heap.push { cls:=.type "tuple_iterator",data:=.fields #[.ref l1,.int 0 0] }).push { cls:=.type "tuple_iterator",data:=.fields #[.ref l2,.int 0 0] }).push { cls:=.type "tuple",data:=.seq #[.ref s.heap.objs.size,.ref (s.heap.objs.size + 1)] }).push { cls:=.type "tuple",data:=.seq #[.none,.none] })
  { cls:=.type "zip",data:=.fields #[.none,.bool false,.bool false,.ref (s.heap.objs.size + 2),.ref (s.heap.objs.size + 3)] } (s.heap.objs.size + 4) (by simp only [DM]) rfl
 have g4:=at' (((s.heap.push { cls:=.type "tuple_iterator",data:=.fields #[.ref l1,.int 0 0] }).push { cls:=.type "tuple_iterator",data:=.fields #[.ref l2,.int 0 0] }).push { cls:=.type "tuple",data:=.seq #[.ref s.heap.objs.size,.ref (s.heap.objs.size + 1)] }) { cls:=.type "tuple",data:=.seq #[.none,.none] } (s.heap.objs.size + 3) (by simp only [DM]) rfl;have g3:=at' ((s.heap.push { cls:=.type "tuple_iterator",data:=.fields #[.ref l1,.int 0 0] }).push { cls:=.type "tuple_iterator",data:=.fields #[.ref l2,.int 0 0] }) { cls:=.type "tuple",data:=.seq #[.ref s.heap.objs.size,.ref (s.heap.objs.size + 1)] } (s.heap.objs.size + 2) (by simp only [DM]) rfl;have g2:=at' (s.heap.push { cls:=.type "tuple_iterator",data:=.fields #[.ref l1,.int 0 0] }) { cls:=.type "tuple_iterator",data:=.fields #[.ref l2,.int 0 0] } (s.heap.objs.size + 1) (by simp only [DM]) rfl;have g1:=at' s.heap { cls:=.type "tuple_iterator",data:=.fields #[.ref l1,.int 0 0] } s.heap.objs.size rfl rfl;exact⟨⟨_,g5,rfl⟩,q _ g5 (kp (kp g3)) (kp g4) ⟨_,kp (kp (kp (kp g1))),rfl,rfl⟩ ⟨_,kp (kp (kp g2)),rfl,rfl⟩ (by simp only [DM]) λc o e=>kp (kp (kp (kp (kp e))))⟩
end
def Uc (K:zz7) (a b:Addr):It :=
 ⟨λi H=>∃xs ys x y,Gp K H a xs/\Gp K H b ys/\xs[i]?=some x/\ys[i]?=some y,
  λi H v H'=>∃T x y,v=.ref T/\H T=none/\H'=upd H T (.tup [x,y])/\(∀xs,Gp K H a xs->xs[i]?=some x)/\∀ys,Gp K H b ys->ys[i]?=some y,
  λi H=>∃xs,Gp K H a xs/\xs.length<=i⟩
def A3 (z TI TO i1 i2 l1 l2:Addr) (i:Nat) (h:Heap):Prop:=IsZip h z TI TO .none/\IsPair h TI (.ref i1) (.ref i2)/\(∃a b,IsPair h TO a b)/\h.IsTupleIter i1 l1 i/\h.IsTupleIter i2 l2 i
theorem yB {P:Program}{w:World}{K:zz7}{elts:List Expr}{x1}{pos:Pos} (z TI TO i1 i2 l1 l2:Addr) (D:ZipApart z TI TO i1 i2 l1 l2) :
  Turn P w K (.Tuple elts x1 pos) (Uc K l1 l2) [z,TI,TO,i1,i2] z (A3 z TI TO i1 i2 l1 l2) where
 mem:=by simp
 obj:=λi h st b hb=>by
  obtain⟨hz,G0,⟨a,c,Hi⟩,⟨o1,e1,c1,d1⟩,⟨o2,e2,c2,d2⟩⟩:=st;simp only [Ci,C2,or_false] at hb
  rcases hb with rfl | rfl | rfl | rfl | rfl
  ·exact⟨_,hz,λv q=>by cases q⟩
  ·exact⟨_,G0,λv q=>by cases q⟩
  ·exact⟨_,Hi,λv q=>by cases q⟩
  ·exact⟨_,e1,λv q=>by rw [d1] at q;cases q⟩
  ·exact⟨_,e2,λv q=>by rw [d2] at q;cases q⟩
 keep:=λi h h' st k=>by
  obtain⟨hz,G0,⟨a,c,Hi⟩,h1,h2⟩:=st;exact⟨k z (by simp) _ hz,k TI (by simp) _ G0,⟨a,c,k TO (by simp) _ Hi⟩,h1.at λo e=>k i1 (by simp) o e,h2.at λo e=>k i2 (by simp) o e⟩
 item:=by
  intro X hP hw hK hc i pins s σ H E I hf st hg;subst hP hw hK;obtain⟨xs,ys,x,y,G6,He,hx,hy⟩:=hg;obtain⟨hz,G0,⟨a,c,Hi⟩,h1,h2⟩:=id st;obtain⟨Hm,IQ,p1,Lv⟩:=I.tuple G6;obtain⟨Ha,Mi,p2,Qd⟩:=I.tuple He;obtain⟨u1,OA,N7⟩:=IQ.get hx;obtain⟨u2,Si,Rt⟩:=Mi.get hy;refine xI D hz G0 Hi h1 h2 (show s.heap.IsTuple l1 Hm.toArray from p1) (show s.heap.IsTuple l2 Ha.toArray from p2) (x:=u1) (y:=u2) (by simpa using OA) (by simpa using Si) λh' a1 a2 a3 a4 a5 a6 a7=>?_;refine⟨_,rfl,wpAny_letOwnedTupleGo_zip (s:={ s with heap:=h' }) a1 λJw z2 sb=>?_⟩;have Ii:=sb.extBut;generalize hT:s.heap.objs.size=T at *;have lt:∀{b:Addr}{o:Obj},s.heap.get? b=some o->b≠T:=λ{b o} e=>by rw [<- hT];exact CU (Cp e)
  have fresh:H T=none:=by rw [<- hT];exact I.hok.fresh (Cc _)
  have GQ:∀b∈[z,TI,TO,i1,i2],b≠T:=λb hb=>by
   obtain⟨o1,e1,_⟩:=h1;obtain⟨o2,e2,_⟩:=h2;simp only [Ci,C2,or_false] at hb
   rcases hb with rfl | rfl | rfl | rfl | rfl
   ·exact lt hz
   ·exact lt G0
   ·exact lt Hi
   ·exact lt e1
   ·exact lt e2
  have I0:Inv X pins σ (upd H T (.tup [x,y])) { s with heap:=s.heap.push { cls:=.type "tuple",data:=.seq #[u1,u2] },toks:=s.toks }:=by
   subst hT;exact I.laid (t':=s.toks) (λb o q=>Ce _ q) (Cc _) ⟨by show 2<=sizeLine;decide,[u1,u2],.cons N7 (.cons Rt .nil),_,Cy _ rfl,rfl,0,rfl⟩
  have up:∀b o,b∉[z,TI,TO,i1,i2]->(s.heap.push { cls:=.type "tuple",data:=.seq #[u1,u2] }).get? b=some o->Jw.get? b=some o:=λb o hb e=>by
   simp only [Ci,C2,or_false,not_or] at hb
   rcases Fx e with ⟨e1,e2⟩ | e1
   ·subst e2
    rw [e1,hT];exact Ii _ _ (GQ z (by simp)).symm a5
   ·exact Ii _ _ hb.1 (a7 b o hb.1 hb.2.2.1 hb.2.2.2.1 hb.2.2.2.2 e1)
  have I2:Inv X pins σ (upd H T (.tup [x,y])) { s with heap:=Jw,toks:=s.toks }:=Inv.turnedS (s:={ s with heap:=s.heap.push { cls:=.type "tuple",data:=.seq #[u1,u2] },toks:=s.toks }) (t':=s.toks) (ch:=[z,TI,TO,i1,i2]) I0 up λb hb=>by
   obtain⟨f0,f1⟩:=hf b hb;exact⟨by rw [av (GQ b hb)];exact f0,f1⟩
  exact⟨.ref T,upd H T (.tup [x,y]),I2,rfl,⟨T,x,y,rfl,fresh,rfl,λws hw=>by rw [I.tuple_inj hw G6];exact hx,λws hw=>by rw [I.tuple_inj hw He];exact hy⟩,
   ⟨z2,Ii _ _ D.TIz (a7 _ _ D.TIz D.TITO D.TIi1 D.TIi2 G0),⟨_,_,Ii _ _ D.TOz a2⟩,a3.at λo e=>Ii _ _ D.i1z e,a4.at λo e=>Ii _ _ D.i2z e⟩,λb hb=>by rw [av (GQ b hb)];exact (hf b hb).1⟩
 done:=by
  intro X hP hw hK hc i pins s σ H E I hf st hg;subst hP hw hK;obtain⟨xs,G6,hx⟩:=hg;obtain⟨hz,G0,⟨a,c,Hi⟩,h1,h2⟩:=id st;obtain⟨Hm,IQ,p1,Lv⟩:=I.tuple G6;have M3:=IQ.length;refine zg (I.ok.hd hc) D hz G0 Hi h1 (show s.heap.IsTuple l1 Hm.toArray from p1) (by simp;omega) λh' hk=>⟨rfl,I.turnedS (t':=s.toks) (ch:=[z,TI,TO,i1,i2]) (λb o hb e=>?_) hf⟩
  simp only [Ci,C2,or_false,not_or] at hb;exact hk b o hb.1 hb.2.2.1 hb.2.2.2.1 hb.2.2.2.2 e
 self:=λ_ _ _ _ _ st h=>Fj st.1 h
section
variable {X:Cx}
def YS (K:zz7) (ta:TA):TI:=λσ H R=>ta σ H λvs H1=>∃a b xs ys,vs=[.ref a,.ref b]/\Gp K H1 a xs/\Gp K H1 b ys/\R (Uc K a b) H1
theorem AN {a b:Expr}{elts:List Expr}{x1}{HQ:Pos}{ta:TA}{p pos:Pos} (hg:Gl X "zip") (hm:X.mg "zip"=none) (ha:PA X [a,b] ta) (hs:starEach [a,b] X.env=[(false,eval a X.env),(false,eval b X.env)]:=by rfl) (Hq:starEach [b] X.env=[(false,eval b X.env)]:=by rfl) :
  PI X (.Tuple elts x1 HQ) (.Call (.Name "zip" p) [a,b] [] pos) (YS X.K ta):=by
 intro pins s σ H R I h;refine Call_ (e7 I hg hm boot_zip (Dp (Gu (ha pos pins s σ H _ I h) λus s1 ⟨vs,H1,I1,r1,q1⟩=>?_) (by rw [hs,Hq]) (by rw [Hq];rfl)));obtain⟨a',b',xs,ys,rfl,G6,He,q⟩:=q1;obtain⟨u1,u2,rfl,ra,rb⟩:=vals2 r1;cases ra;cases rb;obtain⟨Hm,IQ,p1,Lv⟩:=I1.tuple G6;obtain⟨Ha,Mi,p2,Qd⟩:=I1.tuple He;have l1:a' < s1.heap.objs.size:=by obtain⟨o,e,_⟩:=p1;exact Cp e
 have l2:b' < s1.heap.objs.size:=by obtain⟨o,e,_⟩:=p2;exact Cp e
 refine yw (show s1.heap.IsTuple a' Hm.toArray from p1) (show s1.heap.IsTuple b' Ha.toArray from p2) λh' hz G0 Hi SW M4 hsz hk=>?_;refine Fj hz ?_;refine⟨_,[s1.heap.objs.size + 4,s1.heap.objs.size + 2,s1.heap.objs.size + 3,s1.heap.objs.size,s1.heap.objs.size + 1],_,_,H1,rfl,I1.kept (t':=s1.toks) hk,yB _ _ _ _ _ _ _ (zipApart_new l1 l2),⟨hz,G0,⟨_,_,Hi⟩,SW,M4⟩,λb hb=>?_,q⟩;have HW:s1.heap.objs.size<=b:=by
  simp only [Ci,C2,or_false] at hb
  rcases hb with rfl | rfl | rfl | rfl | rfl
  ·exact Dz _ _
  ·exact Dz _ _
  ·exact Dz _ _
  ·exact Cc _
  ·exact Dz _ _
 exact I1.fpOk HW (I1.hok.fresh HW)
end
section
variable {prog:Program}{w:World}{A:Around}{E:zz9->zz8->Prop}{s:zz8}
theorem yQ {c d:Addr}{i ep:Nat}{o:Obj}{es:Array DictEntry}{Q:Option zz9->zz8->Prop} (hi:s.heap.IsKeyIter c d i es.size ep) (ho:s.heap.get? d=some o) (hd:o.data=.dict es ep) (lt:i < es.size)
  (q:∀G,G.IsKeyIter c d (i + 1) es.size ep->Heap.SameBut c s.heap G->Q (some es[i].key) { s with heap:=G }):wpAny (model prog w) A (pyNext (.ref c)) Q E s:=by
 obtain⟨oc,e,cl,dc⟩:=id hi;have own:Builtin.Dict_items.ownsTuple "dict_keyiterator"=false:=by decide
 unfold pyNext;refine B6 (Fh (Dh (name:=Str.ofString "__next__") hi.typeIs DE (Dn DE hi.typeIs F.entry_dict_keyiterator_next ?_ (Fz _))));refine B6 (B9 (B6 (B6 ?_)))
 (first | refine B6 (DU hi.typeIs (B9 (B6 (FE e dc ?_)))) | refine B6 (Eh hi.typeIs (B9 (B6 (FE e dc ?_)))));simp only [own,DZ,if_false]
 refine (show wpAny _ _ (if (Value.ref d == Value.none)=true then _ else _) _ _ s from ?_);rw [if_neg (show ¬ ((Value.ref d == Value.none)=true) from Cs)];refine B6 (B9 (B6 (FU ho hd ?_)));rw [if_neg (by simp)];refine B6 (B9 (B6 (wpAny_dictEpoch ho hd ?_)));rw [if_neg (by simp)];refine B9 ?_;simp only [show ¬ ((i:Int) < 0) from by omega,if_false,Du,Eb lt];refine B6 ?_;(first | refine B6 (DU hi.typeIs (B9 (B6 (Fl hi.typeIs ?_)))) | refine B6 (Eh hi.typeIs (B9 (B6 (Fl hi.typeIs ?_)))));refine (show wpAny _ _ (setField (.ref c) 1 (rawInt ((i:Int) + 1)) >>= _) _ _ s from B6 (Ee e dc (by simp) ?_));have M4:(s.heap.update c (Obj.mapFields (·.setIfInBounds 1 (rawInt ((i:Int) + 1))))).IsKeyIter c d (i + 1) es.size ep:=⟨_,DK _ e (D2 (DN dc _)),(FS ..).trans cl,by rw [DN dc];simp [rawInt]⟩
 refine B6 (Dr (B6 (Fl (s:={ s with heap:=s.heap.update c (Obj.mapFields (·.setIfInBounds 1 (rawInt ((i:Int) + 1)))) }) M4.typeIs ?_)));exact (show wpAny _ _ (pure es[i].key) _ _ _ from B9 (B9 ⟨_,rfl,B9 (q _ M4 (ED ..))⟩))
theorem zO {c d:Addr}{i ep:Nat}{o:Obj}{es:Array DictEntry}{Q:Option zz9->zz8->Prop} (hh:A.handled=none) (hi:s.heap.IsKeyIter c d i es.size ep) (ho:s.heap.get? d=some o) (hd:o.data=.dict es ep) (ge:es.size<=i)
  (q:∀G,Heap.ExtBut c s.heap G->Q none { s with heap:=G }):wpAny (model prog w) A (pyNext (.ref c)) Q E s:=by
 obtain⟨oc,e,cl,dc⟩:=id hi;have own:Builtin.Dict_items.ownsTuple "dict_keyiterator"=false:=by decide
 unfold pyNext;refine B6 (Fh (Dh (name:=Str.ofString "__next__") hi.typeIs DE (Dn DE hi.typeIs F.entry_dict_keyiterator_next ?_ (Fz _))));refine B6 (B9 (B6 (B6 ?_)))
 (first | refine B6 (DU hi.typeIs (B9 (B6 (FE e dc ?_)))) | refine B6 (Eh hi.typeIs (B9 (B6 (FE e dc ?_)))));simp only [own,DZ,if_false]
 refine (show wpAny _ _ (if (Value.ref d == Value.none)=true then _ else _) _ _ s from ?_);rw [if_neg (show ¬ ((Value.ref d == Value.none)=true) from Cs)];refine B6 (B9 (B6 (FU ho hd ?_)));rw [if_neg (by simp)];refine B6 (B9 (B6 (wpAny_dictEpoch ho hd ?_)));rw [if_neg (by simp)];refine B9 ?_;simp only [show ¬ ((i:Int) < 0) from by omega,if_false,Du,Array.getElem?_eq_none ge];refine B6 ?_;(first | refine B6 (DU hi.typeIs (B9 ?_)) | refine B6 (Eh hi.typeIs (B9 ?_)));refine (show wpAny _ _ (setField (.ref c) 0 .none >>= _) _ _ s from B6 (Ee e dc (by simp) (show wpAny _ _ (newExc (.type "StopIteration") [] >>= _) _ _ _ from B6 ?_)));simp only [newExc,newTuple];refine B6 (CS (B6 (m:=firstArgMember _ _) (wpAny_of_eq (a:=Value.none) (by first | rfl | (simp only [firstArgMember];rfl)) (CS ?_ (by size_fits)))) (by size_fits));simp only [raiseNew];refine B6 (wpAny_handled ?_);rw [show A.in1.handled=none from hh];refine B6 (B9 (wpAny_throw ?_));refine B6 (wpAny_isInstance (T:="StopIteration") (b:=true) ⟨_,Cy _ rfl,rfl⟩ isSubtype_stop (B9 (q _ (((ED ..).extBut.push _).push _))))
theorem xD {d:Addr}{ep:Nat}{o:Obj}{es:Array DictEntry}{Q:zz9->zz8->Prop} (nd:(d == sysModules)=false) (ho:s.heap.get? d=some o) (ex:o.ExactDict) (hd:o.data=.dict es ep)
  (q:Q (.ref s.heap.objs.size) { s with heap:=s.heap.push { cls:=.type "dict_keyiterator",data:=.fields #[.ref d,.int 0 0,.int es.size 0,.int ep 0] } }):wpAny (model prog w) A (pyIter (.ref d)) Q E s:=by
 have ty:s.TypeIs (.ref d) "dict":=⟨o,ho,ex.1⟩
 refine wpAny_pyIter_slot ty F.slot_dict_iter (Dn F.slot_dict_iter ty F.entry_dict_iter ?_ (F.args_dict_iter_1 _));unfold Builtin.«dict.__iter__»;refine B6 ?_;unfold Builtin.Dict.dictSlotNone;refine B6 (wpAny_notOrdered_dict ty (show wpAny _ _ (pure (Value.ref d)) _ _ s from B9 (show wpAny _ _ (Builtin.Dict.showsAll d >>= _) _ _ s from ?_)));unfold Builtin.Dict.showsAll;rw [if_neg (by rw [nd];exact Cs)];refine B6 (B9 (B6 (FU ho hd (B6 (wpAny_dictEpoch ho hd (B6 (CS (B9 ⟨_,rfl,"dict_keyiterator",_,⟨_,Cy _ rfl,rfl⟩,DE.lookup,?_⟩))))))));simpa [rawInt] using q
end
theorem Paired.at {α β:Type}{F:α->β->Prop}:∀{l:List α}{m:List β},Paired F l m->∀{i:Nat}{x:α},l[i]?=some x->∃y,m[i]?=some y/\F x y
 | _,_,.cons r t,0,x,h=>by simp at h;subst h;exact⟨_,rfl,r⟩
 | _,_,.cons r t,i + 1,x,h=>by simpa using Paired.at t (by simpa using h)
section
variable {X:Cx}{tg:Expr}
end
def lG (H:Hp) (a:Addr) (y v:V) (H':Hp):Prop:=∃kvs k,H a=some (.dK kvs)/\y=kV k/\kvs.length < sizeLine/\H'=upd H a (.dK (putK kvs k v))
theorem uC {X:Cx}{pins:List (Addr×Obj)}{σ:St}{H H':Hp}{s:zz8}{a:Addr}{y v:V}{u r:zz9}{A:Around}{E:zz9->zz8->Prop}{Q:Unit->zz8->Prop} (I:Inv X pins σ H s) (g:lG H a y v H') (ry:RelV y u) (rv:RelV v r) (h:∀s',Inv X pins σ H' s'->Q () s') :
  wpAny (model X.prog X.w) A (dictSet a u r) Q E s:=by
 obtain⟨kvs,k,e,ey,l,eH⟩:=g;subst ey eH;obtain⟨z,hd,vs,rel,dd⟩:=lK I.hok e;have hl:(putK kvs k v).length<=sizeLine:=by have:=iN kvs k v;omega
 refine wpAny_dictSet_pairs (hsz:=by rw [<- rel.length];exact z) (fT ry) dd λh' Jh hs=>h _ ?_;have he:∃q,h'.get? a=some q:=let ⟨q,_,_,hq,_⟩:=Jh;⟨q,hq⟩;exact jj I (by rw [e];exact True.intro) hs he (lE hl hd (rel.put k rv) Jh)
def lQ (D:Addr) (J:It) (g:TG) (tt:TT) (tk tv:TE) (σ':St) (fin:Hp->Prop) (H1:Hp):Prop :=
 ∃W:Nat->Nat->St->Hp->Prop,(∃m,W 0 m σ' H1)/\∀i m σ H,W i m σ H ->
  (J.stop i H/\fin H)\/(J.go i H/\∃Nx:St->Hp->Prop,(∀σ' H',Nx σ' H'->∃m',m' < m/\W (i + 1) m' σ' H') /\
   ∀x H',J.yld i H x H'->g x σ H' λσ2 H2=>tt σ2 H2 λb H3=>if b=true then tk σ2 H3 (λy H4=>tv σ2 H4 λv H5=>∃H6,lG H5 D y v H6/\Nx σ2 H6) else Nx σ2 H3)
section
variable {X:Cx}{scope:Scope}{N:List Str}{ix:List (Option Nat)}
variable {tg iter kx vx:Expr}{ifs:List Expr}{pos:Pos}{g:TG}{tt:TT}{tk tv:TE}
theorem yx (L:cw X scope N ix) (hc:X.calm=true) (hg:∀C s0 H0 fp,PG (be X scope N C s0 H0 fp) tg g) (ht:∀C s0 H0 fp,MM (be X scope N C s0 H0 fp) ifs tt) (hk:∀C s0 H0 fp,PE (be X scope N C s0 H0 fp) kx tk) (hv:∀C s0 H0 fp,PE (be X scope N C s0 H0 fp) vx tv)
  {pins:List (Addr×Obj)}{σ:St}{H1:Hp}{s1:zz8}{it:Addr}{fp:List Addr}{tn:Nat->Heap->Prop}{J:It}{fin:Addr->Hp->Prop}{E:zz9->zz8->Prop}{RR:zz9->Addr->Result->zz8->Prop}
  (I1:Inv X pins σ H1 s1) (T:Turn X.prog X.w X.K tg J fp it tn) (st:tn 0 s1.heap) (f1:∀b∈fp,cj X pins H1 b) (hW:∀D,H1 D=none->lQ D J g tt tk tv (Jf ix σ) (fin D) (upd H1 D (.dK [])))
  (Tg:∀D C s' m H',s'.heap.Ns C m->s'.os=s1.os->cj X pins H' C->(∀h',Heap.SameBut C s'.heap h'->Inv X pins σ H' { s' with heap:=h' })->fin D H'->RR (.ref D) C (.ok .next) s') :
  wpAny (model X.prog X.w) X.A newDict (λGG s3=>wpAny (model X.prog X.w) X.A (newFunctionEnv scope X.env.globals (cE X.env scope.names []) [] X.env.qual none .none (some X.env)) (λJ2 s4 =>
   codeAny (model X.prog X.w) X.A (.compStart (.DictComp kx vx [⟨tg,iter,ifs,0⟩] scope pos) 0 (.ref it) GG { J2 with scope:=relabel scope X.env }) (RR GG J2.locals) s4) E s3) E s1:=by
 have M8:∀b∈fp,b < s1.heap.objs.size:=λb hb=>by
  obtain⟨o,e,_⟩:=T.obj _ _ st b hb;exact Cp e
 have ZO:H1 s1.heap.objs.size=none:=I1.hok.fresh (Cc _);obtain⟨W,⟨m0,w0⟩,turn⟩:=hW s1.heap.objs.size ZO;refine CS (wpAny_newFunctionEnv L.nocell (by intro y hy;simp at hy) (λh1 Ka Lz=>?_) L.kind)
 dsimp only at Ka Lz ⊢
 have I2:Inv X pins σ (upd H1 s1.heap.objs.size (.dK [])) { s1 with heap:=s1.heap.push { cls:=.type "dict",data:=.dict #[] },toks:=s1.toks } :=
  I1.laid (t':=s1.toks) (a:=s1.heap.objs.size) (o:=.dK []) (λ_ _ q=>Ce _ q) (Cc _) (ky s1.heap I1.big)
 have f2:∀b∈fp,cj X pins (upd H1 s1.heap.objs.size (.dK [])) b:=λb hb=>by
  obtain⟨q0,q1⟩:=f1 b hb;exact⟨by rw [av (CU (M8 b hb))];exact q0,q1⟩
 have KF:tn 0 (s1.heap.push { cls:=.type "dict",data:=.dict #[] }):=T.keep _ _ _ st λb _ o e=>Ce _ e;generalize hD:s1.heap.objs.size=D at *;generalize hH2:upd H1 D (.dK [])=H2 at *;generalize hG:s1.heap.push { cls:=.type "dict",data:=.dict #[] }=G at *;have O0:G.objs.size=D + 1:=by rw [<- hG,DM,hD]
 generalize Na:G.objs.size=C at *;have kp:∀b o,G.get? b=some o->h1.get? b=some o:=λb o e=>Lz.extBut b o (λz=>by have:=Cp e;rw [Na] at this;exact absurd (z ▸ this) (DI _)) (Ce _ e);have I4:=rF L (tk:=s1.toks + ([]:List (Str×zz9)).length) I2 (C:=C) (by show G.objs.size<=C;rw [Na];exact Cc _) f2 (λb hb=>by show b < G.objs.size;rw [Na,O0];exact Nat.lt_succ_of_lt (M8 b hb)) kp Ka;have NW:tn 0 h1:=T.keep _ _ _ KF λb _ o e=>kp b o e;generalize Hq:({ s1 with heap:=G,toks:=s1.toks }:zz8)=s2 at I2 I4;have OC:s2.heap=G:=by rw [<- Hq]
 have Sy:s2.os=s1.os:=by rw [<- Hq]
 have stat:∀{H':Hp},(∀b∈fp,H' b=none)->∀b∈fp,cj (be X scope N C s2 H2 fp) [] H' b:=λ{H'} hn b hb=>by
  have GO:=M8 b hb;refine⟨hn b hb,λz=>?_,λz=>?_,.inl hb,λx c e=>(f2 b hb).2.2.2.2.1 x c (eE e),λp hq z=>?_⟩
  ·exact yp GO O0 z
  ·exact (Ci.mp (I2.stkSub b z)).elim (f2 b hb).2.1 (f2 b hb).2.2.1
  ·have Iy:p∈([]:List (Addr×Obj)):=by simpa [be] using hq
   cases Iy
 have loop:∀s4:zz8,Inv (be X scope N C s2 H2 fp) [] (Jf ix σ) H2 s4->tn 0 s4.heap->codeAny (model X.prog X.w) X.A (.compLoop (.DictComp kx vx [⟨tg,iter,ifs,0⟩] scope pos) 0 (.ref it) (.ref D) (be X scope N C s2 H2 fp).env) (RR (.ref D) C) s4:=by
  intro s4 I4' Q7;refine xX (λn s'=>∃i σ' H',Inv (be X scope N C s2 H2 fp) [] σ' H' s'/\tn i s'.heap/\(∀b∈fp,H' b=none)/\W i n σ' H') ?_ m0 ⟨0,Jf ix σ,H2,I4',Q7,λb hb=>(f2 b hb).1,w0⟩;rintro n s' ⟨i,σ',H',I',G9,O5,w'⟩
  rcases turn i n σ' H' w' with ⟨stop,qf⟩ | ⟨go,Nx,hN,step⟩
  ·refine Gu (T.done (be X scope N C s2 H2 fp) rfl rfl rfl hc i _ s' σ' H' _ I' (stat O5) G9 stop) λr s5 ⟨hr,I5⟩=>?_
   subst hr;obtain⟨m5,SN,_⟩:=I5.loc;refine Tg D C s5 m5 H' SN (I5.os.trans Sy) (I2.fpOk (by rw [OC,Na];exact Cc _) I5.free) (λh' Iw=>?_) qf;exact yZ I2 f2 I5 (by rw [OC,Na];exact Cc _) λb o hb e=>Iw.extBut b o hb e
  ·refine Gu (T.item (be X scope N C s2 H2 fp) rfl rfl rfl hc i _ s' σ' H' _ I' (stat O5) G9 go) λr s5 ⟨u,hr,h5⟩=>?_
   subst hr;refine Gu h5 λ_ s6 ⟨x,H6,I6,r6,y6,Mb,Tu⟩=>?_;have Ud:=I6.pinned (stat Tu) (T.obj _ _ Mb);refine Gu (hg C s2 H2 fp _ s6 σ' H6 x u _ Ud r6 (step x H6 y6)) λ_ s7 ⟨σ7,H7,I7,q7⟩=>?_;refine Gu (ht C s2 H2 fp _ s7 σ7 H7 _ I7 q7) λok s8 ⟨H8,I8,q8⟩=>?_;have back:∀{H9:Hp}{s9:zz8},Inv (be X scope N C s2 H2 fp) ([]++gA fp s6.heap) σ7 H9 s9->tn (i + 1) s9.heap/\∀b∈fp,H9 b=none:=λ{H9 s9} I9=>by
    refine⟨T.keep _ _ _ Mb λb hb o e=>(I9.pin (b,o) (Cv _ (Cv _ (gj hb e)))).1,λb hb=>?_⟩;obtain⟨o,e,d⟩:=T.obj _ _ Mb b hb;exact (I9.pin (b,o) (Cv _ (Cv _ (gj hb e)))).2.1
   cases ok with
   | false =>
    rw [if_neg Cs] at q8 ⊢;obtain⟨m',hm,w8⟩:=hN _ _ q8;obtain⟨Q5,Tt⟩:=back I8;exact⟨m',hm,i + 1,σ7,H8,I8.unpinned,Q5,Tt,w8⟩
   | true =>
    rw [if_pos rfl] at q8 ⊢;refine Gu (hk C s2 H2 fp _ s8 σ7 H8 _ I8 q8) λyv s9 ⟨y,H9,I9,r9,q9⟩=>?_;refine Gu (hv C s2 H2 fp _ s9 σ7 H9 _ I9 q9) λxv Ls ⟨v,Hs,Ue,KG,GW,ZY,Rx⟩=>?_;refine uC (X:=be X scope N C s2 H2 fp) Ue ZY r9 KG λJ7 WA=>?_;obtain⟨m',hm,WO⟩:=hN _ _ Rx;obtain⟨Q8,Tv⟩:=back WA;exact⟨m',hm,i + 1,σ7,GW,WA.unpinned,Q8,Tv,WO⟩
 have q:=loop _ I4 NW;subst Hq;exact codeAny_compStart_dict q (T.self _ 0 _ _ _ NW q)
def BH (wi:TI) (g:TG) (tt:TT) (tk tv:TE) (ix:List (Option Nat)):TE:=λσ H Q=>wi σ H λJ H1=>∀D,H1 D=none->lQ D J g tt tk tv (Jf ix σ) (λH'=>Q (.ref D) H') (upd H1 D (.dK []))
theorem yS {wi:TI} (L:cw X scope N ix) (hc:X.calm=true) (hi:PI X tg iter wi) (hg:∀C s0 H0 fp,PG (be X scope N C s0 H0 fp) tg g)
  (ht:∀C s0 H0 fp,MM (be X scope N C s0 H0 fp) ifs tt) (hk:∀C s0 H0 fp,PE (be X scope N C s0 H0 fp) kx tk) (hv:∀C s0 H0 fp,PE (be X scope N C s0 H0 fp) vx tv) (hs:∀x,foldedSetIterable iter X.env x=pure x:=by intro _;rfl) :
  PE X (.DictComp kx vx [⟨tg,iter,ifs,0⟩] scope pos) (BH wi g tt tk tv ix):=by
 intro pins s σ H Q I h;show wpAny _ X.A (comprehension (.DictComp kx vx [⟨tg,iter,ifs,0⟩] scope pos) scope X.env _ newDict false (eval iter X.env)) _ _ s;refine EL (use:=none) rfl hs (L.clos I.ok) L.kind L.locals (Gu (hi pins s σ H _ I h) λv s1 h1=>Gu h1 λOv s2 h2=>?_);obtain⟨it,fp,tn,J,H2,rfl,I2,T,KF,f2,hW⟩:=h2;refine yx (RR:=λGG C=>compPost (model X.prog X.w) X.A X.xe none (EP X pins σ Q) GG C) L hc hg ht hk hv I2 T KF f2 hW ?_;intro D C s' m H' hn ho hC hI fin;exact⟨m,hn,λh' Iw=>⟨.ref D,_,hI h' Iw,rfl,fin⟩⟩
end
def lD:List (TE×TE)->St->Hp->(List (V×V)->Hp->Prop)->Prop
 | [],_,H,Q=>Q [] H
 | (tk,tv)::r,σ,H,Q=>tk σ H λx H1=>tv σ H1 λy H2=>lD r σ H2 λps H3=>Q ((x,y)::ps) H3
abbrev VV:List (V×V)->List (zz9×zz9)->Prop:=Paired λp q=>RelV p.1 q.1/\RelV p.2 q.2
def QA (X:Cx) (pos:Pos) (keys:List (Option Expr)) (values:List Expr) (KA:List (TE×TE)):Prop :=
 ∀(pins:List (Addr×Obj)) (s:zz8) (σ:St) (H:Hp) (Q:List (V×V)->Hp->Prop),Inv X pins σ H s->lD KA σ H Q ->
  wpAny (model X.prog X.w) X.A (evalPairs (pairTrees keys values X.env pos)) (λvs s'=>∃ps H',Inv X pins σ H' s'/\VV ps vs/\Q ps H') X.xe s
theorem oN {X:Cx}{pos:Pos}:QA X pos [] [] []:=λpins s σ H Q I h=>pairTrees_nil_walk ⟨[],H,I,.nil,h⟩
theorem oq {X:Cx}{pos:Pos}{k v:Expr}{ks:List (Option Expr)}{vs:List Expr}{tk tv:TE}{KA:List (TE×TE)} (hk:PE X k tk) (hv:PE X v tv) (hr:QA X pos ks vs KA) :
  QA X pos (some k::ks) (v::vs) ((tk,tv)::KA):=λpins s σ H Q I h =>
 pairTrees_cons_walk (Gu (hk pins s σ H _ I h) λu s1 ⟨x,H1,I1,rx,q1⟩=>Gu (hv pins s1 σ H1 _ I1 q1) λw2 s2 ⟨y,H2,I2,ry,q2⟩ =>
  Gu (hr pins s2 σ H2 _ I2 q2) λws s3 ⟨ps,H3,I3,rel,q3⟩=>⟨(x,y)::ps,H3,I3,.cons ⟨rx,ry⟩ rel,q3⟩)
def eZ (kvs more:List (Key×V)):List (Key×V):=more.foldl (λGG kv=>putK GG kv.1 kv.2) kvs
theorem KV.merge:∀{more:List (Key×V)}{rs:List (Key×zz9)}{kvs:List (Key×V)}{vs:List (Key×zz9)},KV more rs->KV kvs vs->KV (eZ kvs more) (merged vs rs):=by
 intro more rs kvs vs r;unfold KV at r
 induction r generalizing kvs vs with
 | nil=>intro q;exact q
 | @cons p q ps qs h t ih =>
  intro r0;have e:KV (putK kvs p.1 p.2) (stored vs q.1 q.2):=by
   have:=r0.put p.1 h.2;rw [<- h.1];exact this
  exact ih e
theorem ml:∀(more kvs:List (Key×V)),(eZ kvs more).length<=kvs.length + more.length
 | [],kvs=>by show kvs.length<=kvs.length + 0;omega
 | p::r,kvs=>by
  have h1:=ml r (putK kvs p.1 p.2);have h2:=iN kvs p.1 p.2;show (eZ (putK kvs p.1 p.2) r).length<=_;rw [C5];omega
theorem mG {P:Program}{w:World}:∀{kvs:List (Key×V)}{ws:List (zz9×zz9)},VV (kvs.map λkv=>(kV kv.1,kv.2)) ws->∃rs,Carries (cK P w) ws rs/\KV kvs rs
 | [],_,r=>by rw [Fv] at r;cases r;exact⟨[],True.intro,.nil⟩
 | p::kvs,_,r=>by
  rw [CD] at r;cases r with
  | @cons a b as bs h t =>
   obtain⟨rs,c,q⟩:=mG (P:=P) (w:=w) t;obtain⟨b1,b2⟩:=b;exact⟨(p.1,b2)::rs,⟨fT h.1,rfl,c⟩,.cons ⟨rfl,h.2⟩ q⟩
def rq (KA:List (TE×TE)):TE:=λσ H Q=>∀p,H p=none->lD KA σ (upd H p (.dK [])) λps H2=>H2 p=some (.dK [])/\∃kvs:List (Key×V),ps=kvs.map (λkv=>(kV kv.1,kv.2))/\kvs.length<=15/\Q (.ref p) (upd H2 p (.dK (eZ [] kvs)))
theorem pI {X:Cx}{pos:Pos}{keys:List (Option Expr)}{values:List Expr}{KA:List (TE×TE)} (h:QA X pos keys values KA) (Hr:keys.all (·.isSome)=true) (hl:keys.length=values.length) (h0:keys≠[])
  (O3:keys.length<=15):PE X (.Dict keys values pos) (rq KA):=by
 intro pins s σ H Q I q;have hn:=I.hok.fresh (Cc s.heap.objs.size);have I1:=I.laid (a:=s.heap.objs.size) (o:=.dK []) (h':=s.heap.push { cls:=.type "dict",data:=.dict #[] }) (t':=s.toks) (λ_ _ q=>Ce _ q) (Cc _) (ky s.heap I.big);refine wpAny_Dict_walk (knd:=cK X.prog X.w) Hr hl h0 O3 (Gu (h pins _ σ _ _ I1 (q _ hn)) λws s2 ⟨ps,H2,I2,rel,e,kvs,ep,lk,q2⟩=>?_);subst ep;obtain⟨rs,c,rk⟩:=mG (P:=X.prog) (w:=X.w) rel;obtain⟨z,hd,vs0,r0,dd⟩:=lK I2.hok e;cases r0;refine⟨rs,c,dd,λh' Jh hs=>⟨.ref s.heap.objs.size,_,?_,rfl,q2⟩⟩;have hz:(eZ [] kvs).length<=sizeLine:=by
  have h1:=ml kvs [];rw [Gg] at h1;rw [DO];omega
 have he:∃q,h'.get? s.heap.objs.size=some q:=let ⟨q,_,_,hq,_⟩:=Jh;⟨q,hq⟩;exact jj I2 (by rw [e];exact True.intro) hs he (lE hz hd (rk.merge .nil) Jh)
structure M1 (X:Cx) (o:Expr) (m:Str) (apos:Pos) (e:Expr) (GK:Pos):Prop where
 base:attributeBase o m X.env (eval o X.env)=eval o X.env
 Wb:((backTo GK (starEach [e] X.env)).all (λx=>!x.1) && (backToKw GK (keywordEach [] X.env)).all (λx=>x.1.isSome)
  && decide (([e]:List Expr).length + ([]:List Keyword).length + (if ([]:List Keyword).isEmpty then 0 else 1) < 30))=true
 line:(apos.endLine == GK.line)=true
 trees:backTo GK (starEach [e] X.env)=[(false,eval e X.env)]
structure M2 (X:Cx) (o:Expr) (m:Str) (apos:Pos) (e f:Expr) (GK:Pos):Prop where
 base:attributeBase o m X.env (eval o X.env)=eval o X.env
 Wb:((backTo GK (starEach [e,f] X.env)).all (λx=>!x.1) && (backToKw GK (keywordEach [] X.env)).all (λx=>x.1.isSome)
  && decide (([e,f]:List Expr).length + ([]:List Keyword).length + (if ([]:List Keyword).isEmpty then 0 else 1) < 30))=true
 line:(apos.endLine == GK.line)=true
 trees:backTo GK (starEach [e,f] X.env)=[(false,eval e X.env),(false,eval f X.env)]
section
variable {X:Cx}{pins:List (Addr×Obj)}{σ:St}{H:Hp}{s:zz8}{a:Addr}{y d:V}{u r:zz9}{o:Option V}{A:Around}{E:zz9->zz8->Prop}
end
section
variable {X:Cx}{o e f:Expr}{apos GK:Pos}{td ty tx:TE}
end
section
variable {X:Cx}{pins:List (Addr×Obj)}{σ:St}{H:Hp}{s:zz8}{a:Addr}{kvs:List (Key×V)}{A:Around}{E:zz9->zz8->Prop}
end
section
variable {X:Cx}{pins:List (Addr×Obj)}{σ:St}{H:Hp}{s:zz8}{a:Addr}{y:V}{u:zz9}{A:Around}{E:zz9->zz8->Prop}
end
section
variable {X:Cx}
theorem vL:cC X (.builtin "len") (λxs H Q=>∃a kvs,xs=[V.ref a]/\H a=some (.dK kvs)/\Q (.int kvs.length) H):=by
 intro pins s σ H xs us Q I r h;obtain⟨a,kvs,rfl,ha,q⟩:=h;obtain⟨u,rfl,ru⟩:=vals1 r;cases ru;exact rB I (.inl ha) λt s' I'=>⟨.int kvs.length,H,I',⟨t,rfl⟩,q⟩
end
section
variable {κ:Type} [DecidableEq κ]
end
end L2
namespace L2
open PySem PySem.Spec PyProof.Rows PySem.W PySem.Calls
section
variable {X:Cx}
end
section
variable {prog:Program}{w:World}{A:Around}{E:zz9->zz8->Prop}{s:zz8}
end
section
variable {prog:Program}{w:World}{A:Around}{R:Result->zz8->Prop}{K:Type} [DecidableEq K] {knd:PySem.KeyKind prog w K}
end
section
variable {X:Cx}
end
end L2
namespace L2
open PySem PySem.Spec PyProof.Rows
def Pn (K:zz7) (a:Addr):It :=
 ⟨λi H=>∃xs x,Gq K H a xs/\xs[i]?=some x,
  λi H v H'=>∃T x,v=.ref T/\H T=none/\H'=upd H T (.tup [.int i,x])/\∀xs,Gq K H a xs->xs[i]?=some x,
  λi H=>∃xs,Gq K H a xs/\xs.length<=i⟩
def yX (e it l:Addr) (i:Nat) (h:Heap):Prop:=(∃old,IsEnum h e it i old)/\h.IsListIter it l i
theorem vf {P:Program}{w:World}{K:zz7}{elts:List Expr}{x1}{pos:Pos} (e it l:Addr) (VN:e≠it) :
  Turn P w K (.Tuple elts x1 pos) (Pn K l) [e,it] e (yX e it l) where
 mem:=by simp
 obj:=λi h st b hb=>by
  obtain⟨⟨old,he⟩,⟨o1,e1,c1,d1⟩⟩:=st;simp only [Ci,C2,or_false] at hb
  rcases hb with rfl | rfl
  ·exact⟨_,he,λv q=>by cases q⟩
  ·exact⟨_,e1,λv q=>by rw [d1] at q;cases q⟩
 keep:=λi h h' st k=>by
  obtain⟨⟨old,he⟩,h1⟩:=st;exact⟨⟨old,k e (by simp) _ he⟩,h1.at λo q=>k it (by simp) o q⟩
 item:=by
  intro X hP hw hK hc i pins s σ H E I hf st hg;subst hP hw hK;obtain⟨xs,x,G6,hx⟩:=hg;obtain⟨⟨old,he⟩,h1⟩:=id st;obtain⟨Hm,IQ,p1,Lv⟩:=I.list G6;obtain⟨u1,OA,N7⟩:=IQ.get hx;refine wpAny_pyNext_enum_item he h1 p1.isList (x:=u1) (by simpa using OA) VN λh' a1 a2 a3 a4 a5=>?_;refine⟨_,rfl,wpAny_letOwnedTupleGo_enum (s:={ s with heap:=h',toks:=s.toks + 1 }) a1 λJw z2 sb=>?_⟩;have Ii:=sb.extBut;generalize hT:s.heap.objs.size=T at *;have lt:∀{b:Addr}{o:Obj},s.heap.get? b=some o->b≠T:=λ{b o} e=>by rw [<- hT];exact CU (Cp e)
  have fresh:H T=none:=by rw [<- hT];exact I.hok.fresh (Cc _)
  have GQ:∀b∈[e,it],b≠T:=λb hb=>by
   obtain⟨o1,e1,_⟩:=h1;simp only [Ci,C2,or_false] at hb
   rcases hb with rfl | rfl
   ·exact lt he
   ·exact lt e1
  have I0:Inv X pins σ (upd H T (.tup [.int i,x])) { s with heap:=s.heap.push { cls:=.type "tuple",data:=.seq #[.int i s.toks,u1] },toks:=s.toks }:=by
   subst hT;exact I.laid (t':=s.toks) (λb o q=>Ce _ q) (Cc _) ⟨by show 2<=sizeLine;decide,[.int i s.toks,u1],.cons ⟨_,rfl⟩ (.cons N7 .nil),_,Cy _ rfl,rfl,0,rfl⟩
  have up:∀b o,b∉[e,it]->(s.heap.push { cls:=.type "tuple",data:=.seq #[.int i s.toks,u1] }).get? b=some o->Jw.get? b=some o:=λb o hb q=>by
   simp only [Ci,C2,or_false,not_or] at hb
   rcases Fx q with ⟨e1,e2⟩ | e1
   ·subst e2
    rw [e1,hT];exact Ii _ _ (GQ e (by simp)).symm a3
   ·exact Ii _ _ hb.1 (a5 b o hb.1 hb.2 e1)
  have I2:Inv X pins σ (upd H T (.tup [.int i,x])) { s with heap:=Jw,toks:=s.toks + 1 }:=Inv.turnedS (s:={ s with heap:=s.heap.push { cls:=.type "tuple",data:=.seq #[.int i s.toks,u1] },toks:=s.toks }) (t':=s.toks + 1) (ch:=[e,it]) I0 up λb hb=>by
   obtain⟨f0,f1⟩:=hf b hb;exact⟨by rw [av (GQ b hb)];exact f0,f1⟩
  exact⟨.ref T,upd H T (.tup [.int i,x]),I2,rfl,⟨T,x,rfl,fresh,rfl,λws hw=>by rw [I.list_inj hw G6];exact hx⟩,
   ⟨⟨_,by simpa using z2⟩,a2.at λo q=>Ii _ _ VN.symm q⟩,λb hb=>by rw [av (GQ b hb)];exact (hf b hb).1⟩
 done:=by
  intro X hP hw hK hc i pins s σ H E I hf st hg;subst hP hw hK;obtain⟨xs,G6,hx⟩:=hg;obtain⟨⟨old,he⟩,h1⟩:=id st;obtain⟨Hm,IQ,p1,Lv⟩:=I.list G6;have M3:=IQ.length;refine wpAny_pyNext_enum_end (I.ok.hd hc) he h1 p1.isList (by simp;omega) λh' hk=>⟨rfl,I.turnedS (t':=s.toks) (ch:=[e,it]) (λb o hb q=>?_) hf⟩
  simp only [Ci,C2,or_false,not_or] at hb;exact hk b o hb.2 q
 self:=λ_ _ _ _ _ st h=>by obtain⟨⟨old,he⟩,_⟩:=st;exact wpAny_pyIter_enum he h
theorem uL:bootBuiltins "enumerate"=some (.type "enumerate"):=by decide +kernel
section
variable {X:Cx}
def As (K:zz7) (ta:TA):TI:=λσ H R=>ta σ H λvs H1=>∃a xs,vs=[.ref a]/\Gq K H1 a xs/\R (Pn K a) H1
theorem kE {a:Expr}{elts:List Expr}{x1}{HQ:Pos}{ta:TA}{p pos:Pos} (hg:Gl X "enumerate") (hm:X.mg "enumerate"=none) (ha:PA X [a] ta) (hs:starEach [a] X.env=[(false,eval a X.env)]:=by rfl) :
  PI X (.Tuple elts x1 HQ) (.Call (.Name "enumerate" p) [a] [] pos) (As X.K ta):=by
 intro pins s σ H R I h;refine Call_ (e7 I hg hm uL (Dp (Gu (ha pos pins s σ H _ I h) λus s1 ⟨vs,H1,I1,r1,q1⟩=>?_) (by rw [hs];rfl) rfl));obtain⟨a',xs,rfl,G6,q⟩:=q1;obtain⟨u1,rfl,ra⟩:=vals1 r1;cases ra;obtain⟨Hm,IQ,p1,Lv⟩:=I1.list G6;refine call_enumerate_list p1.isList λh' he hit hsz hk=>?_;refine wpAny_pyIter_enum he ?_;refine⟨s1.heap.objs.size + 1,[s1.heap.objs.size + 1,s1.heap.objs.size],_,_,H1,rfl,I1.kept (t':=s1.toks) hk,vf _ _ _ (Nat.succ_ne_self _),⟨⟨_,he⟩,hit⟩,λb hb=>?_,q⟩;have HW:s1.heap.objs.size<=b:=by
  simp only [Ci,C2,or_false] at hb
  rcases hb with rfl | rfl
  ·exact Dz _ _
  ·exact Cc _
 exact I1.fpOk HW (I1.hok.fresh HW)
end
theorem wt {K:zz7}{g:TG}{te:TE}{σ':St}{fin:List V->Hp->Prop}{H1:Hp}{a:Addr}{xs:List V} (hn:xs.length < sizeLine) (Pv:Nat->List V->St->Hp->Prop) (h0:Pv 0 [] σ' H1)
  (hl:∀i zs σ H,i<=xs.length->Pv i zs σ H->zs.length<=i/\Gq K H a xs)
  (hs:∀i x zs σ H T,xs[i]?=some x->Pv i zs σ H->H T=none->g (.ref T) σ (upd H T (.tup [.int i,x])) λσ2 H2=>te σ2 H2 (λv H4=>Pv (i + 1) (zs++[v]) σ2 H4))
  (hd:∀zs σ H,Pv xs.length zs σ H->fin zs H):HC (Pn K a) g cu te σ' fin H1:=by
 refine⟨λi m zs σ H=>m=xs.length - i/\i<=xs.length/\Pv i zs σ H,⟨xs.length,by simp,Cz _,h0⟩,?_⟩;rintro i m zs σ H ⟨rfl,hi,p⟩;obtain⟨q0,q1⟩:=hl i zs σ H hi p
 by_cases GO:i < xs.length
 ·refine .inr ⟨⟨xs,xs[i],q1,by simp [GO]⟩,by omega,λJB σ2 H2=>Pv (i + 1) JB σ2 H2,λJB σ2 H2 q=>⟨xs.length - (i + 1),by omega,rfl,GO,q⟩,λv H' y=>?_⟩
  obtain⟨T,x,rfl,hT,rfl,e1⟩:=y;simpa [cu] using hs i x zs σ H T (e1 xs q1) p hT
 ·have e:i=xs.length:=by omega
  subst e;exact .inl ⟨⟨xs,q1,Cc _⟩,by omega,hd zs σ H p⟩
end L2
namespace L2
open PySem PySem.Spec PyProof.Rows PySem.W PySem.Calls
section
variable {X:Cx}
end
def lO:zz9->Str
 | .str x _=>x
 | _=>default
structure BM (w:World) (o:Obj) (ss:List Str) (es:Array (Int×zz9)) (ep:Nat) (t:SetTable):Prop where
 cls:o.cls=.type "set"
 dic:o.dict=none
 slo:o.slots=#[]
 dat:o.data=.set es ep t
 els:∀e∈es.toList,∃tk,e.2=.str (lO e.2) tk/\e.1=hashStr w (lO e.2)
 all:(es.toList.map λe=>lO e.2).Perm ss
 one:ss.Nodup
 Wb:ss.length < 4000
 fit:t.fits es.size=true
 led:t.led=!w.params.followText "set-order"
 pla:es.size=0\/t.plain=false
section
variable {prog:Program}{w:World}{A:Around}{E:zz9->zz8->Prop}{s:zz8}
end
end L2
set_option maxHeartbeats 8000000
namespace L2
open PySem PySem.Spec PyProof.Rows PySem.W PySem.Calls
section
variable {prog:Program}{w:World}{A:Around}{E:zz9->zz8->Prop}{s:zz8}
end
def AV (first:zz9) (i:Nat) (a:Addr) (n ep:Nat):Array zz9:=#[first,rawInt (i:Int),.ref a,rawInt (n:Int),rawInt (ep:Int)]
def BW (h:Heap) (I:Addr) (first:zz9) (i:Nat) (a:Addr) (n ep:Nat):Prop:=∃o,h.get? I=some o/\o.cls=.type "set_iterator"/\o.data=.fields (AV first i a n ep)
section
variable {prog:Program}{w:World}{A:Around}{E:zz9->zz8->Prop}{s:zz8}
structure BO (prog:Program) (w:World) (A:Around) (s s₁:zz8) (a I:Addr) (ss:List Str) (fp:List Addr) (ws:List zz9) (St:Nat->Heap->Prop):Prop where
 os:s₁.os=s.os
 gens:s₁.gens=s.gens
 toks:s₁.toks=s.toks
 keep:∀b o,s.heap.get? b=some o->s₁.heap.get? b=some o
 new:∀b∈fp,b=a\/s.heap.objs.size<=b
 X4:s.heap.objs.size<=I
 wk:Walks prog w A I fp [I] ss.length (λi v=>ws[i]?=some v) St
 st:St 0 s₁.heap
 txt:∃J5,StrsAre ws J5/\J5.Perm ss
end
section
variable {X:Cx}
end
theorem pairs_at {P:Program}{w:World}:∀{es:List DictEntry}{kvs:List (Key×zz9)},Pairs (cK P w) es kvs->∀{i:Nat}{p:Key×zz9},kvs[i]?=some p->∃e,es[i]?=some e/\fb p.1 e.key=true
 | _,_,.cons h1 h2 t,0,p,h=>by
  simp at h;subst h;exact⟨_,rfl,h1⟩
 | _,_,.cons h1 h2 t,i + 1,p,h=>by simpa using pairs_at t (by simpa using h)
theorem y8 {k:Key}{v:zz9} (h:fb k v=true):RelV (kV k) v:=by
 rcases dQ h with ⟨i,t,rfl,rfl⟩ | ⟨x,t,rfl,rfl⟩
 ·exact⟨t,rfl⟩
 ·exact⟨t,rfl⟩
theorem Inv.freezeK {X:Cx}{pins:List (Addr×Obj)}{σ:St}{H:Hp}{s:zz8}{a:Addr}{o:Obj}{kvs:List (Key×V)} (I:Inv X pins σ H s) (e:H a=some (.dK kvs)) (ho:s.heap.get? a=some o):Inv X pins σ (upd H a (.frz o (.dK kvs))) s:=by
 have ne:∀b u,H b=some u->(∀k,u≠.dK k)->b≠a:=λb u q n z=>by
  rw [z,e] at q;cases q;exact n _ rfl
 have st:∀{b:Addr}{u:HO},bg X.prog X.w H s.heap b u->bg X.prog X.w (upd H a (.frz o (.dK kvs))) s.heap b u:=λx=>x.stay (λ_ _ _ q=>q) (λb q=>by rw [av (ne b _ q (by intro k z;cases z))];exact q) λb xs q=>by rw [av (ne b _ q (by intro k z;cases z))];exact q
 refine I.step (h':=s.heap) (g':=s.gens) (t':=s.toks) (d':=s.drawn) (ch:=[]) (λ_ z=>nomatch z) (λb o _ _ _ q _=>q) (λb o _ _ _ q _=>⟨o.slots,q⟩) (λb o' _ q n=>?_) (λb o _ q=>⟨o,q⟩) (λb xs q=>?_) (λb o u q=>?_) (λb ps q=>?_) (λm h=>h) (λb u q=>?_) I.bare
 ·rw [av (λz=>by rw [z,e] at n;cases n)];exact n
 ·rw [av (ne b _ q (by intro k z;cases z))];exact q
 ·rw [av (ne b _ q (by intro k z;cases z))];exact q
 ·exact⟨#[],by rw [av (ne b _ q (by intro k z;cases z)),q];simp⟩
 ·by_cases hb:b=a
  ·subst hb
   rw [ak] at q;cases q;exact⟨ho,st (I.hok b _ e)⟩
  ·rw [av hb] at q
   exact st (I.hok b u q)
def QI (a:Addr) (o:Obj):It :=
 ⟨λi H=>∃kvs,H a=some (.frz o (.dK kvs))/\i < kvs.length,
  λi H v H'=>H'=H/\∀kvs,H a=some (.frz o (.dK kvs))->∃p,kvs[i]?=some p/\v=kV p.1,
  λi H=>∃kvs,H a=some (.frz o (.dK kvs))/\kvs.length<=i⟩
theorem uA {P:Program}{w:World}{K:zz7}{tg:Expr} (a it:Addr) (o:Obj) (es:Array DictEntry) (ep:Nat) (hd:o.data=.dict es ep):Turn P w K tg (QI a o) [it] it (λi h=>h.IsKeyIter it a i es.size ep) where
 mem:=by simp
 obj:=λi h st b hb=>by
  have e:b=it:=by simpa using hb
  subst e;obtain⟨o,e,c,d⟩:=st;exact⟨o,e,λv z=>by rw [d] at z;cases z⟩
 keep:=λi h h' st k=>st.at λo e=>k it (by simp) o e
 item:=by
  intro X hP hw hK hc i pins s σ H E I hf st hg;subst hP hw hK;obtain⟨kvs,ha,lt⟩:=hg;obtain⟨ho,_,_,vs,rel,o2,Z3,Z4,h1,_,h2,_,h3,_⟩:=(show bg X.prog X.w H s.heap a (.frz o (.dK kvs)) from I.hok a _ ha)
  rw [ho] at h1;cases h1;rw [hd] at h2;cases h2;have hl:=Fb rel;have ZE:es.size=vs.length:=by rw [<- DW];exact h3.length
  have U8:i < es.size:=by omega
  obtain⟨p,hp⟩:∃p,kvs[i]?=some p:=⟨_,B7 lt⟩
  obtain⟨y,hy,r1,r2⟩:=Paired.at rel hp;obtain⟨en,he,hk⟩:=pairs_at h3 hy;have ek:es[i]=en:=by
   rw [DL,Eb U8] at he;exact CZ he
  obtain⟨f0,f1,f2,f3,f4,f5⟩:=hf it (by simp);refine yQ st ho hd U8 λh' G9 sb=>?_;rw [ek];have I1:Inv X pins σ H { s with heap:=h' }:=I.turned (t':=s.toks) (λb o hb e=>(sb.2 b hb).trans e) f0 f1 f3 f4 f5;obtain⟨o',e,c,d⟩:=id G9;rw [<- r1] at hk;exact⟨_,rfl,iB (s:={ s with heap:=h' }) e c d (by decide) ⟨kV p.1,H,I1,y8 hk,⟨rfl,λYE M9=>by rw [ha] at M9;cases M9;exact⟨p,hp,rfl⟩⟩,G9,λb hb=>(hf b hb).1⟩⟩
 done:=by
  intro X hP hw hK hc i pins s σ H E I hf st hg;subst hP hw hK;obtain⟨kvs,ha,ge⟩:=hg;obtain⟨ho,_,_,vs,rel,o2,Z3,Z4,h1,_,h2,_,h3,_⟩:=(show bg X.prog X.w H s.heap a (.frz o (.dK kvs)) from I.hok a _ ha)
  rw [ho] at h1;cases h1;rw [hd] at h2;cases h2;have hl:=Fb rel;have ZE:es.size=vs.length:=by rw [<- DW];exact h3.length
  obtain⟨f0,f1,f2,f3,f4,f5⟩:=hf it (by simp);exact zO (I.ok.hd hc) st ho hd (by omega) λh' eb=>⟨rfl,I.turned (t':=s.toks) (λb o hb e=>eb b o hb e) f0 f1 f3 f4 f5⟩
 self:=λ_ _ _ _ _ st h=>wpAny_pyIter_keyiter st h
section
variable {X:Cx}{tg:Expr}
def zR (tl:TE):TI:=λσ H R=>tl σ H λx H1=>∃a kvs,x=.ref a/\H1 a=some (.dK kvs)/\∀o,R (QI a o) (upd H1 a (.frz o (.dK kvs)))
theorem wj {l:Expr}{tl:TE} (hl:PE X l tl):PI X tg l (zR tl):=by
 intro pins s σ H R I h;refine Gu (hl pins s σ H _ I h) λv s1 ⟨x,H1,I1,r1,q1⟩=>?_;obtain⟨a,kvs,rfl,ha,q⟩:=q1;cases r1;obtain⟨_,nd,vs,rel,o,es,ep,ho,ex,hd,_,h3,_⟩:=(show bg X.prog X.w H1 s1.heap a (.dK kvs) from I1.hok a _ ha)
 refine xD nd ho ex hd ?_;have I2:=I1.freezeK ha ho;refine⟨s1.heap.objs.size,[s1.heap.objs.size],_,_,_,rfl,I2.kept (t':=s1.toks) λb o e=>Ce _ e,uA a _ o es ep hd,⟨_,Cy _ rfl,rfl,rfl⟩,λb hb=>?_,q o⟩;have e:b=s1.heap.objs.size:=by simpa using hb
 subst e;exact I2.fpOk (Cc _) (I2.hok.fresh (Cc _))
end
theorem vy {g:TG}{tt:TT}{te:TE}{σ':St}{fin:List V->Hp->Prop}{H1:Hp}{a:Addr}{o:Obj}{kvs:List (Key×V)} (hn:kvs.length < sizeLine) (Pv:Nat->List V->St->Hp->Prop) (h0:Pv 0 [] σ' H1) (hl:∀i ys σ H,i<=kvs.length->Pv i ys σ H->ys.length<=i/\H a=some (.frz o (.dK kvs)))
  (hs:∀i p ys σ H,kvs[i]?=some p->Pv i ys σ H->g (kV p.1) σ H λσ2 H2=>tt σ2 H2 λb H3=>if b=true then te σ2 H3 (λv H4=>Pv (i + 1) (ys++[v]) σ2 H4) else Pv (i + 1) ys σ2 H3) (hd:∀ys σ H,Pv kvs.length ys σ H->fin ys H) :
  HC (QI a o) g tt te σ' fin H1:=by
 refine⟨λi m ys σ H=>m=kvs.length - i/\i<=kvs.length/\Pv i ys σ H,⟨kvs.length,by simp,Cz _,h0⟩,?_⟩;rintro i m ys σ H ⟨rfl,hi,p⟩;obtain⟨q0,q1⟩:=hl i ys σ H hi p
 by_cases h:i < kvs.length
 ·refine .inr ⟨⟨kvs,q1,h⟩,by omega,λKk σ2 H2=>Pv (i + 1) Kk σ2 H2,λKk σ2 H2 q=>⟨kvs.length - (i + 1),by omega,rfl,h,q⟩,λv H' y=>?_⟩
  obtain⟨rfl,y⟩:=y;obtain⟨p',e1,rfl⟩:=y kvs q1;exact hs i p' ys σ H' e1 p
 ·have e:i=kvs.length:=by omega
  subst e;exact .inl ⟨⟨kvs,q1,Cc _⟩,by omega,hd ys σ H p⟩
end L2
namespace L2
open PySem
section
variable {X:Cx}{scope:Scope}{N:List Str}{ix:List (Option Nat)}
variable {tg iter kx vx:Expr}{ifs:List Expr}{pos:Pos}{g:TG}{tt:TT}{tk tv:TE}
end
def P0 (t u:TI):TI:=λσ H R=>t σ H R\/u σ H R
theorem iw {X:Cx}{tg l:Expr}{t u:TI} (h1:PI X tg l t) (h2:PI X tg l u):PI X tg l (P0 t u):=λpins s σ H R I h =>
 h.elim (h1 pins s σ H R I) (h2 pins s σ H R I)
theorem v4 {K:zz7}{tl:TE}{g:TG}{tb:TS}{D:Ends}{σ:St}{H Hb:Hp}{a:Addr}{xs:List V} (KP:∀Q:VK,Q (.ref a) H->tl σ H Q) (hb:Hb a=some (.lst xs)\/Hb a=some (.tup xs)) (s0:ag Hb H) (Pv:Nat->St->Hp->Prop) (h0:Pv 0 σ H) (hl:∀i σ' H',i<=xs.length->Pv i σ' H'->ag Hb H')
  (hs:∀i x σ H,xs[i]?=some x->Pv i σ H->g x σ H λσ2 H2=>tb { D with nx:=Pv (i + 1),ct:=Pv (i + 1),bk:=D.nx } σ2 H2) (hd:∀σ H,Pv xs.length σ H->D.nx σ H):sv (P0 (jI K tl) (jN K tl)) g tb D σ H:=by
 rcases hb with hb | hb
 ·exact .inl (KP _ ⟨a,rfl,⟨xs,Gq.of (s0 _ _ hb)⟩,i9 Pv h0 (λi σ H' hi p=>Gq.of (hl i σ H' hi p _ _ hb)) hs hd⟩)
 ·exact .inr (KP _ ⟨a,rfl,⟨xs,Gp.of (s0 _ _ hb)⟩,fH Pv h0 (λi σ H' hi p=>Gp.of (hl i σ H' hi p _ _ hb)) hs hd⟩)
theorem xK {K:zz7}{tl:TE}{g:TG}{tt:TT}{te:TE}{ix:List (Option Nat)}{Q:VK}{σ:St}{H Hb:Hp}{a:Addr}{xs:List V} (hn:xs.length < sizeLine) (KP:∀Q:VK,Q (.ref a) H->tl σ H Q) (hb:Hb a=some (.lst xs)\/Hb a=some (.tup xs)) (s0:ag Hb H) (Pv:Nat->List V->St->Hp->Prop) (h0:Pv 0 [] (Jf ix σ) H)
  (hl:∀i ys σ' H',i<=xs.length->Pv i ys σ' H'->ys.length<=i/\ag Hb H')
  (hs:∀i x ys σ H,xs[i]?=some x->Pv i ys σ H->g x σ H λσ2 H2=>tt σ2 H2 λb H3=>if b=true then te σ2 H3 (λv H4=>Pv (i + 1) (ys++[v]) σ2 H4) else Pv (i + 1) ys σ2 H3)
  (hd:∀ys σ H,Pv xs.length ys σ H->∀p,H p=none->Q (.ref p) (upd H p (.lst ys))):Ux (P0 (jI K tl) (jN K tl)) g tt te ix σ H Q:=by
 rcases hb with hb | hb
 ·exact .inl (KP _ ⟨a,rfl,⟨xs,Gq.of (s0 _ _ hb)⟩,i8 hn Pv h0 (λi ys σ H' hi p=>⟨(hl i ys σ H' hi p).1,Gq.of ((hl i ys σ H' hi p).2 _ _ hb)⟩) hs hd⟩)
 ·exact .inr (KP _ ⟨a,rfl,⟨xs,Gp.of (s0 _ _ hb)⟩,ig hn Pv h0 (λi ys σ H' hi p=>⟨(hl i ys σ H' hi p).1,Gp.of ((hl i ys σ H' hi p).2 _ _ hb)⟩) hs hd⟩)
end L2
namespace L2
open PySem PySem.Spec PyProof.Rows
open AutoSeq1 (wpAny_loadPart')
section
variable {prog:Program}{w:World}{A:Around}{E:zz9->zz8->Prop}{s:zz8}
end
section
variable {X:Cx}
end
end L2
namespace L2
open PySem
end L2
namespace K85
open PySem L2
def top (i:Nat):Stmt:=PySem.Challenge.pw_rootshares_k85_trees_counted_refused.main.body.getD i (.Pass ⟨0,0,0,0⟩)
theorem bK:bootBuiltins "isinstance"=some (.builtin "isinstance"):=by decide +kernel
theorem fc:bootBuiltins "all"=some (.builtin "all"):=by decide +kernel
theorem hX:bootBuiltins "sorted"=some (.builtin "sorted"):=by decide +kernel
theorem jD:bootBuiltins "max"=some (.builtin "max"):=by decide +kernel
theorem AC:bootBuiltins "min"=some (.builtin "min"):=by decide +kernel
theorem fe:bootBuiltins "str"=some (.type "str"):=by decide +kernel
theorem cA:bootBuiltins "tuple"=some (.type "tuple"):=by decide +kernel
theorem iu:bootBuiltins "list"=some (.type "list"):=by decide +kernel
theorem rP:bootBuiltins "int"=some (.type "int"):=by decide +kernel
theorem pZ:bootBuiltins "bool"=some (.type "bool"):=by decide +kernel
structure Bl (mg:Str->Option zz9):Prop where
 len:mg "len"=none
 isinstance:mg "isinstance"=none
 all:mg "all"=none
 range:mg "range"=none
 sorted:mg "sorted"=none
 repr:mg "repr"=none
 max:mg "max"=none
 min:mg "min"=none
 str:mg "str"=none
 tuple:mg "tuple"=none
 list:mg "list"=none
 int:mg "int"=none
 bool:mg "bool"=none
 zip:mg "zip"=none
 divmod:mg "divmod"=none
 abs:mg "abs"=none
 set:mg "set"=none
 enumerate:mg "enumerate"=none
 dict:mg "dict"=none
 most:∃t,mg "MOST_LISTED"=some (.int 100 t)
 lng:∃t,mg "LONGEST_NAME"=some (.int 8 t)
def Fn (P:Program) (w:World) (K:zz7) (mg:Str->Option zz9) (base:Heap) (k:Nat) (x:Str) (ps:List Str) (sp:Sp):Prop :=
 ∃f fd,mg x=some (.ref f)/\PySem.W.keepIn K (.ref f)=true/\Binds K fd ps []/\au P w K mg base GB k f fd ps sp
theorem ar {X:Cx}{k:Nat}{x:Str}{ps:List Str}{sp:Sp}{e:Expr}{es:List Expr}{t:TA}{p pos:Pos} (F:Fn X.prog X.w X.K X.mg X.base k x ps sp) (hr:aT k X.A) (ha:PA X (e::es) t) (hg:Gl X x:=by rfl)
  (HX:(x == ("__debug__":Str))=false:=by decide) (he:starEach (e::es) X.env=(false,eval e X.env)::starEach es X.env:=by rfl) (GY:(backTo pos (starEach es X.env)).any (·.1)=false:=by rfl) :
  PE X (.Call (.Name x p) (e::es) [] pos) (iE sp [] E0 t):=by
 obtain⟨f,fd,h1,h2,h3,h4⟩:=F;exact pG h4 hr hg h1 h2 h3 .nil rH ha HX he GY
theorem bj {X:Cx}{scope:Scope}{N:List Str}{C:Addr}{s0:zz8}{H0:Hp}{fp:List Addr}{x:Str}{pos:Pos} (i:Nat) (hN:N.Nodup) (hi:N[i]?=some x) (hx:scope.names.lookup x=some .local) :
  PG (be X scope N C s0 H0 fp) (.Name x pos) (c7 i) :=
 bt (X:=be X scope N C s0 H0 fp) hN hi (.inl (lookup_relabel_local hx)) (.inr (lookup_relabel_local hx))
theorem gM {c A B:Prop} [Decidable c] (hc:c) (h:A):if decide c=true then A else B:=by
 rw [decide_eq_true hc];exact aB h
theorem jH {c A B:Prop} [Decidable c] (hc:¬ c) (h:B):if decide c=true then A else B:=by
 rw [decide_eq_false hc];exact aL h
theorem rQ {c A B:Prop} [Decidable c] (hc:¬ c) (h:A):if (!decide c)=true then A else B:=by
 rw [decide_eq_false hc];exact aB h
theorem MW (a b:Nat):([a] < [b]) ↔ a < b:=by rw [List.cons_lt_cons_iff];simp
structure ba (x:Str):Prop where
 lo:1<=x.length
 hi:x.length<=8
 az:∀c∈x.cps.toList,97<=c/\c<=122
theorem ba.fits {x:Str} (h:ba x):x.length < sizeLine:=by have:=h.hi;rw [DO];omega
theorem ba.ascii {x:Str} (h:ba x):x.cps.all (· < 128)=true:=by
 rw [Array.all_eq_true'];intro c hc;have:=h.az c (by simpa using hc);simp;omega
variable {P:Program}{w:World}{K:zz7}{mg:Str->Option zz9}{base:Heap}{f:Addr}{fd:FuncData}
def lx:Sp:=λvs H Q _=>∃x,vs=[.str x]/\ba x/\∀H',ag H H'->Q (.bl true) H'
theorem sO:aV ["thing"] ["thing"] (aH (top 10)):=⟨rfl,rfl,rfl,by decide +kernel,rfl,by decide +kernel,by decide +kernel⟩
theorem ao {H H':Hp}{p:Addr}{o:HO} (h:ag H H') (hp:H' p=none):ag H (upd H' p o):=λb ob e=>by
 rw [av (bh (h b ob e) hp)];exact h b ob e
theorem uI (F:Gy K "is_name" "is_name" (top 10) f fd) (B:Bl mg):au P w K mg base GB 1 f fd ["thing"] lx:=by
 refine F.ok sO (λvs H Q E h=>?_) (λ_ _ _ _ H vs Q E hr h=>?_)
 ·obtain⟨x,rfl,_⟩:=h
  rfl
 ·obtain⟨x,rfl,hx,k⟩:=h
  obtain⟨tl,hl⟩:=B.lng
  refine⟨_,aj (aQ (PW.pt (cM (bz (bG (aD (cf (T:="str")) rfl B.isinstance bK (aa (pv 0) (aa (b8 (v:=.ty "str") rfl B.str fe rfl) ae)))))
    (cZ (bz (je fh fh ai (aD mn rfl B.len Ct (aa (pv 0) ae)) (dS (v:=.int 8) rfl hl ⟨_,rfl⟩)))))) (aq (aG cb)) aS)
   (aq (aG (aD (eV rfl) rfl B.all fc (aa (bS (N:=["letter"]) (ix:=[none]) ⟨rfl,rfl,rfl,by decide⟩ rfl (qa (pv 0)) (λ_ _ _ _=>bj 0 (by decide) rfl rfl) (λ_ _ _ _=>bR)
    (λ_ _ _ _=>oz iV iV bq (pv 0) bq)) ae)))),?_⟩
  refine⟨_,rfl,_,_,true,rfl,.str x,?kit,true,rfl,aL ?_⟩
  case kit=>rfl
  refine⟨_,rfl,x,rfl,CO hx.fits,_,_,rfl,rfl,_,rfl,gM (by have:=hx.lo;omega) ⟨_,_,rfl,rfl,_,rfl,?_⟩⟩;refine d9 (by have:=hx.hi;omega) ?_;refine⟨_,rfl,x,rfl,hx.ascii,nJ hx.fits (λi ys σ H1=>ys=List.replicate i (.bl true)/\ag H H1/\∃v,σ=[v]) ⟨rfl,ag.refl _,_,rfl⟩ (λi ys σ H1 _ q=>by rw [q.1];simp) ?_ ?_⟩
  ·rintro i c ys σ H1 hc ⟨rfl,hs,v,rfl⟩
   have hcm:=hx.az c (Array.mem_toList_iff.mpr (Array.mem_of_getElem? hc));refine⟨_,rfl,_,_,rfl,rfl,_,rfl,rQ ?_ ⟨_,_,rfl,rfl,?_,hs,_,rfl⟩⟩
   ·show ¬ ([c] < [97])
    rw [MW];omega
   ·have e:(!decide ([122] < [c]))=true:=by rw [decide_eq_false (by rw [MW];omega)];rfl
    show _++[V.bl (!decide ([122] < [c]))]=_;rw [e,Ez]
  ·rintro ys σ H1 ⟨rfl,hs,v,rfl⟩ p hp
   refine⟨p,List.replicate x.length true,rfl,Gq.of (by rw [ak,ER]),?_⟩;have e:(List.replicate x.length true).all id=true:=by simp
   rw [e];exact k _ (ao hs hp)
theorem b7 (K:zz7) {X:Cx} (h:X.K=K:=by rfl):Kg X (MS K):=by subst h;exact aF
theorem yA (K:zz7) {X:Cx} (h:X.K=K:=by rfl):GT X (compareOp .In) (PK K false):=by subst h;exact gU
theorem ue (K:zz7) {X:Cx} (h:X.K=K:=by rfl):GT X (compareOp .NotIn) (PK K true):=by subst h;exact mm
theorem jw {α:Type}{xs:List α}{z:Int}{j:Nat}{v:α} (hz:z=(j:Int)) (h:xs[j]?=some v):La xs z=some v:=by subst hz;exact xA h
def Sq (K:zz7) (H:Hp) (p:Addr) (xs:List V):Prop:=Gq K H p xs\/Gp K H p xs
theorem eG {K:zz7}{H H':Hp}{a:Addr}{xs:List V} (e:ag H H') (h:Gp K H a xs):Gp K H' a xs:=by
 rcases h with (h | ⟨o,h⟩) | h
 ·exact .inl (.inl (e _ _ h))
 ·exact .inl (.inr ⟨o,e _ _ h⟩)
 ·exact .inr h
theorem Sq.same {K:zz7}{H H':Hp}{a:Addr}{xs:List V} (h:Sq K H a xs) (e:ag H H'):Sq K H' a xs:=h.imp (λz=>e.seq z) λz=>eG e z
theorem aE {K:zz7}{H:Hp}{p:Addr}{xs:List V}{z:Int}{j:Nat}{v:V}{Q:VK} (h:Sq K H p xs) (hz:z=(j:Int)) (hx:xs[j]?=some v) (q:Q v H):MS K (.ref p) (.int z) H Q :=
 h.elim (λh=>.inl ⟨p,xs,z,v,rfl,rfl,h,jw hz hx,q⟩) λh=>.inr (.inl ⟨p,xs,z,v,rfl,rfl,h,jw hz hx,q⟩)
theorem fits {n:Nat} (h:n<=1000):n < sizeLine:=vC h
theorem strAt {ss:List Str}{i:Nat} (h:i < ss.length):(ss.map V.str)[i]?=some (.str ss[i]):=by rw [Cd,B7 h];rfl
theorem gv (x:Str) (ss:List Str):JQ (.str x) (ss.map V.str)=decide (x∈ss):=by
 unfold JQ;rw [List.any_map];rw [Dj,Gb,decide_eq_true_iff];constructor
 ·rintro⟨y,hy,e⟩
  have e':y=x:=by simpa [Jy] using e
  exact e' ▸ hy
 ·intro h
  exact⟨x,h,by simp [Jy]⟩
theorem gk (ss:List Str):(ss.map V.str).all dj=true:=by
 rw [EO,CY];intro y _;rfl
abbrev Row:=Str×Str×Str
def bM (H:Hp) (p:Addr) (r:Row):Prop:=H p=some (.tup [.str r.1,.str r.2.1,.str r.2.2])
abbrev aw (rs:List (Addr×Row)):List V:=rs.map λr=>V.ref r.1
structure bc (H:Hp) (v pa ra:Addr) (ps:List Str) (rs:List (Addr×Row)):Prop where
 tp:H v=some (.tup [.ref pa,.ref ra])
 pl:H pa=some (.tup (ps.map V.str))
 rl:H ra=some (.tup (aw rs))
 rows:∀r∈rs,bM H r.1 r.2
structure Good (ps:List Str) (rs:List Row):Prop where
 ne:ps≠[]
 nm:∀x∈ps,ba x
 so:ps.Pairwise GM
 rn:∀r∈rs,ba r.1/\r.2.1∈ps/\r.2.2∈ps/\r.2.1≠r.2.2
 rso:(rs.map (·.1)).Pairwise GM
 pz:ps.length<=100
 rz:rs.length<=60
theorem bc.same {H H':Hp}{v pa ra:Addr}{ps:List Str}{rs:List (Addr×Row)} (h:bc H v pa ra ps rs) (e:ag H H'):bc H' v pa ra ps rs :=
 ⟨e _ _ h.tp,e _ _ h.pl,e _ _ h.rl,λr hr=>e _ _ (h.rows r hr)⟩
def ko (K:zz7):Sp:=λvs H Q _=>∃(p:Addr) (ss:List Str),vs=[.ref p]/\Sq K H p (ss.map V.str)/\ss.Pairwise GM/\ss.length<=1000/\∀H',ag H H'->Q (.bl true) H'
theorem sP:aV ["names"] ["names"] (aH (top 12)):=⟨rfl,rfl,rfl,by decide +kernel,rfl,by decide +kernel,by decide +kernel⟩
theorem mq (F:Gy K "is_rising" "is_rising" (top 12) f fd) (B:Bl mg):au P w K mg base GB 1 f fd ["names"] (ko K):=by
 refine F.ok sP (λvs H Q E h=>?_) (λ_ _ _ _ H vs Q E hr h=>?_)
 ·obtain⟨p,ss,rfl,_⟩:=h
  rfl
 ·obtain⟨p,ss,rfl,hq,hp,hz,k⟩:=h
  refine⟨_,aq (aG (aD (eV rfl) rfl B.all fc (aa (bS (N:=["at","names"]) (ix:=[none,some 0]) ⟨rfl,rfl,rfl,by decide⟩ rfl
   (nk rfl B.range (aa ai (aa (aD bu rfl B.len Ct (aa (pv 0) ae)) ae))) (λ_ _ _ _=>bj 0 (by decide) rfl rfl) (λ_ _ _ _=>bR)
   (λ_ _ _ _=>du mZ (aA (b7 K) (pv 1) (aK fN (pv 0) ai) (λ_ _=>rfl)) (aA (b7 K) (pv 1) (pv 0) (λ_ _=>rfl)) (aM _))) ae))),?_⟩
  have Qe:(ss.map V.str).length<=1000:=by simpa using hz
  refine⟨_,rfl,p,ss.map V.str,rfl,hq,1,_,rfl,⟨by decide,by decide,by omega,by omega⟩,fC (fits (by omega)) (λi ys σ H1=>ys=List.replicate i (.bl true)/\ag H H1/\∃v,σ=[v,some (.ref p)])
   ⟨rfl,ag.refl _,_,rfl⟩ (λi ys σ H1 _ q=>by rw [q.1];simp) ?_ ?_⟩
  ·rintro i ys σ H1 hi ⟨rfl,hs,v,rfl⟩
   have hl:i + 1 < ss.length:=by rw [B8] at hi;omega
   refine⟨_,rfl,_,rfl,_,_,rfl,rfl,aE (j:=i) (hq.same hs) (by omega) (strAt (by omega)) ⟨_,rfl,_,rfl,aE (j:=i + 1) (hq.same hs) (by push_cast;omega) (strAt hl) ⟨_,_,rfl,rfl,?_,hs,_,rfl⟩⟩⟩;have e:ss[i].cps.toList < ss[i + 1].cps.toList:=CL.mp hp i (i + 1) (by omega) hl (by omega);show _++[V.bl (decide (ss[i].cps.toList < ss[i + 1].cps.toList))]=_;rw [decide_eq_true e,Ez]
  ·rintro ys σ H1 ⟨rfl,hs,v,rfl⟩ q KR
   refine⟨q,List.replicate _ true,rfl,Gq.of (by rw [ak,ER]),?_⟩;have e:∀n:Nat,(List.replicate n true).all id=true:=by simp
   rw [e];exact k _ (ao hs KR)
def km:Sp:=λvs H Q _=>∃(p:Addr) (ss:List Str),vs=[.ref p]/\H p=some (.tup (ss.map V.str))/\(∀x∈ss,ba x)/\ss.Pairwise GM/\ss.length<=1000/\∀H',ag H H'->Q (.bl true) H'
theorem lZ:aV ["thing"] ["thing"] (aH (top 13)):=⟨rfl,rfl,rfl,by decide +kernel,rfl,by decide +kernel,by decide +kernel⟩
theorem tP (F:Gy K "is_sorted_names" "is_sorted_names" (top 13) f fd) (B:Bl mg) (F1:Fn P w K mg base 1 "is_name" ["thing"] lx) (F2:Fn P w K mg base 1 "is_rising" ["names"] (ko K)) :
  au P w K mg base GB 2 f fd ["thing"] km:=by
 refine F.ok lZ (λvs H Q E h=>?_) (λ_ _ _ _ H vs Q E hr h=>?_)
 ·obtain⟨p,ss,rfl,_⟩:=h
  rfl
 ·obtain⟨p,ss,rfl,hp,hn,hs,hz,k⟩:=h
  refine⟨_,aj (aQ (bz (bG (aD (cf (T:="tuple")) rfl B.isinstance bK (aa (pv 0) (aa (b8 (v:=.ty "tuple") rfl B.tuple cA rfl) ae))))) (aq (aG cb)) aS)
   (aq (aG (cH (aD (eV rfl) rfl B.all fc (aa (bS (N:=["name"]) (ix:=[none]) ⟨rfl,rfl,rfl,by decide⟩ rfl (bW (pv 0)) (λ_ _ _ _=>bj 0 (by decide) rfl rfl) (λ_ _ _ _=>bR)
    (λ_ _ _ _=>ar F1 hr (aa (pv 0) ae))) ae)) (di (ar F2 hr (aa (pv 0) ae)))))),?_⟩
  refine⟨_,rfl,_,_,true,rfl,.tup hp,rfl,true,rfl,aL ?_⟩
  refine⟨_,rfl,p,rfl,⟨_,Gp.of hp⟩,eX (xs:=ss.map V.str) (fits (by simpa using hz)) (λi ys σ H1=>ys=List.replicate i (.bl true)/\ag H H1/\∃v,σ=[v]) ⟨rfl,ag.refl _,_,rfl⟩
   (λi ys σ H1 _ q=>⟨by rw [q.1];simp,eG q.2.1 (Gp.of hp)⟩) ?_ ?_⟩
  ·rintro i x ys σ H1 hx ⟨rfl,LA,v,rfl⟩
   obtain⟨y,hy,rfl⟩:∃y∈ss,x=V.str y:=by
    obtain⟨y,e1,e2⟩:=Cg.mp (Cb hx);exact⟨y,e1,e2.symm⟩
   exact⟨_,rfl,y,rfl,hn y hy,λH2 Hq=>⟨by rw [Ez],LA.trans Hq,_,rfl⟩⟩
  ·rintro ys σ H1 ⟨rfl,LA,v,rfl⟩ q KR
   refine⟨q,List.replicate _ true,rfl,Gq.of (by rw [ak,ER]),_,rfl,?_⟩;have e:∀n:Nat,(List.replicate n true).all id=true:=by simp
   rw [e];have Hq:=ao (o:=.lst (List.replicate (ss.map V.str).length (.bl true))) LA KR;exact aB ⟨_,rfl,p,ss,rfl,.inr (eG Hq (Gp.of hp)),hs,hz,λH3 Sx=>k _ (Hq.trans Sx)⟩
def jo (K:zz7):Sp:=λvs H Q _=>∃(x:Str) (p:Addr) (ss:List Str),vs=[.str x,.ref p]/\Sq K H p (ss.map V.str)/\Q (.bl (decide (x∈ss))) H
theorem mh:aV ["thing","names"] ["thing","names"] (aH (top 14)):=⟨rfl,rfl,rfl,by decide +kernel,rfl,by decide +kernel,by decide +kernel⟩
theorem tV (F:Gy K "is_among" "is_among" (top 14) f fd) (B:Bl mg):au P w K mg base GB 1 f fd ["thing","names"] (jo K):=by
 refine F.ok mh (λvs H Q E h=>?_) (λ_ _ _ _ H vs Q E hr h=>?_)
 ·obtain⟨x,p,ss,rfl,_⟩:=h
  rfl
 ·obtain⟨x,p,ss,rfl,hp,k⟩:=h
  refine⟨_,aq (aG (cH (aD (cf (T:="str")) rfl B.isinstance bK (aa (pv 0) (aa (b8 (v:=.ty "str") rfl B.str fe rfl) ae)))
   (di (du gU (pv 0) (pv 1) (by with_unfolding_all rfl))))),?_⟩
  refine⟨_,rfl,_,_,true,rfl,.str x,rfl,true,rfl,aB ⟨_,rfl,_,rfl,p,ss.map V.str,rfl,hp,rfl,gk ss,?_⟩⟩;show Q (.bl (JQ (.str x) (ss.map V.str))) H;rw [gv];exact k
def om:Sp:=λvs H Q _=>∃(p q:Addr) (r:Row) (ps:List Str),vs=[.ref p,.ref q]/\bM H p r/\H q=some (.tup (ps.map V.str))/\ba r.1/\r.2.1∈ps/\r.2.2∈ps/\r.2.1≠r.2.2/\∀H',ag H H'->Q (.bl true) H'
theorem fm:aV ["thing","places","name","start","end"] ["thing","places"] (aH (top 15)):=⟨rfl,rfl,rfl,by decide +kernel,rfl,by decide +kernel,by decide +kernel⟩
theorem tH (F:Gy K "is_tie_row" "is_tie_row" (top 15) f fd) (B:Bl mg) (F1:Fn P w K mg base 1 "is_name" ["thing"] lx) (F2:Fn P w K mg base 1 "is_among" ["thing","names"] (jo K)) :
  au P w K mg base GB 2 f fd ["thing","places"] om:=by
 refine F.ok fm (λvs H Q E h=>?_) (λ_ _ _ _ H vs Q E hr h=>?_)
 ·obtain⟨p,q,r,ps,rfl,_⟩:=h
  rfl
 ·obtain⟨p,q,r,ps,rfl,hp,hq,h1,h2,h3,h4,k⟩:=h
  have Ib:H p=some (.tup [.str r.1,.str r.2.1,.str r.2.2]):=hp
  refine⟨_,aj (aQ (PW.pt (cM (bz (bG (aD (cf (T:="tuple")) rfl B.isinstance bK (aa (pv 0) (aa (b8 (v:=.ty "tuple") rfl B.tuple cA rfl) ae)))))
    (cZ (aU cq (aD bu rfl B.len Ct (aa (pv 0) ae)) ai (aM _))))) (aq (aG cb)) aS)
   (aj (dX (pv 0) (dI rfl (n:=3) (bB (bt (i:=2) fm.nd rfl (Or.inl rfl)) (bB (bt (i:=3) fm.nd rfl (Or.inl rfl)) (bB (bt (i:=4) fm.nd rfl (Or.inl rfl)) cX)))))
   (aq (aG (cH (ar F1 hr (aa (pv 2) ae)) (cH (ar F2 hr (aa (pv 3) (aa (pv 1) ae))) (cH (ar F2 hr (aa (pv 4) (aa (pv 1) ae))) (di (du cq (pv 3) (pv 4) (aM _))))))))),?_⟩
  refine⟨_,rfl,_,_,true,rfl,.tup Ib,rfl,true,rfl,aL ⟨_,rfl,p,_,rfl,.inr (Gp.of Ib),rfl,_,rfl,d9 rfl ?_⟩⟩;refine⟨_,rfl,p,_,rfl,Gp.of Ib,rfl,_,_,rfl,_,_,rfl,_,_,rfl,rfl,?_⟩;refine⟨_,rfl,r.1,rfl,h1,λH1 s1=>⟨true,rfl,aB ⟨_,rfl,_,rfl,r.2.1,q,ps,rfl,.inr (eG s1 (Gp.of hq)),_,rfl,gM h2 ⟨_,rfl,_,rfl,r.2.2,q,ps,rfl,.inr (eG s1 (Gp.of hq)),_,rfl,gM h3 ⟨_,rfl,_,rfl,rfl,?_⟩⟩⟩⟩⟩;have e:(!decide (V.str r.2.1=V.str r.2.2))=true:=by
   rw [decide_eq_false (λz=>h4 (V.str.inj z))];rfl
  rw [e];exact k H1 s1
theorem dE {α β:Type} (f:α->β) (l:List α) (i:Nat) (x:α) (h:l[i]?=some x):(l.take (i + 1)).map f=(l.take i).map f++[f x]:=by
 rw [Dd,h];simp
theorem cG {rs:List (Addr×Row)}{i:Nat}{x:V} (h:(aw rs)[i]?=some x):∃r,rs[i]?=some r/\x=.ref r.1:=by
 unfold aw at h;rw [Cd] at h;cases e:rs[i]? with
 | none=>rw [e] at h;cases h
 | some r=>rw [e] at h;exact⟨r,rfl,(CZ h).symm⟩
def fg (r:V):Sp:=λvs H Q _=>∃(v pa ra:Addr) (ps:List Str) (rs:List (Addr×Row)),vs=[.ref v]/\bc H v pa ra ps rs/\Good ps (rs.map (·.2))/\∀H',ag H H'->Q r H'
theorem gO:aV ["thing","places","rows"] ["thing"] (aH (top 16)):=⟨rfl,rfl,rfl,by decide +kernel,rfl,by decide +kernel,by decide +kernel⟩
theorem u5 (F:Gy K "is_web" "is_web" (top 16) f fd) (B:Bl mg) (F1:Fn P w K mg base 2 "is_sorted_names" ["thing"] km) (F2:Fn P w K mg base 2 "is_tie_row" ["thing","places"] om)
  (F3:Fn P w K mg base 1 "is_rising" ["names"] (ko K)):au P w K mg base GB 3 f fd ["thing"] (fg (.bl true)):=by
 refine F.ok gO (λvs H Q E h=>?_) (λ_ _ _ _ H vs Q E hr h=>?_)
 ·obtain⟨v,pa,ra,ps,rs,rfl,_⟩:=h
  rfl
 ·obtain⟨v,pa,ra,ps,rs,rfl,W,G,k⟩:=h
  have GP:aT 1 _:=hr.mono (by decide)
  refine⟨_,aj (aQ (PW.pt (cM (bz (bG (aD (cf (T:="tuple")) rfl B.isinstance bK (aa (pv 0) (aa (b8 (v:=.ty "tuple") rfl B.tuple cA rfl) ae)))))
    (cZ (aU cq (aD bu rfl B.len Ct (aa (pv 0) ae)) ai (aM _))))) (aq (aG cb)) aS)
   (aj (dX (pv 0) (dI rfl (n:=2) (bB (bt (i:=1) gO.nd rfl (Or.inr rfl)) (bB (bt (i:=2) gO.nd rfl (Or.inl rfl)) cX))))
   (aj (aQ (PW.pt (cM (bz (bG (ar F1 hr (aa (pv 1) ae)))) (cM (aU dM (aD bu rfl B.len Ct (aa (pv 1) ae)) ai (aM _))
    (cZ (bz (bG (aD (cf (T:="tuple")) rfl B.isinstance bK (aa (pv 2) (aa (b8 (v:=.ty "tuple") rfl B.tuple cA rfl) ae))))))))) (aq (aG cb)) aS)
   (aq (aG (cH (aD (eV rfl) rfl B.all fc (aa (bS (N:=["row","places"]) (ix:=[none,some 1]) ⟨rfl,rfl,rfl,by decide⟩ rfl (bW (pv 2)) (λ_ _ _ _=>bj 0 (by decide) rfl rfl) (λ_ _ _ _=>bR)
    (λ_ _ _ _=>ar F2 hr (aa (pv 0) (aa (pv 1) ae)))) ae))
    (di (ar F3 GP (aa (bS (N:=["row"]) (ix:=[none]) ⟨rfl,rfl,rfl,by decide⟩ rfl (bW (pv 2)) (λ_ _ _ _=>bj 0 (by decide) rfl rfl) (λ_ _ _ _=>bR)
     (λ_ _ _ _=>aA (b7 K) (pv 0) ai (λ_ _=>rfl))) ae)))))))),?_⟩
  have Gs:(aw rs).length<=1000:=by have:=G.rz;simp at this ⊢;omega
  refine⟨_,rfl,_,_,true,rfl,.tup W.tp,rfl,true,rfl,aL ⟨_,rfl,v,_,rfl,.inr (Gp.of W.tp),rfl,_,rfl,d9 rfl ?_⟩⟩;refine⟨_,rfl,v,_,rfl,Gp.of W.tp,rfl,_,_,rfl,_,_,rfl,rfl,?_⟩;refine⟨_,rfl,pa,ps,rfl,W.pl,G.nm,G.so,by have:=G.pz;omega,λH1 s1=>⟨true,rfl,aL ?_⟩⟩;refine⟨_,rfl,pa,_,rfl,.inr (Gp.of (s1 _ _ W.pl)),rfl,_,rfl,jH ?_ ?_⟩
  ·intro z
   have z':((ps.map V.str).length:Int)=0:=V.int.inj z;have:ps.length≠0:=λq=>G.ne (Em.mp q);rw [B8] at z';omega
  refine⟨_,rfl,_,_,true,rfl,.tup (s1 _ _ W.rl),rfl,true,rfl,aL ?_⟩
  refine⟨_,rfl,ra,rfl,⟨_,Gp.of (s1 _ _ W.rl)⟩,eX (xs:=aw rs) (fits Gs) (λi ys σ H2=>ys=List.replicate i (.bl true)/\ag H H2/\∃x,σ=[x,some (.ref pa)]) ⟨rfl,s1,_,rfl⟩
   (λi ys σ H2 _ q=>⟨by rw [q.1];simp,Gp.of (q.2.1 _ _ W.rl)⟩) ?_ ?_⟩
  ·rintro i x ys σ H2 hx ⟨rfl,s2,y,rfl⟩
   obtain⟨r,Gz,rfl⟩:=cG hx;have hm:=Cb Gz;obtain⟨g1,g2,g3,g4⟩:=G.rn r.2 (Co hm);exact⟨_,rfl,_,rfl,r.1,pa,r.2,ps,rfl,s2 _ _ (W.rows r hm),s2 _ _ W.pl,g1,g2,g3,g4,λH3 s3=>⟨by rw [Ez],s2.trans s3,_,rfl⟩⟩
  ·rintro ys σ H2 ⟨rfl,s2,y,rfl⟩ q KR
   have s3:=ao (o:=.lst (List.replicate (aw rs).length (.bl true))) s2 KR;refine⟨q,List.replicate _ true,rfl,Gq.of (by rw [ak,ER]),_,rfl,?_⟩;have e:∀n:Nat,(List.replicate n true).all id=true:=by simp
   rw [e]
   refine aB ⟨_,rfl,ra,rfl,⟨_,Gp.of (s3 _ _ W.rl)⟩,eX (xs:=aw rs) (fits Gs) (λi ys σ H4=>ys=((rs.take i).map λr=>V.str r.2.1)/\ag H H4/\∃x,σ=[x]) ⟨rfl,s3,_,rfl⟩
    (λi ys σ H4 _ q=>⟨by rw [q.1];simp;omega,Gp.of (q.2.1 _ _ W.rl)⟩) ?_ ?_⟩
   ·rintro i x ys σ H4 hx ⟨rfl,s4,z,rfl⟩
    obtain⟨r,Gz,rfl⟩:=cG hx;have hm:=Cb Gz;exact⟨_,rfl,aE (j:=0) (.inr (Gp.of (s4 _ _ (W.rows r hm)))) rfl rfl ⟨(dE _ _ _ _ Gz).symm,s4,_,rfl⟩⟩
   ·rintro ys σ H4 ⟨rfl,s4,z,rfl⟩ q2 He
    refine⟨q2,rs.map (·.2.1),rfl,.inl (Gq.of (by rw [ak];simp)),?_,by simpa using Gs,λH5 s5=>k _ ((ao s4 He).trans s5)⟩;have:=G.rso;rw [CH] at this;exact this
theorem eU {α:Type} (p:α->Bool) (l:List α) (i:Nat) (x:α) (h:l[i]?=some x):(l.take (i + 1)).filter p=(l.take i).filter p++(if p x then [x] else []):=by
 rw [Dd,h,ES];simp only [FK,DX,List.filter_nil]
theorem take_all {α:Type} (l:List α) {n:Nat} (h:n=l.length):l.take n=l:=by subst h;exact Dg
abbrev GA (rs:List (Addr×Row)):List Str:=rs.map (·.2.1)
theorem vF (K:zz7) {X:Cx} (h:X.K=K:=by rfl):cC X (.type "tuple") (λxs H Q=>∃p ys,xs=[.ref p]/\((Gq K H p ys/\∀l,H l=none->Q (.ref l) (upd H l (.tup ys)))\/(Gp K H p ys/\Q (.ref p) H))):=by subst h;exact fz
theorem mW {α β:Type} (f:α->β):∀(l':List β) (l:List α),l'.Perm (l.map f)->∃Vc:List α,Vc.Perm l/\Vc.map f=l'
 | [],l,h=>by
  have:l=[]:=by simpa using h.length_eq.symm
  subst this;exact⟨[],.refl _,rfl⟩
 | b::t,l,h=>by
  obtain⟨a,ha,rfl⟩:=Cg.mp (h.mem_iff.mp Cf);obtain⟨u,v,rfl⟩:=List.append_of_mem ha;have h2:(f a::t).Perm (f a::(u++v).map f):=by
   refine h.trans ?_;rw [CA,CD,CA];exact List.perm_middle
  obtain⟨w,hw,e⟩:=mW f t (u++v) h2.cons_inv;exact⟨a::w,(hw.cons a).trans List.perm_middle.symm,by rw [CD,e]⟩
structure B3 (ps ls:List Str):Prop where
 ne:ls≠[]
 nm:∀x∈ls,ba x
 so:ls.Pairwise GM
 sub:∀x∈ls,x∈ps
 z:ls.length<=100
theorem cz {ss:List Str} (h:ss.Pairwise GM):ss.Nodup:=h.imp λ{a b} KZ e=>by
 subst e;exact absurd KZ (EV _)
theorem nQ (rs:List (Addr×Row)):refs (rs.map λr=>(r.1,r.2.1))=aw rs:=by
 unfold refs aw;rw [CH];rfl
theorem jr (K:zz7) {X:Cx}{es:List Expr}{k:Nat}{t:LM}{n:Nat}{pos:Pos} (hc:X.calm=true) (h:Pd X es t) (hK:X.K=K:=by rfl) (hn:(assignEach es X.env).length=n:=by rfl) (Ms:(assignEach es X.env).findIdx? (·.1)=none:=by rfl) :
  PG X (.Tuple es k pos) (sE K n t):=by subst hK;exact dI hc h hn Ms
theorem sJ:aV ["thing"] ["thing"] (aH (top 19)):=⟨rfl,rfl,rfl,by decide +kernel,rfl,by decide +kernel,by decide +kernel⟩
theorem mx (F:Gy K "need_web" "need_web" (top 19) f fd) (F1:Fn P w K mg base 3 "is_web" ["thing"] (fg (.bl true))):au P w K mg base GB 4 f fd ["thing"] (fg .non):=by
 refine F.ok sJ (λvs H Q E h=>?_) (λ_ _ _ _ H vs Q E hr h=>?_)
 ·obtain⟨v,pa,ra,ps,rs,rfl,_⟩:=h
  rfl
 ·obtain⟨v,pa,ra,ps,rs,rfl,W,G,k⟩:=h
  refine⟨_,aq (aQ (bz (bG (ar F1 hr (aa (pv 0) ae)))) bO aS),?_⟩;exact⟨_,rfl,v,pa,ra,ps,rs,rfl,W,G,λH1 s1=>⟨true,rfl,aL (k H1 s1)⟩⟩
def gi:Sp:=λvs H Q _=>∃(v pa ra:Addr) (ps:List Str) (rs:List (Addr×Row)) (x:Str),vs=[.ref v,.str x]/\bc H v pa ra ps rs/\x∈ps/\Q .non H
theorem sD:aV ["web","thing"] ["web","thing"] (aH (top 21)):=⟨rfl,rfl,rfl,by decide +kernel,rfl,by decide +kernel,by decide +kernel⟩
theorem mj (F:Gy K "need_place" "need_place" (top 21) f fd) (F1:Fn P w K mg base 1 "is_among" ["thing","names"] (jo K)):au P w K mg base GB 2 f fd ["web","thing"] gi:=by
 refine F.ok sD (λvs H Q E h=>?_) (λ_ _ _ _ H vs Q E hr h=>?_)
 ·obtain⟨v,pa,ra,ps,rs,x,rfl,_⟩:=h
  rfl
 ·obtain⟨v,pa,ra,ps,rs,x,rfl,W,hx,k⟩:=h
  refine⟨_,aq (aQ (bz (bG (ar F1 hr (aa (pv 1) (aa (aA aF (pv 0) ai (λ_ _=>rfl)) ae))))) bO aS),?_⟩;exact⟨_,rfl,_,rfl,aE (j:=0) (.inr (Gp.of W.tp)) rfl rfl ⟨x,pa,ps,rfl,.inr (Gp.of W.pl),_,rfl,d9 hx k⟩⟩
def GF (H:Hp) (p:Addr):Prop:=∃a b,H p=some (.lst [.int a,.int b])/\0<=b/\b < 4294967296
def Kp (P:List Addr) (H H':Hp):Prop:=∀b o,H b=some o->b∉P->H' b=some o
theorem Kp.refl (P:List Addr) (H:Hp):Kp P H H:=λ_ _ h _=>h
theorem Kp.trans {P:List Addr}{H H1 H2:Hp} (a:Kp P H H1) (b:Kp P H1 H2):Kp P H H2:=λc o h n=>b c o (a c o h n) n
theorem Kp.same {P:List Addr}{H H':Hp} (a:ag H H'):Kp P H H':=λc o h _=>a c o h
theorem Kp.of_same {P:List Addr}{H H1 H2:Hp} (a:Kp P H H1) (b:ag H1 H2):Kp P H H2:=λc o h n=>b c o (a c o h n)
theorem Kp.inn {P:List Addr}{H H1:Hp}{p:Addr}{o:HO} (a:Kp P H H1) (hp:p∈P):Kp P H (upd H1 p o):=λc ob h n=>by rw [av (show c≠p from λz=>n (by rw [z];exact hp))];exact a c ob h n
theorem Kp.new {P:List Addr}{H H1:Hp}{p:Addr}{o:HO} (a:Kp P H H1) (hp:H1 p=none):Kp P H (upd H1 p o):=λc ob h n=>by rw [av (bh (a c ob h n) hp)];exact a c ob h n
def jm:Str:=Str.ofString "abcdefghijklmnopqrstuvwxyz"
theorem tR:∀r:_root_.Fin 26,jm.cps.toList[r.val]?=some (97 + r.val):=by decide +kernel
theorem uf {r:Nat} (h:r < 26):jm.cps.toList[r]?=some (97 + r):=tR ⟨r,h⟩
theorem tO:jm.length<=sizeLine:=by decide
theorem join_one (cs:List Nat):(Txt.join (Str.ofString "") (cs.map λc=>(⟨#[c]⟩:Str))).cps.toList=cs:=by
 have e0:(Str.ofString "").cps=#[]:=by decide
 show (Builtin.Str.glued (Str.ofString "") _).cps.toList=cs;rw [StrLaws.glued_eq_join]
 induction cs with
 | nil=>rfl
 | cons c t ih =>
  cases t with
  | nil=>rfl
  | cons d r =>
   show (((⟨#[c]⟩:Str)++Str.ofString ""++Str.join (Str.ofString "") ((d::r).map λc=>(⟨#[c]⟩:Str))).cps).toList=_;rw [EW,EW,e0,EE,EE,ih];rfl
theorem ba.of_codes {x:Str}{l:List Nat} (e:x.cps.toList=l) (h1:1<=l.length) (h8:l.length<=8) (h:∀c∈l,97<=c/\c<=122):ba x:=by
 have hl:x.length=l.length:=by rw [<- e];simp [Str.length]
 exact⟨by omega,by omega,by rw [e];exact h⟩
theorem ny:∀(r:List Str) (x:Str),PyProof.Rows.risingS x r=true->(x::r).Nodup->(x::r).Pairwise GM
 | [],x,_,_=>by simp
 | y::r,x,h,hn=>by
  have h':(!PySem.Spec.ltCps y.cps.toList x.cps.toList && PyProof.Rows.risingS y r)=true:=h;rw [CK,PyProof.Rows.ltCps_eq] at h';have Kb:=CG.mp hn;have ih:=ny r y h'.2 Kb.2;have Vh:GM x y:=by
   rcases pM (λe=>Kb.1 (e ▸ Cf):x≠y) with z | z
   ·exact z
   ·rw [decide_eq_true z] at h'
    exact absurd h'.1 (by simp)
  refine DA.mpr ⟨λz hz=>?_,ih⟩
  rcases Ci.mp hz with rfl | hz
  ·exact Vh
  ·exact Ff Vh ((DA.mp ih).1 z hz)
theorem j3 {ss:List Str} (h:PyProof.Rows.sortedS ss=true) (hn:ss.Nodup):ss.Pairwise GM:=by
 cases ss with
 | nil=>exact .nil
 | cons x r=>exact ny r x h hn
theorem Kp.free {P:List Addr}{H H':Hp} (k:Kp P H H') (hP:∀b∈P,∃o,H' b=some o) {q:Addr} (hq:H' q=none):H q=none:=by
 cases e:H q with
 | none=>rfl
 | some o =>
  by_cases hm:q∈P
  ·obtain⟨o',e'⟩:=hP q hm
   rw [hq] at e';cases e'
  ·rw [k q o e hm] at hq;cases hq
theorem GF.some {H:Hp}{p:Addr} (h:GF H p):∃o,H p=some o:=let ⟨a,b,e,_⟩:=h;⟨_,e⟩
theorem GF.keep {H H':Hp}{p:Addr} (h:GF H p) (e:∀o,H p=Option.some o->H' p=Option.some o):GF H' p:=let ⟨a,b,q,r⟩:=h;⟨a,b,e _ q,r⟩
theorem tup_ne {H:Hp}{a b:Addr}{xs ys:List V} (h1:H a=some (.tup xs)) (h2:H b=some (.lst ys)):a≠b:=rN h1 h2 (by intro z;cases z)
theorem zq {H H':Hp}{P:List Addr}{b:Addr}{xs:List V} (k:Kp P H H') (hP:∀c∈P,∃ys,H c=some (.lst ys)) (e:H b=some (.tup xs)):H' b=some (.tup xs) :=
 k b _ e λhb=>by
  obtain⟨ys,e'⟩:=hP b hb;exact tup_ne e e' rfl
theorem GF.lst {H:Hp}{p:Addr} (h:GF H p):∃ys,H p=Option.some (HO.lst ys):=let ⟨a,b,e,_⟩:=h;⟨_,e⟩
theorem i7 {x:Str} (h:ba x):PyData.strOk x=true:=by
 unfold PyData.strOk;rw [Array.all_eq_true'];intro c hc;have:=h.az c (by simpa using hc);simp;omega
theorem wH {ss:List Str} (h:∀x∈ss,ba x):PyData.canLayAll0 (ss.map PyData.str)=true/\PyData.depthAll (ss.map PyData.str)=0:=by
 induction ss with
 | nil=>exact⟨rfl,rfl⟩
 | cons x t ih =>
  have:=ih λy hy=>h y (Cj _ hy);rw [CD];simp only [PyData.canLayAll0,PyData.canLay0,PyData.depthAll,PyData.depth,i7 (h x Cf),this.1,this.2];exact⟨rfl,rfl⟩
theorem cJ {ss:List Str} (h:∀x∈ss,ba x):SeqAt.shaped (.list (ss.map PyData.str))=true/\SeqAt.shaped (.tuple (ss.map PyData.str))=true:=by
 have q:=wH h;unfold SeqAt.shaped;simp only [PyData.canLay0,PyData.depth,q.1,q.2];exact⟨by decide,by decide⟩
theorem fB:∀(a b:List Str),PyData.eqvAll (a.map PyData.str) (b.map PyData.str)=decide (a=b)
 | [],[]=>by simp [PyData.eqvAll]
 | [],y::t=>by simp [PyData.eqvAll]
 | x::s,[]=>by simp [PyData.eqvAll]
 | x::s,y::t=>by
  simp only [CD,PyData.eqvAll,PyData.eqv,fB s t];rw [Dj];simp
theorem GF.ne_new {H:Hp}{p q:Addr} (h:GF H p) (hq:H q=none):q≠p:=λz=>by obtain⟨o,e⟩:=h.some;rw [<- z,hq] at e;cases e
theorem GF.upd {H:Hp}{p q:Addr}{o:HO} (h:GF H p) (hq:q≠p):GF (upd H q o) p:=h.keep λob e=>by rw [av hq.symm];exact e
theorem GF.new {H:Hp}{p q:Addr}{o:HO} (h:GF H p) (hq:H q=none):GF (L2.upd H q o) p:=h.upd (h.ne_new hq)
theorem Kp.free1 {p q:Addr}{H H1:Hp} (k:Kp [p] H H1) (hp:GF H1 p) (hq:H1 q=none):H q=none:=k.free (λb hb=>by
 have e:b=p:=by simpa using hb
 subst e;exact hp.some) hq
theorem Kp.tup {p b:Addr}{H H1:Hp}{xs:List V} (k:Kp [p] H H1) (hp:GF H p) (e:H b=some (.tup xs)):H1 b=some (.tup xs):=zq k (λc hc=>by
 have e:c=p:=by simpa using hc
 subst e;exact hp.lst) e
theorem Kp.at {p b:Addr}{H H1:Hp}{o:HO} (k:Kp [p] H H1) (hb:b≠p) (e:H b=some o):H1 b=some o:=k _ _ e (by simpa using hb)
theorem ag.upd0 {H H':Hp}{q:Addr}{o:HO} (h:ag H H') (hq:H q=none):ag H (upd H' q o):=λb ob e=>by
 rw [av (bh e hq)];exact h b ob e
theorem fZ {k:Nat}{A:Around} (r:aT k A):A.units + 1 < cLine:=by have:=r.un;omega
theorem rC:bootBuiltins "abs"=some (.builtin "abs"):=by decide +kernel
theorem iD {c:TT}{x y b:TS}{D:Ends}{σ:St}{H:Hp} (M:St->Hp->Prop) (h:∀N:St->Hp->Prop,(∀σ H,M σ H->N σ H)->lY c x y { D with nx:=N } σ H) (k:∀σ H,M σ H->b D σ H):eh (lY c x y) b D σ H:=h (b D) k
def rL (K:zz7):Sp:=λvs H Q _=>∃(a:Addr) (ns:List Int) (k:Int),vs=[.ref a,.int k]/\Gq K H a (ns.map V.int)/\0<=k/\k < 1000/\∀q H',ag H H'->H q=none->GF H' q->Q (.ref q) H'
abbrev N46:List Str:=["_law_script","_law_k","_law_cell"]
theorem lW:aV N46 ["_law_script","_law_k"] (aH (top 46)):=⟨rfl,rfl,rfl,by decide +kernel,rfl,by decide +kernel,by decide +kernel⟩
theorem zC (F:Gy K "_law_pot" "_law_pot" (top 46) f fd) (B:Bl mg):au P w K mg base GB 1 f fd ["_law_script","_law_k"] (rL K):=by
 refine F.ok lW (λvs H Q E h=>?_) (λ_ _ _ _ H vs Q E hr h=>?_)
 ·obtain⟨a,ns,k,rfl,_⟩:=h
  rfl
 ·obtain⟨a,ns,k,rfl,ha,hk,Jv,q⟩:=h
  refine⟨_,aj (aJ (i:=2) lW.nd rfl (Or.inl rfl) ai) (aj (aQ (aU jF (pv 1) (aD bu rfl B.len Ct (aa (pv 0) ae)) (aM _)) (aq (aJ (i:=2) lW.nd rfl (Or.inl rfl) (aA aF (pv 0) (pv 1) (λ_ _=>rfl)))) aS)
   (aq (aG (bD (aa (aD (iU rfl) rfl B.max jD (aa ai (aa (aK fN (aD ng rfl B.abs rC (aa (pv 2) ae)) (aK jA ai ai)) ae)))
    (aa (aK dJ (aK dJ (aK ik (aD ng rfl B.abs rC (aa (pv 2) ae)) ai) (aK k9 ai (pv 1))) ai) ae)))))),?_⟩
  dsimp only [eh,fq,tC,c7]
  refine iD (λσ H1=>H1=H/\∃c:Int,σ=[some (.ref a),some (.int k),some (.int c)]) (λN key=>?_) ?_
  ·refine⟨_,rfl,_,rfl,a,_,rfl,.inl ha,_,_,rfl,rfl,_,rfl,?_⟩
   refine bJ (λc=>?_) (λc=>key _ _ ⟨rfl,_,rfl⟩);have c':k < ((ns.map V.int).length:Int):=of_decide_eq_true c;rw [B8] at c';have hl:k.toNat < ns.length:=by omega
   exact⟨_,rfl,_,rfl,aE (j:=k.toNat) (v:=.int ns[k.toNat]) (.inl ha) (by omega) (by rw [Cd,B7 hl];rfl) (key _ _ ⟨rfl,_,rfl⟩)⟩
  ·rintro σ H1 ⟨rfl,c,rfl⟩
   refine⟨_,rfl,_,rfl,_,_,rfl,rfl,⟨by decide,by decide,by decide⟩,_,_,rfl,rfl,_,_,rfl,?_⟩;refine⟨_,rfl,_,rfl,_,_,rfl,rfl,by show (0:Int) < 2147483587;decide,_,rfl,_,_,rfl,rfl,.inl ⟨by decide,by decide⟩,_,_,rfl,rfl,_,_,rfl,rfl,by show 2<=sizeLine;decide,λl hl=>?_⟩;have m0:=FA (if c < 0 then -c else c) (show (2147483587:Int)≠0 by decide);have m1:=ET (if c < 0 then -c else c) (show (0:Int) < 2147483587 by decide);exact q l _ (ao (ag.refl _) hl) hl ⟨_,_,ak,by omega,by omega⟩
def dZ:Sp:=λvs H Q _=>∃(p:Addr) (n:Int),vs=[.ref p,.int n]/\GF H p/\0 < n/\n < 1000/\∀r H',0<=r->r < n->GF H' p->Kp [p] H H'->Q (.int r) H'
abbrev N47:List Str:=["_law_pot_here","_law_many","_law_digit_here"]
theorem si:aV N47 ["_law_pot_here","_law_many"] (aH (top 47)):=⟨rfl,rfl,rfl,by decide +kernel,rfl,by decide +kernel,by decide +kernel⟩
theorem wG (F:Gy K "_law_digit" "_law_digit" (top 47) f fd) (B:Bl mg):au P w K mg base GB 1 f fd ["_law_pot_here","_law_many"] dZ:=by
 refine F.ok si (λvs H Q E h=>?_) (λ_ _ _ _ H vs Q E hr h=>?_)
 ·obtain⟨p,n,rfl,_⟩:=h
  rfl
 ·obtain⟨p,n,rfl,⟨a,b,hp,VU,M8⟩,hn,VB,k⟩:=h
  refine⟨_,aj (aQ (aU jG (aA aF (pv 0) ai (λ_ _=>rfl)) ai (aM _))
    (aj (aJ (i:=2) si.nd rfl (Or.inl rfl) (aK ik (aA aF (pv 0) ai (λ_ _=>rfl)) (pv 1)))
    (aj (dX (aK ph (aA aF (pv 0) ai (λ_ _=>rfl)) (pv 1)) (jz (pv 0) ai set_list))
     (aq (aG (pv 2))))) aS)
   (aj (dX (aK ik (aK dJ (aK k9 (aA aF (pv 0) ai (λ_ _=>rfl)) ai) ai) ai) (jz (pv 0) ai set_list))
   (aq (aG (aK ik (aK ph (aK ik (aK k9 (aA aF (pv 0) ai (λ_ _=>rfl)) (aA aF (pv 0) ai (λ_ _=>rfl))) ai) ai) (pv 1))))),?_⟩
  have hS:Sq K H p [.int a,.int b]:=.inl (Gq.of hp);refine⟨_,rfl,aE (j:=0) hS rfl rfl ⟨_,_,rfl,rfl,_,rfl,?_⟩⟩;refine bJ (λc=>?_) (λc=>?_)
  ·refine⟨_,rfl,aE (j:=0) hS rfl rfl ⟨_,rfl,_,_,rfl,rfl,hn,?_⟩⟩
   refine⟨_,rfl,aE (j:=0) hS rfl rfl ⟨_,rfl,_,_,rfl,rfl,⟨hn,by omega⟩,_,rfl,p,[.int a,.int b],_,0,rfl,rfl,hp,rfl,?_⟩⟩;exact⟨_,rfl,k _ _ (FA _ (by omega)) (ET _ hn) ⟨_,_,ak,VU,M8⟩ ((Kp.refl _ _).inn (by simp))⟩
  ·refine⟨_,rfl,aE (j:=1) hS rfl rfl ⟨_,_,rfl,rfl,.inl ⟨by omega,by omega⟩,_,_,rfl,rfl,_,_,rfl,rfl,by show (0:Int) < 2147483647;decide,_,rfl,p,[.int a,.int b],_,1,rfl,rfl,hp,rfl,?_⟩⟩
   have m0:0<=(b * 39373 + 20011) % 2147483647:=FA _ (by decide);have m1:(b * 39373 + 20011) % 2147483647 < 2147483647:=ET _ (by decide);have VW:Sq K (upd H p (.lst ([V.int a,V.int b].set 1 (.int ((b * 39373 + 20011) % 2147483647))))) p [.int a,.int ((b * 39373 + 20011) % 2147483647)]:=.inl (Gq.of ak);refine⟨_,rfl,aE (j:=1) VW rfl rfl ⟨_,rfl,aE (j:=1) VW rfl rfl ⟨_,_,rfl,rfl,.inl ⟨by omega,by omega⟩,_,_,rfl,rfl,by show (0:Int) < 2147483563;decide,_,_,rfl,rfl,⟨by decide,by decide⟩,_,rfl,_,_,rfl,rfl,hn,?_⟩⟩⟩;exact k _ _ (FA _ (by omega)) (ET _ hn) ⟨_,_,ak,m0,by omega⟩ ((Kp.refl _ _).inn (by simp))
structure LN (x:Str) (k:Nat):Prop where
 ex:∃u:List Nat,x.cps.toList=u++[97 + k]/\u.length<=3/\∀c∈u,(97<=c/\c<=122)/\c≠113
theorem LN.name {x:Str}{k:Nat} (h:LN x k) (hk:k < 26):ba x:=by
 obtain⟨u,e,hu,hc⟩:=h.ex;refine ba.of_codes e (by simp) (by simp;omega) λc hm=>?_
 rcases Ck.mp hm with z | z
 ·exact (hc c z).1
 ·have:c=97 + k:=by simpa using z
  omega
theorem LN.inj {x:Str}{k j:Nat} (h:LN x k) (h':LN x j):k=j:=by
 obtain⟨u,e,_⟩:=h.ex;obtain⟨u',e',_⟩:=h'.ex;rw [e] at e';have:=(Gc e' rfl).2;simp at this;omega
def six:Str:=Str.ofString "abmxyz"
theorem yK:∀r:_root_.Fin 6,∃c,six.cps.toList[r.val]?=some c/\97<=c/\c<=122/\c≠113:=by
 intro r
 match r with
 | ⟨0,_⟩=>exact⟨97,by show six.cps.toList[0]?=some 97;decide,by decide,by decide,by decide⟩
 | ⟨1,_⟩=>exact⟨98,by show six.cps.toList[1]?=some 98;decide,by decide,by decide,by decide⟩
 | ⟨2,_⟩=>exact⟨109,by show six.cps.toList[2]?=some 109;decide,by decide,by decide,by decide⟩
 | ⟨3,_⟩=>exact⟨120,by show six.cps.toList[3]?=some 120;decide,by decide,by decide,by decide⟩
 | ⟨4,_⟩=>exact⟨121,by show six.cps.toList[4]?=some 121;decide,by decide,by decide,by decide⟩
 | ⟨5,_⟩=>exact⟨122,by show six.cps.toList[5]?=some 122;decide,by decide,by decide,by decide⟩
theorem zG {r:Nat} (h:r < 6):∃c,six.cps.toList[r]?=some c/\97<=c/\c<=122/\c≠113:=yK ⟨r,h⟩
theorem xf:six.length<=sizeLine:=by decide
theorem uu (x:Str) (c:Nat):(x++(⟨#[c]⟩:Str)).cps.toList=x.cps.toList++[c]:=by
 rw [EW,EE]
def pJ:Sp:=λvs H Q _=>∃(p:Addr) (k:Nat),vs=[.ref p,.int k]/\GF H p/\k < 26/\∀x H',LN x k->GF H' p->Kp [p] H H'->Q (.str x) H'
abbrev N48:List Str:=["_law_pot_here","_law_k","_law_begin"]
theorem rZ:aV N48 ["_law_pot_here","_law_k"] (aH (top 48)):=⟨rfl,rfl,rfl,by decide +kernel,rfl,by decide +kernel,by decide +kernel⟩
theorem xh (F:Gy K "_law_name" "_law_name" (top 48) f fd) (B:Bl mg) (Ft:Fn P w K mg base 1 "_law_digit" ["_law_pot_here","_law_many"] dZ):au P w K mg base GB 2 f fd ["_law_pot_here","_law_k"] pJ:=by
 refine F.ok rZ (λvs H Q E h=>?_) (λ_ _ _ _ H vs Q E hr h=>?_)
 ·obtain⟨p,k,rfl,_⟩:=h
  rfl
 ·obtain⟨p,kk,rfl,hp,hk,k⟩:=h
  refine⟨_,aj (aJ (i:=2) rZ.nd rfl (Or.inl rfl) (c8 PySem.F.plainAttrs_str PySem.F.slot_str_join PySem.F.type_str_join xP bq (aa (bS (N:=["_law_turn","_law_pot_here"]) (ix:=[none,some 0]) ⟨rfl,rfl,rfl,by decide⟩ rfl
      (eF rfl B.range (aa (ar Ft hr (aa (pv 0) (aa ai ae))) ae)) (λ_ _ _ _=>bj 0 (by decide) rfl rfl) (λ_ _ _ _=>bR)
      (λ_ _ _ _=>aA (b7 K) bq (ar Ft hr (aa (pv 1) (aa ai ae))) (λ_ _=>rfl))) ae)))
   (aq (aG (aK fD (pv 2) (aA aF bq (pv 1) (λ_ _=>rfl))))),?_⟩
  have Qo:∀(cs:List Nat),(Txt.join (Str.ofString "") (cs.map λc=>(⟨#[c]⟩:Str))).length=cs.length:=λcs=>by
   rw [<- congrArg List.length (join_one cs)];simp [Str.length]
  have Su:∀l:List Nat,((l.map λc=>(⟨#[c]⟩:Str)).map (·.length)).sum=l.length:=λl=>by
   induction l with
   | nil=>rfl
   | cons c r ih=>simp only [CD,DB,ih,C5];show 1 + r.length=_;omega
  refine⟨rfl,_,rfl,p,4,rfl,hp,by decide,by decide,λr4 H4 a0 a1 P4 K4=>⟨_,rfl,by omega,by omega,?_⟩⟩;refine fC (fits (by omega)) (λj ys σ H5=>(∃cs:List Nat,cs.length=j/\(∀c∈cs,(97<=c/\c<=122)/\c≠113)/\ys=cs.map λc=>V.str ⟨#[c]⟩)/\GF H5 p/\Kp [p] H H5/\∃x,σ=[x,some (.ref p)])
   ⟨⟨[],rfl,by simp,rfl⟩,P4,K4,_,rfl⟩ (λj ys σ H5 _ q=>by obtain⟨⟨cs,rfl,_,rfl⟩,_⟩:=q;simp) ?_ ?_
  ·rintro j ys σ H5 hj ⟨⟨cs,rfl,J0,rfl⟩,P5,K5,v,rfl⟩
   refine⟨_,rfl,p,6,rfl,P5,by decide,by decide,λr H6 r0 r1 P6 K6=>?_⟩;obtain⟨c6,e6,l6,u6⟩:=zG (r:=r.toNat) (by omega);refine .inr (.inr ⟨six,r,c6,rfl,rfl,xf,jw (j:=r.toNat) (by omega) e6,⟨cs++[c6],by simp,λc hc=>?_,by simp⟩,P6,K5.trans K6,_,rfl⟩)
   rcases Ck.mp hc with z | z
   ·exact J0 c z
   ·have:c=c6:=by simpa using z
    omega
  rintro ys σ H5 ⟨⟨cs,Gs,J0,rfl⟩,P5,K5,v,rfl⟩ q hq;have hx:(Txt.join (Str.ofString "") (cs.map λc=>(⟨#[c]⟩:Str))).cps.toList=cs:=join_one cs;have SO:(cs.map λc=>V.str ⟨#[c]⟩)=(cs.map λc=>(⟨#[c]⟩:Str)).map V.str:=by rw [CH];rfl
  have ZM:=Qo cs;have VS:cs.length<=3:=by omega
  refine⟨Str.ofString "",q,cs.map λc=>(⟨#[c]⟩:Str),rfl,rfl,Gq.of (by rw [ak,SO]),?_,?_⟩
  ·have e0:(Str.ofString "").length=0:=by decide
   rw [Su,e0];omega
  generalize Txt.join (Str.ofString "") (cs.map λc=>(⟨#[c]⟩:Str))=wd at hx ZM ⊢;have P6:=P5.new (o:=.lst (cs.map λc=>V.str ⟨#[c]⟩)) hq;have K6:=(K5.new (o:=.lst (cs.map λc=>V.str ⟨#[c]⟩)) hq)
  generalize upd H5 q (.lst (cs.map λc=>V.str ⟨#[c]⟩))=H6 at P6 K6 ⊢;refine⟨_,rfl,_,rfl,.inr (.inr ⟨jm,kk,97 + kk,rfl,rfl,tO,jw (j:=kk) rfl (uf hk),_,_,rfl,rfl,by rw [DO];show wd.length + 1<=_;omega,k _ H6 ⟨cs,by rw [uu,hx],VS,J0⟩ P6 K6⟩)⟩
theorem mz {α:Type}:∀{l:List α}{i:Nat} (hi:i < l.length),l.Nodup->l[i]∉l.eraseIdx i
 | x::r,0,_,h=>by simpa using (CG.mp h).1
 | x::r,i + 1,hi,h=>by
  have h':=CG.mp h;have Il:i < r.length:=by simpa using hi
  rw [List.eraseIdx_cons_succ,List.getElem_cons_succ];intro q
  rcases Ci.mp q with e | e
  ·exact h'.1 (e ▸ Cu Il)
  ·exact mz Il h'.2 e
theorem mJ {α β:Type} (f:α->β):∀(l:List α) (i:Nat),(l.map f).eraseIdx i=(l.eraseIdx i).map f
 | [],i=>by simp
 | x::r,0=>rfl
 | x::r,i + 1=>by simp [mJ f r i]
abbrev Le:=Addr×Str×Str
abbrev bQ (GC:List Le):List V:=GC.map λx=>V.ref x.1
structure cO (H:Hp) (fo:Addr) (GC:List Le):Prop where
 l:H fo=some (.lst (bQ GC))
 e:∀x∈GC,H x.1=some (.tup [.str x.2.1,.str x.2.2])
def Nj (ps:List Str) (GC:List Le):Prop:=∀x∈GC,x.2.1∈ps/\x.2.2∈ps/\x.2.1≠x.2.2
theorem cO.same {H H':Hp}{fo:Addr}{GC:List Le} (h:cO H fo GC) (s:ag H H'):cO H' fo GC:=⟨s _ _ h.l,λx hx=>s _ _ (h.e x hx)⟩
theorem cO.kp {H H':Hp}{p fo:Addr}{GC:List Le} (h:cO H fo GC) (hp:GF H p) (n:fo≠p) (k:Kp [p] H H'):cO H' fo GC:=⟨k.at n h.l,λx hx=>k.tup hp (h.e x hx)⟩
def p6:Sp:=λvs H Q _=>∃(p pl:Addr) (root:Str) (ps:List Str),vs=[.ref p,.ref pl,.str root]/\GF H p/\H pl=some (.lst (ps.map V.str))/\root∈ps/\ps.Nodup/\(∀x∈ps,ba x)/\ps.length<=8 /\
 ∀(q:Addr) (GC:List Le) (H':Hp),GF H' p->cO H' q GC->Nj ps GC->GC.length + 1<=ps.length->H q=none->Kp [p] H H'->Q (.ref q) H'
abbrev N49:List Str:=["_law_pot_here","_law_places","_law_root","_law_left","_law_there","_law_found","_law_begin","_law_end"]
theorem gN:aV N49 ["_law_pot_here","_law_places","_law_root"] (aH (top 49)):=⟨rfl,rfl,rfl,by decide +kernel,rfl,by decide +kernel,by decide +kernel⟩
theorem v8 (F:Gy K "_law_grown" "_law_grown" (top 49) f fd) (B:Bl mg) (Ft:Fn P w K mg base 1 "_law_digit" ["_law_pot_here","_law_many"] dZ):au P w K mg base GB 2 f fd ["_law_pot_here","_law_places","_law_root"] p6:=by
 refine F.ok gN (λvs H Q E h=>?_) (λ_ _ _ _ H vs Q E hr h=>?_)
 ·obtain⟨p,pl,root,ps,rfl,_⟩:=h
  rfl
 ·obtain⟨p,pl,root,ps,rfl,hp,GY,Gr,GE,Ob,p8,k⟩:=h
  refine⟨_,aj (eJ (i:=3) (N:=["_law_place","_law_root"]) (ix:=[none,some 2]) gN.nd rfl (Or.inl rfl) ⟨rfl,rfl,rfl,by decide⟩ rfl (dr (pv 1)) (λ_ _ _ _=>bj 0 (by decide) rfl rfl) (λ_ _ _ _=>dU (aU cq (pv 0) (pv 1) (aM _))) (λ_ _ _ _=>pv 0))
   (aj (aJ (i:=4) gN.nd rfl (Or.inl rfl) (bD (aa (pv 2) ae)))
   (aj (aJ (i:=5) gN.nd rfl (Or.inl rfl) (bD ae))
   (aj (kz C6 (aU (cS hr) (pv 3) (bD ae) (aM _))
    (aj (aJ (i:=6) gN.nd rfl (Or.inl rfl) (aA aF (pv 4) (ar Ft hr (aa (pv 0) (aa (aD bu rfl B.len Ct (aa (pv 4) ae)) ae))) (λ_ _=>rfl)))
    (aj (aJ (i:=7) gN.nd rfl (Or.inl rfl) (c8 CQ PySem.F.slot_list_pop PySem.F.type_list_pop vS (pv 3) (aa (ar Ft hr (aa (pv 0) (aa (aD bu rfl B.len Ct (aa (pv 3) ae)) ae))) ae)))
    (aj (bp (c8 CQ C7 C8 dR (pv 4) (aa (pv 7) ae)))
    (aq (bp (c8 CQ C7 C8 dR (pv 5) (aa (br (aa (pv 6) (aa (pv 7) ae))) ae))))))))
   (aq (aG (pv 5)))))),?_⟩
  refine⟨_,rfl,pl,rfl,⟨_,Gq.of GY⟩,vp (xs:=ps.map V.str) (fits (by simp;omega)) (λi ys σ H2=>ys=((ps.take i).filter λy=>!decide (y=root)).map V.str/\H2=H/\∃v,σ=[v,some (.str root)]) ⟨rfl,rfl,_,rfl⟩
   (λi ys σ H2 _ q=>⟨by rw [q.1,B8];exact CB (CF _ _) (by simp;omega),by rw [q.2.1];exact Gq.of GY⟩) ?_ ?_⟩
  ·rintro i y ys σ H2 hy ⟨rfl,rfl,v,rfl⟩
   rw [Cd] at hy;cases hc:ps[i]? with
   | none=>rw [hc] at hy;cases hy
   | some z =>
    rw [hc] at hy;cases hy;have tf:=eU (λz:Str=>!decide (z=root)) ps i z hc;refine⟨_,rfl,_,rfl,rfl,_,rfl,?_⟩;have e:(!decide (V.str z=V.str root))=!decide (z=root):=by simp
    rw [e];refine bJ (λc=>⟨_,rfl,?_,rfl,_,rfl⟩) (λc=>⟨?_,rfl,_,rfl⟩)
    ·rw [tf,c];simp
    ·rw [tf];simp only [DY] at c;rw [c];simp
  rintro ys σ H2 ⟨rfl,rfl,v,rfl⟩ l hl;rw [take_all ps (by simp)];have RI:=hp.ne_new hl;have OR:∀x∈ps.filter (λy=>!decide (y=root)),x∈ps/\x∉[root]:=λx hx=>by
   obtain⟨a,b⟩:=Cr.mp hx;exact⟨a,by simpa using b⟩
  have JY:(ps.filter λy=>!decide (y=root)).Nodup:=GE.filter _;have Hh:(ps.filter λy=>!decide (y=root)).length + 1<=ps.length:=by
   have q:(ps.filter λy=>!decide (y=root)).length < ps.length:=by
    refine List.length_filter_lt_length_iff_exists.mpr ⟨root,Gr,by simp⟩
   omega
  generalize ps.filter (λy=>!decide (y=root))=Mq at Hh OR JY ⊢;have p2:=hp.new (o:=.lst (Mq.map V.str)) hl;have K2:=(Kp.refl [p] H2).new (o:=.lst (Mq.map V.str)) hl;have l2:upd H2 l (.lst (Mq.map V.str)) l=some (.lst (Mq.map V.str)):=ak;generalize upd H2 l (.lst (Mq.map V.str))=H3 at p2 K2 l2 ⊢;refine⟨_,rfl,by show 1<=sizeLine;decide,λd hd=>?_⟩;have RO:=p2.ne_new hd;have RJ:l≠d:=bh l2 hd;have ZH:=K2.free1 p2 hd;have p3:=p2.new (o:=.lst [.str root]) hd;have K3:=K2.new (o:=.lst [.str root]) hd;have d3:upd H3 d (.lst [.str root]) d=some (.lst ([root].map V.str)):=ak;have l3:upd H3 d (.lst [.str root]) l=some (.lst (Mq.map V.str)):=by rw [av RJ];exact l2
  generalize upd H3 d (.lst [.str root])=H3' at p3 K3 d3 l3 ⊢;refine⟨Cz _,λfo Im=>?_⟩;have Jb:=p3.ne_new Im;have RM:fo≠d:=(bh d3 Im).symm;have KJ:fo≠l:=(bh l3 Im).symm;have IL:=K3.free1 p3 Im
  refine⟨λm σ H4=>∃(ds ls:List Str) (GC:List Le) (g g':Option V),σ=[some (.ref p),some (.ref pl),some (.str root),some (.ref l),some (.ref d),some (.ref fo),g,g']/\ls.length=m/\GF H4 p/\Kp [p] H2 H4/\H4 d=some (.lst (ds.map V.str))/\H4 l=some (.lst (ls.map V.str))/\cO H4 fo GC/\Nj ps GC/\GC.length + ls.length + 1<=ps.length/\ds.length=GC.length + 1/\(∀x∈ds,x∈ps)/\(∀x∈ls,x∈ps/\x∉ds)/\ls.Nodup,
   ⟨_,[root],Mq,[],none,none,rfl,rfl,p3.new Im,K3.new Im,by rw [av RM.symm];exact d3,by rw [av KJ.symm];exact l3,⟨ak,by simp⟩,(by intro x hx;simp at hx),by simp;omega,rfl,by simpa using Gr,OR,JY⟩,?_⟩
  rintro m σ H4 ⟨ds,ls,GC,g,g',rfl,rfl,P4,K4,D4,L4,A4,HW,hn,Io,VQ,M3,VH⟩;refine⟨_,rfl,Cz _,λe he=>?_⟩;have u4:=ao (o:=.lst []) (ag.refl H4) he;have e1:upd H4 e (.lst []) e=some (.lst []):=ak;have P5:=P4.new (o:=.lst []) he;have K5:=K4.new (o:=.lst []) he;generalize upd H4 e (.lst [])=H5 at u4 e1 P5 K5 ⊢;have L5:=u4 _ _ L4;have D5:=u4 _ _ D4;have A5:=A4.same u4;refine⟨.list (ls.map PyData.str),.list [],.lst L5 (Gv.strs ls),.lst e1 .nil,(cJ λx hx=>Ob x (M3 x hx).1).1,(cJ (ss:=[]) (by simp)).1,_,rfl,?_⟩;have ev:PyData.eqv (.list (ls.map PyData.str)) (.list [])=decide (ls=[]):=fB ls [];rw [ev];refine bJ (λc=>?_) (λc=>?_)
  ·have GQ:ls≠[]:=by simpa using c
   have hlp:0 < ls.length:=by cases ls with | nil=>exact absurd rfl GQ | cons _ _=>simp
   refine⟨λσ' H'=>∃m',m' < ls.length/\∃(ds ls:List Str) (GC:List Le) (g g':Option V),σ'=[some (.ref p),some (.ref pl),some (.str root),some (.ref l),some (.ref d),some (.ref fo),g,g']/\ls.length=m'/\GF H' p/\Kp [p] H2 H'/\H' d=some (.lst (ds.map V.str))/\H' l=some (.lst (ls.map V.str))/\cO H' fo GC/\Nj ps GC/\GC.length + ls.length + 1<=ps.length/\ds.length=GC.length + 1/\(∀x∈ds,x∈ps)/\(∀x∈ls,x∈ps/\x∉ds)/\ls.Nodup,λσ' H' q=>q,?_⟩;refine⟨_,rfl,_,rfl,_,rfl,d,_,rfl,.inl (Gq.of D5),p,_,rfl,P5,by rw [B8];omega,by rw [B8];omega,λj H9 j0 j1 P9 K9=>?_⟩;rw [B8] at j1;have HJ:j.toNat < ds.length:=by omega
   have D9:=K9.at RO D5;have L9:=K9.at RI L5;have A9:=A5.kp P5 Jb K9;have QE:=K5.trans K9;refine aE (j:=j.toNat) (.inl (Gq.of D9)) (by omega) (strAt HJ) ?_;have Te:ds[j.toNat]∈ds:=Cu HJ;generalize ds[j.toNat]=a at Te ⊢;refine⟨_,rfl,.inl ⟨rfl,_,Gq.of L9⟩,_,rfl,_,rfl,l,_,rfl,.inl (Gq.of L9),p,_,rfl,P9,by rw [B8];omega,by rw [B8];omega,λi H6 i0 i1 P6 K6=>?_⟩;rw [B8] at i1;have L6:=K6.at RI L9;have D6:=K6.at RO D9;have A6:=A9.kp P9 Jb K6;have QF:=QE.trans K6;have IA:i.toNat < ls.length:=by omega
   refine⟨l,ls.map V.str,i,i.toNat,.str ls[i.toNat],rfl,rfl,L6,by omega,by omega,seqIndex_of i0 (by rw [B8];omega),strAt IA,?_⟩;have Qb:=M3 _ (Cu IA);have S3:(ls.eraseIdx i.toNat).length + 1=ls.length:=by rw [List.length_eraseIdx,if_pos IA];omega
   have GH:∀x∈ls.eraseIdx i.toNat,x∈ls:=λx hx=>List.mem_of_mem_eraseIdx hx;have SK:ls[i.toNat]∉ls.eraseIdx i.toNat:=mz IA VH;have OJ:(ls.eraseIdx i.toNat).Nodup:=VH.sublist (List.eraseIdx_sublist _ _);have em:(ls.map V.str).eraseIdx i.toNat=(ls.eraseIdx i.toNat).map V.str:=mJ _ _ _;rw [em];generalize ls[i.toNat]=z at Qb SK ⊢;generalize ls.eraseIdx i.toNat=JP at S3 GH SK OJ ⊢;have P7:=P6.upd (o:=.lst (JP.map V.str)) RI;have K7:Kp [p] H2 (upd H6 l (.lst (JP.map V.str))):=λb o q nb=>by rw [av (bh q hl)];exact QF b o q nb
   have L7:upd H6 l (.lst (JP.map V.str)) l=some (.lst (JP.map V.str)):=ak;have D7:upd H6 l (.lst (JP.map V.str)) d=some (.lst (ds.map V.str)):=by rw [av RJ.symm];exact D6
   have A7:cO (upd H6 l (.lst (JP.map V.str))) fo GC:=⟨by rw [av KJ];exact A6.l,λx hx=>by rw [av (tup_ne (A6.e x hx) L6)];exact A6.e x hx⟩
   generalize upd H6 l (.lst (JP.map V.str))=H7 at P7 K7 L7 D7 A7 ⊢;refine⟨_,rfl,.inl ⟨rfl,_,Gq.of D7⟩,_,rfl,d,ds.map V.str,.str z,rfl,rfl,D7,fits (by simp;omega),?_⟩;have P8:=P7.upd (o:=.lst (ds.map V.str++[.str z])) RO;have K8:Kp [p] H2 (upd H7 d (.lst (ds.map V.str++[.str z]))):=λb o q nb=>by rw [av (bh q ZH)];exact K7 b o q nb
   have D8:upd H7 d (.lst (ds.map V.str++[.str z])) d=some (.lst ((ds++[z]).map V.str)):=by rw [ak,CA];rfl
   have L8:upd H7 d (.lst (ds.map V.str++[.str z])) l=some (.lst (JP.map V.str)):=by rw [av RJ];exact L7
   have A8:cO (upd H7 d (.lst (ds.map V.str++[.str z]))) fo GC:=⟨by rw [av RM];exact A7.l,λx hx=>by rw [av (tup_ne (A7.e x hx) D7)];exact A7.e x hx⟩
   generalize upd H7 d (.lst (ds.map V.str++[.str z]))=H8 at P8 K8 D8 L8 A8 ⊢;refine⟨_,rfl,.inl ⟨rfl,_,Gq.of A8.l⟩,_,rfl,_,rfl,by show 2<=sizeLine;decide,λn hn=>?_⟩;have u9:=ao (o:=.tup [.str a,.str z]) (ag.refl H8) hn;have n9:upd H8 n (.tup [.str a,.str z]) n=some (.tup [.str a,.str z]):=ak;have Iq:=P8.new (o:=.tup [.str a,.str z]) hn;have G3:=K8.new (o:=.tup [.str a,.str z]) hn;generalize upd H8 n (.tup [.str a,.str z])=Hs at u9 n9 Iq G3 ⊢;have Kh:=A8.same u9;have D10:=u9 _ _ D8;have MO:=u9 _ _ L8;refine⟨fo,bQ GC,.ref n,rfl,rfl,Kh.l,fits (by rw [B8];omega),?_⟩;have Lf:=Iq.upd (o:=.lst (bQ GC++[.ref n])) Jb;have Kf:Kp [p] H2 (upd Hs fo (.lst (bQ GC++[.ref n]))):=λb o q nb=>by rw [av (bh q IL)];exact G3 b o q nb
   have Pq:cO (upd Hs fo (.lst (bQ GC++[.ref n]))) fo (GC++[(n,a,z)]):=⟨by rw [ak];simp [bQ],λx hx=>by
    rcases Ck.mp hx with q | q
    ·rw [av (tup_ne (Kh.e x q) Kh.l)];exact Kh.e x q
    ·have e:x=(n,a,z):=(by simpa using q)
     subst e;show upd Hs fo _ n=_
     rw [av (tup_ne n9 Kh.l)];exact n9⟩
   have D11:upd Hs fo (.lst (bQ GC++[.ref n])) d=some (.lst ((ds++[z]).map V.str)):=by rw [av RM.symm];exact D10
   have Ph:upd Hs fo (.lst (bQ GC++[.ref n])) l=some (.lst (JP.map V.str)):=by rw [av KJ.symm];exact MO
   refine⟨JP.length,by omega,ds++[z],JP,GC++[(n,a,z)],_,_,rfl,rfl,Lf,Kf,D11,Ph,Pq,?_,by simp;omega,by simp;omega,?_,?_,OJ⟩
   ·intro x hx
    rcases Ck.mp hx with q | q
    ·exact HW x q
    ·have e:x=(n,a,z):=by simpa using q
     subst e;exact⟨VQ a Te,Qb.1,λq=>Qb.2 ((show a=z from q) ▸ Te)⟩
   ·intro y hy
    rcases Ck.mp hy with q | q
    ·exact VQ y q
    ·have e:y=z:=by simpa using q
     subst e;exact Qb.1
   ·intro y hy
    have q:=M3 y (GH y hy);refine⟨q.1,λhm=>?_⟩
    rcases Ck.mp hm with w' | w'
    ·exact q.2 w'
    ·have e:y=z:=by simpa using w'
     subst e;exact SK hy
  ·exact⟨_,rfl,k fo GC H5 P5 A5 HW (by omega) IL K5⟩
theorem zM {GC:List Le}{i:Nat}{x:V} (h:(bQ GC)[i]?=some x):∃r,GC[i]?=some r/\x=.ref r.1:=by
 unfold bQ at h;rw [Cd] at h;cases e:GC[i]? with
 | none=>rw [e] at h;cases h
 | some r=>rw [e] at h;exact⟨r,rfl,(CZ h).symm⟩
theorem Kp.upd0 {P:List Addr}{H H1:Hp}{q:Addr}{o:HO} (a:Kp P H H1) (hq:H q=none):Kp P H (upd H1 q o):=λc ob h n=>by rw [av (bh h hq)];exact a c ob h n
def JA (ns:List Str):Prop:=∀j x,ns[j]?=some x->LN x j
theorem JA.name {ns:List Str} (D:JA ns) (hz:ns.length<=26):∀x∈ns,ba x:=λx hx=>by
 obtain⟨j,hj⟩:=De hx;have HJ:=(Ca.mp hj).1;exact (D j x hj).name (by omega)
theorem JA.nodup {ns:List Str} (D:JA ns):ns.Nodup:=by
 refine CL.mpr λi j hi hj Hw e=>?_;have h1:=D i _ (B7 hi);have h2:=D j _ (B7 hj);rw [<- e] at h2;have:=h1.inj h2;omega
theorem JA.qq {ns:List Str} (D:JA ns):Str.ofString "qq"∉ns:=λhx=>by
 obtain⟨j,hj⟩:=De hx;obtain⟨u,e,_,hc⟩:=(D j _ hj).ex;have e0:(Str.ofString "qq").cps.toList=[113]++[113]:=by decide +kernel
 rw [e0] at e;have h:=(Gc e rfl).1;exact (hc 113 (by rw [<- h];simp)).2 rfl
theorem JA.add {ns:List Str}{x:Str} (D:JA ns) (h:LN x ns.length):JA (ns++[x]):=λj y hj=>by
 by_cases hl:j < ns.length
 ·rw [CV hl] at hj
  exact D j y hj
 ·rw [DJ (by omega)] at hj
  have Zw:j - ns.length=0:=by
   have:=(Ca.mp hj).1;simp at this;omega
  rw [Zw] at hj;have ey:x=y:=by simpa using hj
  subst ey;have ej:j=ns.length:=by omega
  subst ej;exact h
theorem Av (xs:List V):ce xs none (some 26)=xs.take 26:=by
 unfold ce;rw [HT.BK,show (26:Int)=((26:Nat):Int) from rfl,HT.BN];rw [Gk,Nat.sub_zero]
 rcases F9 26 xs.length with h | h
 ·rw [EG h]
 ·rw [Gd h,Dg,Df h]
def qh:Sp:=λvs H Q _=>∃(p:Addr),vs=[.ref p,.int 5,.int 2,.int 4]/\GF H p /\
 ∀(v u pa ra:Addr) (root:Str) (ps:List Str) (rs:List (Addr×Row)) (H':Hp),GF H' p->H' v=some (.tup [.ref u,.str root])->bc H' u pa ra ps rs->Good ps (rs.map (·.2))->ps.length<=5->rs.length<=26->root∈ps->Str.ofString "qq"∉ps->Str.ofString "qq"∉GA rs->Kp [p] H H'->Q (.ref v) H'
abbrev N50:List Str:=["_law_pot_here","_law_most_places","_law_most_trees","_law_most_more","_law_places","_law_root","_law_pairs","_law_turn","_law_begin","_law_end","_law_ties"]
theorem eA:aV N50 ["_law_pot_here","_law_most_places","_law_most_trees","_law_most_more"] (aH (top 50)):=⟨rfl,rfl,rfl,by decide +kernel,rfl,by decide +kernel,by decide +kernel⟩
theorem zm (F:Gy K "_law_web" "_law_web" (top 50) f fd) (B:Bl mg) (Ft:Fn P w K mg base 1 "_law_digit" ["_law_pot_here","_law_many"] dZ) (WB:Fn P w K mg base 2 "_law_name" ["_law_pot_here","_law_k"] pJ)
  (Fe:Fn P w K mg base 2 "_law_grown" ["_law_pot_here","_law_places","_law_root"] p6):au P w K mg base GB 3 f fd ["_law_pot_here","_law_most_places","_law_most_trees","_law_most_more"] qh:=by
 refine F.ok eA (λvs H Q E h=>?_) (λ_ _ _ _ H vs Q E hr h=>?_)
 ·obtain⟨p,rfl,_⟩:=h
  rfl
 ·obtain⟨p,rfl,hp,k⟩:=h
  have GP:aT 1 _:=hr.mono (by decide)
  refine⟨_,aj (aJ (i:=4) eA.nd rfl (Or.inl rfl) (aD iL rfl B.sorted hX (aa (bS (N:=["_law_k","_law_pot_here"]) (ix:=[none,some 0]) ⟨rfl,rfl,rfl,by decide⟩ rfl
     (eF rfl B.range (aa (aK dJ ai (ar Ft GP (aa (pv 0) (aa (pv 1) ae)))) ae)) (λ_ _ _ _=>bj 0 (by decide) rfl rfl) (λ_ _ _ _=>bR)
     (λ_ _ _ _=>ar WB hr (aa (pv 1) (aa (pv 0) ae)))) ae)))
   (aj (aJ (i:=5) eA.nd rfl (Or.inl rfl) (aA aF (pv 4) (ar Ft GP (aa (pv 0) (aa (aD bu rfl B.len Ct (aa (pv 4) ae)) ae))) (λ_ _=>rfl)))
   (aj (aJ (i:=6) eA.nd rfl (Or.inl rfl) (bD ae))
   (aj (cY C6 rfl (eF rfl B.range (aa (ar Ft GP (aa (pv 0) (aa (aK dJ (pv 2) ai) ae))) ae)) (bt (i:=7) eA.nd rfl (Or.inl rfl))
    (aq (aJ (i:=6) eA.nd rfl (Or.inl rfl) (aK dH (pv 6) (ar Fe hr (aa (pv 0) (aa (pv 4) (aa (pv 5) ae))))))))
   (aj (cY C6 rfl (eF rfl B.range (aa (ar Ft GP (aa (pv 0) (aa (aK dJ (pv 3) ai) ae))) ae)) (bt (i:=7) eA.nd rfl (Or.inl rfl))
    (aj (aJ (i:=8) eA.nd rfl (Or.inl rfl) (aA aF (pv 4) (ar Ft GP (aa (pv 0) (aa (aD bu rfl B.len Ct (aa (pv 4) ae)) ae))) (λ_ _=>rfl)))
    (aj (aJ (i:=9) eA.nd rfl (Or.inl rfl) (aA aF (pv 4) (ar Ft GP (aa (pv 0) (aa (aD bu rfl B.len Ct (aa (pv 4) ae)) ae))) (λ_ _=>rfl)))
    (aq (aQ (aU cq (pv 8) (pv 9) (aM _)) (aq (bp (c8 CQ C7 C8 dR (pv 6) (aa (br (aa (pv 8) (aa (pv 9) ae))) ae)))) aS)))))
   (aj (aJ (i:=10) eA.nd rfl (Or.inl rfl) (aD tM rfl B.sorted hX (aa (bS (N:=["_law_k","_law_pair","_law_pot_here"]) (ix:=[none,none,some 0]) ⟨rfl,rfl,rfl,by decide⟩ rfl
     (kE rfl B.enumerate (aa (cy ji (pv 6) cB (ck ai)) ae))
     (λ_ _ _ _=>jr K rfl (n:=2) (bB (bj 0 (by decide) rfl rfl) (bB (bj 1 (by decide) rfl rfl) cX))) (λ_ _ _ _=>bR)
     (λ_ _ _ _=>br (aa (ar WB hr (aa (pv 2) (aa (pv 0) ae))) (aa (aA (b7 K) (pv 1) ai (λ_ _=>rfl)) (aa (aA (b7 K) (pv 1) ai (λ_ _=>rfl)) ae))))) ae)))
   (aq (aG (br (aa (br (aa (cP fz rfl B.tuple cA (aa (pv 4) ae)) (aa (cP fz rfl B.tuple cA (aa (pv 10) ae)) ae))) (aa (pv 5) ae)))))))))),?_⟩
  refine⟨_,rfl,_,rfl,p,5,rfl,hp,by decide,by decide,λr1 H1 a0 a1 P1 K1=>⟨_,_,rfl,rfl,_,rfl,by omega,by omega,?_⟩⟩;refine fC (fits (by omega)) (λj ys σ H2=>(∃ns:List Str,ns.length=j/\JA ns/\ys=ns.map V.str)/\GF H2 p/\Kp [p] H H2/\∃x,σ=[x,some (.ref p)])
   ⟨⟨[],rfl,λj x hj=>by simp at hj,rfl⟩,P1,K1,_,rfl⟩ (λj ys σ H2 _ q=>by obtain⟨⟨ns,rfl,_,rfl⟩,_⟩:=q;simp) ?_ ?_
  ·rintro j ys σ H2 hj ⟨⟨ns,rfl,D,rfl⟩,P2,K2,x,rfl⟩
   refine⟨_,rfl,_,rfl,p,ns.length,by simp,P2,by omega,λx H3 hx P3 K3=>⟨⟨ns++[x],by simp,D.add hx,by simp⟩,P3,K2.trans K3,_,rfl⟩⟩
  rintro ys σ H2 ⟨⟨ns,X3,D,rfl⟩,P2,K2,x,rfl⟩ PM OH;have nm7:ns.length<=5:=by omega
  have nm1:1<=ns.length:=by omega
  have P3:=P2.new (o:=.lst (ns.map V.str)) OH;have K3:=K2.new (o:=.lst (ns.map V.str)) OH;have L3:upd H2 PM (.lst (ns.map V.str)) PM=some (.lst (ns.map V.str)):=ak;generalize upd H2 PM (.lst (ns.map V.str))=H3 at P3 K3 L3 ⊢;refine⟨PM,ns,rfl,Gq.of L3,by omega,λps pl Hf Lw GY=>?_⟩;have GE:ps.Nodup:=Hf.nodup_iff.mpr D.nodup;have Oc:ps.length=ns.length:=Hf.length_eq;have Ob:∀x∈ps,ba x:=λx hx=>D.name (by omega) x (Hf.mem_iff.mp hx);have XN:=j3 Lw GE;have Ml:=P3.ne_new GY;have P5:=P3.new (o:=.lst (ps.map V.str)) GY;have K5:=K3.new (o:=.lst (ps.map V.str)) GY;have L5:upd H3 pl (.lst (ps.map V.str)) pl=some (.lst (ps.map V.str)):=ak;generalize upd H3 pl (.lst (ps.map V.str))=H5 at P5 K5 L5 ⊢;have Zg:(ps.map V.str).length=ps.length:=by simp
  refine⟨_,rfl,_,rfl,_,rfl,pl,_,rfl,.inl (Gq.of L5),p,_,rfl,P5,by omega,by omega,λr3 H6 c0 c1 P6 Ws=>?_⟩;have K6:=K5.trans Ws;have L6:=Ws.at Ml L5;have HI:r3.toNat < ps.length:=by omega
  refine aE (j:=r3.toNat) (.inl (Gq.of L6)) (by omega) (strAt HI) ?_;have Gr:ps[r3.toNat]∈ps:=Cu HI;generalize ps[r3.toNat]=root at Gr ⊢;refine⟨Cz _,λfo Im=>?_⟩;have Jb:=P6.ne_new Im;have KJ:fo≠pl:=(bh L6 Im).symm;have IL:=K6.free1 P6 Im;have P7:=P6.new (o:=.lst []) Im;have K7:=K6.new (o:=.lst []) Im;have L7:upd H6 fo (.lst []) pl=some (.lst (ps.map V.str)):=by rw [av KJ.symm];exact L6
  have A7:cO (upd H6 fo (.lst [])) fo []:=⟨ak,by simp⟩
  generalize upd H6 fo (.lst [])=H7 at P7 K7 L7 A7 ⊢;refine⟨_,rfl,_,rfl,_,_,rfl,rfl,p,_,rfl,P7,by decide,by decide,λr4 H8 d0 d1 P8 QD=>⟨_,rfl,by omega,by omega,?_⟩⟩;refine iT (λi σ Hx=>∃(fo:Addr) (GC:List Le),(∃g g8 g9,σ=[some (.ref p),some (.int 5),some (.int 2),some (.int 4),some (.ref pl),some (.str root),some (.ref fo),g,g8,g9,none])/\fo≠p/\fo≠pl/\H fo=none/\GF Hx p/\Kp [p] H Hx/\Hx pl=some (.lst (ps.map V.str))/\cO Hx fo GC/\Nj ps GC/\GC.length<=6 * i)
   ⟨fo,[],⟨_,_,_,rfl⟩,Jb,KJ,IL,P8,K7.trans QD,QD.at Ml L7,A7.kp P7 Jb QD,(by intro x hx;simp at hx),Cc _⟩ ?_ ?_
  ·rintro i σ Hx hi ⟨fo,GC,⟨g,g8,g9,rfl⟩,Jb,KJ,IL,Px,Kx,Lx,Ax,HW,Gs⟩
   refine⟨_,rfl,_,rfl,_,rfl,_,rfl,p,pl,root,ps,rfl,Px,Lx,Gr,GE,Ob,by omega,λq IG Hy Py Ay SS hl7 Vs Ky=>?_⟩;have WC:=Ax.kp Px Jb Ky;have Ly:=Ky.at Ml Lx;refine⟨fo,q,bQ GC,bQ IG,rfl,rfl,WC.l,Ay.l,CO (fits (by simp;omega)),λc hc=>?_⟩;have sy:=ao (o:=.lst (bQ GC++bQ IG)) (ag.refl Hy) hc;have K0:=Kx.trans Ky;refine⟨c,GC++IG,⟨_,_,_,rfl⟩,Py.ne_new hc,(bh Ly hc).symm,K0.free1 Py hc,Py.new hc,K0.new hc,sy _ _ Ly,⟨by rw [ak];simp [bQ],λx hx=>?_⟩,λx hx=>?_,by simp;omega⟩
   ·rcases Ck.mp hx with z | z
    ·exact sy _ _ (WC.e x z)
    ·exact sy _ _ (Ay.e x z)
   ·rcases Ck.mp hx with z | z
    ·exact HW x z
    ·exact SS x z
  rintro σ Hx ⟨fo,GC,⟨g,g8,g9,rfl⟩,Jb,KJ,IL,Px,Kx,Lx,Ax,HW,Gs⟩;have Zs:GC.length<=18:=by omega
  clear Gs A7 L7 K7 P7 d0 d1 P8 QD H8 H7 r4;refine⟨_,rfl,_,rfl,_,_,rfl,rfl,p,_,rfl,Px,by decide,by decide,λr6 H9 f0 f1 P9 T9=>⟨_,rfl,by omega,by omega,?_⟩⟩;refine iT (λi σ Hx=>∃(GC:List Le),(∃g g8 g9,σ=[some (.ref p),some (.int 5),some (.int 2),some (.int 4),some (.ref pl),some (.str root),some (.ref fo),g,g8,g9,none])/\GF Hx p/\Kp [p] H Hx/\Hx pl=some (.lst (ps.map V.str))/\cO Hx fo GC/\Nj ps GC/\GC.length<=18 + i)
   ⟨GC,⟨_,_,_,rfl⟩,P9,Kx.trans T9,T9.at Ml Lx,Ax.kp Px Jb T9,HW,by omega⟩ ?_ ?_
  ·rintro i σ Hy hi ⟨IG,⟨g,g8,g9,rfl⟩,Py,Ky,Ly,Ay,HW,Gs⟩
   refine⟨_,rfl,_,rfl,_,rfl,pl,_,rfl,.inl (Gq.of Ly),p,_,rfl,Py,by omega,by omega,λra Hs a0 a1 Iq G3=>?_⟩;have Kh:=Ay.kp Py Jb G3;have MO:=G3.at Ml Ly;have HV:ra.toNat < ps.length:=by omega
   refine aE (j:=ra.toNat) (.inl (Gq.of MO)) (by omega) (strAt HV) ?_;have VG:=Cu HV;generalize ps[ra.toNat]=sa at VG ⊢;refine⟨_,rfl,_,rfl,_,rfl,pl,_,rfl,.inl (Gq.of MO),p,_,rfl,Iq,by omega,by omega,λrb GW b0 b1 Lf Kf=>?_⟩;have Pq:=Kh.kp Iq Jb Kf;have Ph:=Kf.at Ml MO;have Vo:rb.toNat < ps.length:=by omega
   refine aE (j:=rb.toNat) (.inl (Gq.of Ph)) (by omega) (strAt Vo) ?_;have VF:=Cu Vo;generalize ps[rb.toNat]=J6 at VF ⊢;have J4:=Ky.trans (G3.trans Kf);refine⟨_,rfl,_,rfl,rfl,_,rfl,bJ (λc=>?_) (λc=>⟨IG,⟨_,_,_,rfl⟩,Lf,J4,Ph,Pq,HW,by omega⟩)⟩;have KZ:sa≠J6:=λe=>by subst e;simp at c
   refine⟨_,rfl,.inl ⟨rfl,_,Gq.of Pq.l⟩,_,rfl,_,rfl,by show 2<=sizeLine;decide,λn hn=>?_⟩;have sz:=ao (o:=.tup [.str sa,.str J6]) (ag.refl GW) hn;have nz:upd GW n (.tup [.str sa,.str J6]) n=some (.tup [.str sa,.str J6]):=ak;have MN:=Lf.new (o:=.tup [.str sa,.str J6]) hn;have Pj:=J4.new (o:=.tup [.str sa,.str J6]) hn;generalize upd GW n (.tup [.str sa,.str J6])=HD at sz nz MN Pj ⊢;have Pp:=Pq.same sz;have QC:=sz _ _ Ph;refine⟨fo,bQ IG,.ref n,rfl,rfl,Pp.l,fits (by simp;omega),?_⟩;refine⟨IG++[(n,sa,J6)],⟨_,_,_,rfl⟩,MN.upd Jb,Pj.upd0 IL,by rw [av KJ.symm];exact QC,⟨by rw [ak];simp [bQ],λx hx=>?_⟩,λx hx=>?_,by simp;omega⟩
   ·rcases Ck.mp hx with q | q
    ·rw [av (tup_ne (Pp.e x q) Pp.l)];exact Pp.e x q
    ·have e:x=(n,sa,J6):=by simpa using q
     subst e;show upd HD fo _ n=_;rw [av (tup_ne nz Pp.l)];exact nz
   ·rcases Ck.mp hx with q | q
    ·exact HW x q
    ·have e:x=(n,sa,J6):=by simpa using q
     subst e;exact⟨VG,VF,KZ⟩
  rintro σ H9 ⟨GC,⟨g,g8,g9,rfl⟩,P9,K9,L9,A9,ON,Zp⟩;refine⟨_,rfl,_,rfl,fo,bQ GC,rfl,Gq.of A9.l,λc hc=>?_⟩;rw [Av];have sc:=ao (o:=.lst ((bQ GC).take 26)) (ag.refl H9) hc;have Iq:=P9.new (o:=.lst ((bQ GC).take 26)) hc;have G3:=K9.new (o:=.lst ((bQ GC).take 26)) hc;have X9:=P9.ne_new hc;have Qv:upd H9 c (.lst ((bQ GC).take 26)) c=some (.lst (bQ (GC.take 26))):=by rw [ak];unfold bQ;rw [FO]
  generalize upd H9 c (.lst ((bQ GC).take 26))=Hs at sc Iq G3 Qv ⊢;have Kh:=A9.same sc;have MO:=sc _ _ L9;have JU:∀x∈GC.take 26,x∈GC:=λx hx=>Dq hx;have Sl:(GC.take 26).length<=26:=by rw [Dc];omega
  have Ac:cO Hs c (GC.take 26):=⟨Qv,λx hx=>Kh.e x (JU x hx)⟩
  have VI:Nj ps (GC.take 26):=λx hx=>ON x (JU x hx);clear JU ON A9 Kh Zp;generalize GC.take 26=lc at Qv Sl Ac VI;refine⟨c,_,rfl,Gq.of Ac.l,?_⟩;refine wt (K:=K) (xs:=bQ lc) (fits (by simp;omega)) (λi zs σ H2=>(∃rr:List (Addr×Row),zs=aw rr/\rr.length=i/\(∀r∈rr,bM H2 r.1 r.2)/\JA (GA rr)/\(∀r∈rr,r.2.2.1∈ps/\r.2.2.2∈ps/\r.2.2.1≠r.2.2.2))/\GF H2 p/\Kp [p] Hs H2/\∃g1 g2,σ=[g1,g2,some (.ref p)])
   ⟨⟨[],rfl,rfl,by simp,λj x hj=>by simp at hj,by simp⟩,Iq,Kp.refl _ _,_,_,rfl⟩ (λi zs σ H2 hi q=>?_) ?_ ?_
  ·obtain⟨⟨rr,rfl,e,_⟩,P2,K2,_⟩:=q
   exact⟨by simp [e],Gq.of (K2.at X9 Qv)⟩
  ·rintro i x zs σ H2 T hx ⟨⟨rr,rfl,el,Ra,D,Ro⟩,P2,K2,g1,g2,rfl⟩ hT
   obtain⟨pr,Vu,rfl⟩:=zM hx;have IA:i < lc.length:=(Ca.mp Vu).1;have OG:=Cb Vu;obtain⟨o1,o2,o3⟩:=VI pr OG;have sT:=ao (o:=.tup [.int i,.ref pr.1]) (ag.refl H2) hT;have PT:=P2.new (o:=.tup [.int i,.ref pr.1]) hT;have KT:=K2.new (o:=.tup [.int i,.ref pr.1]) hT;have T3:upd H2 T (.tup [.int i,.ref pr.1]) T=some (.tup [.int i,.ref pr.1]):=ak;generalize upd H2 T (.tup [.int i,.ref pr.1])=H3 at sT PT KT T3 ⊢;refine⟨T,_,rfl,Gp.of T3,rfl,_,_,rfl,_,_,rfl,rfl,?_⟩;refine⟨_,rfl,_,rfl,p,i,rfl,PT,by omega,λx H4 Qf P4 K4=>?_⟩;have Ww:=KT.trans K4;have UK:H4 pr.1=some (.tup [.str pr.2.1,.str pr.2.2]):=Ww.tup Iq (Ac.e pr OG);refine⟨_,rfl,aE (j:=0) (.inr (Gp.of UK)) rfl rfl ⟨_,rfl,aE (j:=1) (.inr (Gp.of UK)) rfl rfl ⟨by show 3<=sizeLine;decide,λn hn=>?_⟩⟩⟩;have s5:=ao (o:=.tup [.str x,.str pr.2.1,.str pr.2.2]) (ag.refl H4) hn;refine⟨⟨rr++[(n,(x,pr.2.1,pr.2.2))],by simp [aw],by simp [el],λr hr=>?_,?_,λr hr=>?_⟩,P4.new hn,Ww.new hn,_,_,rfl⟩
   ·rcases Ck.mp hr with z | z
    ·exact s5 _ _ (K4.tup PT (sT _ _ (Ra r z)))
    ·have e':r=(n,(x,pr.2.1,pr.2.2)):=by simpa using z
     subst e';exact ak
   ·rw [GA,CA]
    refine JA.add D ?_;rw [B8,el];exact Qf
   ·rcases Ck.mp hr with z | z
    ·exact Ro r z
    ·have e':r=(n,(x,pr.2.1,pr.2.2)):=by simpa using z
     subst e';exact⟨o1,o2,o3⟩
  rintro zs σ GW ⟨⟨rr,rfl,el,Ra,D',Ro⟩,Lf,Kf,g1,g2,rfl⟩ rw Jp;rw [B8] at el;have Ls:=ao (o:=.lst (aw rr)) (ag.refl GW) Jp;have ML:∀r∈rr,bM (upd GW rw (.lst (aw rr))) r.1 r.2:=λr hr=>Ls _ _ (Ra r hr);have Us:upd GW rw (.lst (aw rr)) rw=some (.lst (aw rr)):=ak;have MN:=Lf.new (o:=.lst (aw rr)) Jp;have Pj:=(G3.trans Kf).new (o:=.lst (aw rr)) Jp;have QC:upd GW rw (.lst (aw rr)) pl=some (.lst (ps.map V.str)):=Ls _ _ (Kf.at Ml MO);generalize upd GW rw (.lst (aw rr))=HD at Ls ML Us MN Pj QC ⊢;refine⟨rw,rr.map λr=>(r.1,r.2.1),rfl,.inl (Gq.of (by rw [nQ];exact Us)),λy hy=>?_,by rw [B8];omega,?_,λXC q2 SH Vt He=>?_⟩
  ·obtain⟨x,hx,rfl⟩:=Cg.mp hy
   exact⟨_,ML x hx⟩
  ·rw [CH]
   exact D'.nodup
  obtain⟨HS,JT,Nd⟩:=mW (λr:Addr×Row=>(r.1,r.2.1)) XC _ SH;subst Nd;rw [nQ];have u0:=ao (o:=.lst (aw HS)) (ag.refl HD) He;have PL:upd HD q2 (.lst (aw HS)) q2=some (.lst (aw HS)):=ak;generalize upd HD q2 (.lst (aw HS))=Li at u0 PL ⊢;refine⟨_,rfl,pl,_,rfl,.inl ⟨Gq.of (u0 _ _ QC),λpa IU=>?_⟩⟩;have u1:=ao (o:=.tup (ps.map V.str)) (ag.refl Li) IU;have Wm:upd Li pa (.tup (ps.map V.str)) pa=some (.tup (ps.map V.str)):=ak;generalize upd Li pa (.tup (ps.map V.str))=LS at u1 Wm ⊢;refine⟨_,rfl,q2,_,rfl,.inl ⟨Gq.of (u1 _ _ PL),λra HV=>?_⟩⟩;have u2:=ao (o:=.tup (aw HS)) (ag.refl LS) HV;have Wl:upd LS ra (.tup (aw HS)) ra=some (.tup (aw HS)):=ak;generalize upd LS ra (.tup (aw HS))=LR at u2 Wl ⊢;refine⟨by show 2<=sizeLine;decide,λu hu=>?_⟩;have u3:=ao (o:=.tup [.ref pa,.ref ra]) (ag.refl LR) hu;have Wk:upd LR u (.tup [.ref pa,.ref ra]) u=some (.tup [.ref pa,.ref ra]):=ak;generalize upd LR u (.tup [.ref pa,.ref ra])=LQ at u3 Wk ⊢;refine⟨_,rfl,by show 2<=sizeLine;decide,λv hv=>?_⟩;have u4:=ao (o:=.tup [.ref u,.str root]) (ag.refl LQ) hv;have Rg:=u0.trans (u1.trans (u2.trans (u3.trans u4)));refine k v u pa ra root ps HS _ (MN.keep λo e=>Rg _ _ e) ak ⟨u4 _ _ Wk,u4 _ _ (u3 _ _ (u2 _ _ Wm)),u4 _ _ (u3 _ _ Wl),λx hx=>Rg _ _ (ML x (JT.mem_iff.mp hx))⟩ ⟨?_,Ob,XN,λr hr=>?_,?_,by omega,?_⟩ (by omega) (by rw [JT.length_eq];omega) Gr (λz=>D.qq (Hf.mem_iff.mp z)) (λz=>D'.qq ((JT.map _).mem_iff.mp z)) (Pj.of_same Rg)
  ·intro z;rw [z] at Oc;simp at Oc;omega
  ·obtain⟨x,hx,rfl⟩:=Cg.mp hr
   have Vi:=JT.mem_iff.mp hx;obtain⟨y1,y2,y3⟩:=Ro x Vi;exact⟨D'.name (by rw [GA,B8];omega) _ (Co (f:=λz:Addr×Row=>z.2.1) Vi),y1,y2,y3⟩
  ·rw [CH] at Vt ⊢;exact Vt
  ·rw [B8,JT.length_eq];omega
end K85
namespace L2
open PySem PyProof.Rows
section
variable {X:Cx}
def Aj (K:zz7):V->V->Hp->VK->Prop:=λx y H Q=>∃p xs i v,x=.ref p/\y=.int i/\Gq K H p xs/\0<=i/\xs[i.toNat]?=some v/\Q v H
theorem oj:rY X (Aj X.K):=by
 intro pins s σ H x y v u Q I rx ry h;obtain⟨p,xs,i,z,rfl,rfl,hq,h0,he,q⟩:=h;cases rx;obtain⟨t,rfl⟩:=ry;obtain⟨Gm,r,pl,hz⟩:=I.list hq;obtain⟨w,ew,Hl⟩:=r.get he;have hl:=r.length;have GO:i.toNat < xs.length:=(Ca.mp he).1;have hn:=fO;exact wpAny_getItem_list pl.isList h0 (by omega) (by simpa using ew) ⟨z,H,I,Hl,q⟩
theorem uG:cC X (.builtin "len") (λxs H Q=>∃a kvs,xs=[V.ref a]/\Rd H a (.dK kvs)/\Q (.int kvs.length) H):=by
 intro pins s σ H xs us Q I r h;obtain⟨a,kvs,rfl,ha,q⟩:=h;obtain⟨u,rfl,ru⟩:=vals1 r;cases ru;exact rB I ha λt s' I'=>⟨.int kvs.length,H,I',⟨t,rfl⟩,q⟩
theorem pq {x:Int}{n:Nat} (h:x.natAbs < 2 ^ n):Builtin.Int.intBits x<=n:=by
 unfold Builtin.Int.intBits;split
 ·exact Cz _
 ·rename_i h0
  have:x.natAbs≠0:=λz=>h0 (by simpa using Int.natAbs_eq_zero.mp z);have:=(Nat.log2_lt this).mpr h;omega
def BB (i j:Int):Prop:=i.natAbs < 2 ^ 3000/\j.natAbs < 2 ^ 3000
theorem kQ:GT X (binaryOp .Mult) (rI BB λi j=>.int (i * j)):=MT λ_ _ _ _ _ _ _ hc q=>mul_int q (IntMulOk.of_bits (CB (pq hc.1) (by decide)) (CB (pq hc.2) (by decide)))
def Ao (i j:Int):Prop:=j≠0/\j.natAbs < 2 ^ 3000
theorem wQ:GT X (binaryOp .FloorDiv) (rI Ao λi j=>.int (i.fdiv j)):=MT λi j _ _ _ _ _ hc q=>by
 have h2:j.natAbs < 2 ^ 9000:=CC hc.2 (Nat.pow_le_pow_right (by decide) (by decide));exact floordiv_int hc.1 q (.inl (PyProof.noPylong_of_log2 ((Nat.log2_lt (by have:=hc.1;omega)).mpr h2)))
end
theorem vn {K:zz7}{D:Addr}{g:TG}{tk tv:TE}{σ':St}{fin:Hp->Prop}{H1:Hp}{a:Addr}{xs:List V} (Pv:Nat->St->Hp->Prop) (h0:Pv 0 σ' H1) (hl:∀i σ H,i<=xs.length->Pv i σ H->Gq K H a xs)
  (hs:∀i x σ H T,xs[i]?=some x->Pv i σ H->H T=none->g (.ref T) σ (upd H T (.tup [.int i,x])) λσ2 H2=>tk σ2 H2 (λy H4=>tv σ2 H4 λv H5=>∃H6,lG H5 D y v H6/\Pv (i + 1) σ2 H6))
  (hd:∀σ H,Pv xs.length σ H->fin H):lQ D (Pn K a) g cu tk tv σ' fin H1:=by
 refine⟨λi m σ H=>m=xs.length - i/\i<=xs.length/\Pv i σ H,⟨xs.length,by simp,Cz _,h0⟩,?_⟩;rintro i m σ H ⟨rfl,hi,p⟩;have q1:=hl i σ H hi p
 by_cases h:i < xs.length
 ·refine .inr ⟨⟨xs,xs[i],q1,by simp [h]⟩,λσ' H'=>Pv (i + 1) σ' H',λσ' H' z=>⟨xs.length - (i + 1),by omega,rfl,h,z⟩,?_⟩
  rintro v H' ⟨T,x,rfl,hT,rfl,e1⟩;simpa [cu] using hs i x σ H T (e1 xs q1) p hT
 ·have e:i=xs.length:=by omega
  subst e;exact .inl ⟨⟨xs,q1,Cc _⟩,hd σ H p⟩
theorem uP {K:zz7}{g:TG}{tt:TT}{te:TE}{σ':St}{fin:List V->Hp->Prop}{H1:Hp}{a:Addr}{xs:List V} (hn:xs.length < sizeLine) (Pv:Nat->List V->St->Hp->Prop) (h0:Pv 0 [] σ' H1)
  (hl:∀i zs σ H,i<=xs.length->Pv i zs σ H->zs.length<=i/\Gq K H a xs)
  (hs:∀i x zs σ H T,xs[i]?=some x->Pv i zs σ H->H T=none->g (.ref T) σ (upd H T (.tup [.int i,x])) λσ2 H2=>tt σ2 H2 λb H3=>if b=true then te σ2 H3 (λv H4=>Pv (i + 1) (zs++[v]) σ2 H4) else Pv (i + 1) zs σ2 H3)
  (hd:∀zs σ H,Pv xs.length zs σ H->fin zs H):HC (Pn K a) g tt te σ' fin H1:=by
 refine⟨λi m zs σ H=>m=xs.length - i/\i<=xs.length/\Pv i zs σ H,⟨xs.length,by simp,Cz _,h0⟩,?_⟩;rintro i m zs σ H ⟨rfl,hi,p⟩;obtain⟨q0,q1⟩:=hl i zs σ H hi p
 by_cases GO:i < xs.length
 ·refine .inr ⟨⟨xs,xs[i],q1,by simp [GO]⟩,by omega,λJB σ2 H2=>Pv (i + 1) JB σ2 H2,λJB σ2 H2 q=>⟨xs.length - (i + 1),by omega,rfl,GO,q⟩,λv H' y=>?_⟩
  obtain⟨T,x,rfl,hT,rfl,e1⟩:=y;exact hs i x zs σ H T (e1 xs q1) p hT
 ·have e:i=xs.length:=by omega
  subst e;exact .inl ⟨⟨xs,q1,Cc _⟩,by omega,hd zs σ H p⟩
theorem xE {K:zz7}{g:TG}{te:TE}{σ':St}{fin:List V->Hp->Prop}{H1:Hp}{a b:Addr}{xs ys:List V} (he:xs.length=ys.length) (hn:xs.length < sizeLine) (Pv:Nat->List V->St->Hp->Prop) (h0:Pv 0 [] σ' H1)
  (hl:∀i zs σ H,i<=xs.length->Pv i zs σ H->zs.length<=i/\Gp K H a xs/\Gp K H b ys)
  (hs:∀i x y zs σ H T,xs[i]?=some x->ys[i]?=some y->Pv i zs σ H->H T=none->g (.ref T) σ (upd H T (.tup [x,y])) λσ2 H2=>te σ2 H2 (λv H4=>Pv (i + 1) (zs++[v]) σ2 H4))
  (hd:∀zs σ H,Pv xs.length zs σ H->fin zs H):HC (Uc K a b) g cu te σ' fin H1:=by
 refine⟨λi m zs σ H=>m=xs.length - i/\i<=xs.length/\Pv i zs σ H,⟨xs.length,by simp,Cz _,h0⟩,?_⟩;rintro i m zs σ H ⟨rfl,hi,p⟩;obtain⟨q0,q1,q2⟩:=hl i zs σ H hi p
 by_cases h:i < xs.length
 ·refine .inr ⟨⟨xs,ys,xs[i],ys[i],q1,q2,B7 h,B7 (by omega)⟩,by omega,λJB σ' H'=>Pv (i + 1) JB σ' H',λJB σ' H' z=>⟨xs.length - (i + 1),by omega,rfl,h,z⟩,?_⟩
  rintro v H' ⟨T,x,y,rfl,hT,rfl,hx,hy⟩;simpa [cu] using hs i x y zs σ H T (hx xs q1) (hy ys q2) p hT
 ·have e:i=xs.length:=by omega
  subst e;exact .inl ⟨⟨xs,q1,Cc _⟩,by omega,hd zs σ H p⟩
theorem xY {K:zz7}{g:TG}{te:TE}{σ':St}{fin:List V->Hp->Prop}{H1:Hp}{a b:Addr}{xs ys:List V} (he:xs.length=ys.length) (hn:xs.length < sizeLine) (Pv:Nat->List V->St->Hp->Prop) (h0:Pv 0 [] σ' H1)
  (hl:∀i zs σ H,i<=xs.length->Pv i zs σ H->zs.length<=i/\Gq K H a xs/\Gq K H b ys)
  (hs:∀i x y zs σ H T,xs[i]?=some x->ys[i]?=some y->Pv i zs σ H->H T=none->g (.ref T) σ (upd H T (.tup [x,y])) λσ2 H2=>te σ2 H2 (λv H4=>Pv (i + 1) (zs++[v]) σ2 H4))
  (hd:∀zs σ H,Pv xs.length zs σ H->fin zs H):HC (QG K a b) g cu te σ' fin H1:=by
 have hm:min xs.length ys.length=xs.length:=by omega
 exact yC (by omega) Pv h0 (λi zs σ H hi p=>hl i zs σ H (by omega) p) (λi x y zs σ H T e1 e2 p hT=>by simpa [cu] using hs i x y zs σ H T e1 e2 p hT) (λzs σ H p=>hd zs σ H (hm ▸ p))
theorem gI (xs:List V):ce xs (some 1) none=xs.drop 1:=by
 unfold ce;rw [HT.BK,show (1:Int)=((1:Nat):Int) from rfl,HT.BN]
 rcases F9 1 xs.length with h | h
 ·rw [EG h,Df (by simp)]
 ·rw [Gd h,List.drop_length,List.drop_of_length_le h];simp
theorem uj {g:TG}{te:TE}{σ':St}{fin:List V->Hp->Prop}{H1:Hp}{a:Addr}{o:Obj}{kvs:List (Key×V)} (hn:kvs.length < sizeLine) (Pv:Nat->List V->St->Hp->Prop) (h0:Pv 0 [] σ' H1) (hl:∀i ys σ H,i<=kvs.length->Pv i ys σ H->ys.length<=i/\H a=some (.frz o (.dK kvs)))
  (hs:∀i p ys σ H,kvs[i]?=some p->Pv i ys σ H->g (kV p.1) σ H λσ2 H2=>te σ2 H2 (λv H4=>Pv (i + 1) (ys++[v]) σ2 H4)) (hd:∀ys σ H,Pv kvs.length ys σ H->fin ys H):HC (QI a o) g cu te σ' fin H1 :=
 vy hn Pv h0 hl (λi p ys σ H e q=>by simpa [cu] using hs i p ys σ H e q) hd
end L2
namespace DT
def sm:Nat->(Nat->Int)->Int
 | 0,_=>0
 | n + 1,f=>sm n f + f n
def sg (i:Nat):Int:=if i % 2=0 then 1 else -1
def skip (i r:Nat):Nat:=if r < i then r else r + 1
abbrev Mx:=Nat->Nat->Int
def dt:Nat->Mx->Int
 | 0,_=>1
 | n + 1,M=>sm (n + 1) λi=>sg i * M i 0 * dt n (λr c=>M (skip i r) (c + 1))
theorem fI (i:Nat):sg (i + 1)=- sg i:=by
 unfold sg
 rcases Nat.mod_two_eq_zero_or_one i with h | h
 ·rw [if_neg (by omega),if_pos h]
 ·rw [if_pos (by omega),if_neg (by omega)];rfl
theorem AO (i:Nat):sg i * sg i=1:=by
 unfold sg;split <;> rfl
theorem gr {n:Nat}{f g:Nat->Int} (h:∀i,i < n->f i=g i):sm n f=sm n g:=by
 induction n with
 | zero=>rfl
 | succ n ih=>rw [sm,sm,ih λi hi=>h i (by omega),h n (by omega)]
theorem gx {n:Nat}{f:Nat->Int} (h:∀i,i < n->f i=0):sm n f=0:=by
 induction n with
 | zero=>rfl
 | succ n ih=>rw [sm,ih λi hi=>h i (by omega),h n (by omega)];rfl
theorem lC (n:Nat) (f g:Nat->Int) (a b:Int):sm n (λi=>a * f i + b * g i)=a * sm n f + b * sm n g:=by
 induction n with
 | zero=>simp [sm]
 | succ n ih=>simp only [sm];rw [ih];grind
theorem pW (n:Nat) (f:Nat->Int) (a:Int):sm n (λi=>a * f i)=a * sm n f:=by
 induction n with
 | zero=>simp [sm]
 | succ n ih=>simp only [sm];rw [ih];grind
theorem gu {n k:Nat} (hk:k<=n) (f:Nat->Int):sm (n + 1) f=f k + sm n (λi=>f (skip k i)):=by
 induction n with
 | zero =>
  have:k=0:=by omega
  subst this;simp [sm]
 | succ n ih =>
  by_cases c:k=n + 1
  ·subst c
   have e:sm (n + 1) (λi=>f (skip (n + 1) i))=sm (n + 1) f:=gr λi hi=>by simp [skip,hi]
   rw [e,sm];omega
  ·have e:=ih (by omega)
   rw [sm,e,sm];have:skip k n=n + 1:=by unfold skip;rw [if_neg (by omega)]
   rw [this];omega
theorem bP {n:Nat}{M N:Mx} (h:∀r c,r < n->c < n->M r c=N r c):dt n M=dt n N:=by
 induction n generalizing M N with
 | zero=>rfl
 | succ n ih =>
  rw [dt,dt];refine gr λi hi=>?_;rw [h i 0 hi (by omega),ih λr c hr hc=>h _ _ (by unfold skip;split <;> omega) (by omega)]
theorem qW {n k:Nat} (hk:k < n) {M A B:Mx} (a b:Int) (hA:∀r c,r < n->c < n->r≠k->A r c=M r c) (hB:∀r c,r < n->c < n->r≠k->B r c=M r c) (h:∀c,c < n->M k c=a * A k c + b * B k c) :
  dt n M=a * dt n A + b * dt n B:=by
 induction n generalizing M A B k with
 | zero=>omega
 | succ n ih =>
  rw [dt,dt,dt,<- lC];refine gr λi hi=>?_
  by_cases c:i=k
  ·subst c
   have e1:dt n (λr c=>A (skip i r) (c + 1))=dt n (λr c=>M (skip i r) (c + 1)):=bP λr c hr hc=>hA _ _ (by unfold skip;split <;> omega) (by omega) (by unfold skip;split <;> omega);have e2:dt n (λr c=>B (skip i r) (c + 1))=dt n (λr c=>M (skip i r) (c + 1)):=bP λr c hr hc=>hB _ _ (by unfold skip;split <;> omega) (by omega) (by unfold skip;split <;> omega);rw [e1,e2,h 0 (by omega)]
   grind
  ·obtain⟨k',MD,e⟩:∃k',k' < n/\skip i k'=k:=by
    by_cases d:k < i
    ·exact⟨k,by omega,by simp [skip,d]⟩
    ·exact⟨k - 1,by omega,by unfold skip;rw [if_neg (by omega)];omega⟩
   have GQ:∀r,r≠k'->skip i r≠k:=λr hr z=>hr (by rw [<- e] at z;unfold skip at z;split at z <;> split at z <;> omega);have q:=ih (k:=k') MD (M:=λr c=>M (skip i r) (c + 1)) (A:=λr c=>A (skip i r) (c + 1)) (B:=λr c=>B (skip i r) (c + 1))
    (λr c hr hc MB=>hA _ _ (by unfold skip;split <;> omega) (by omega) (GQ r MB)) (λr c hr hc MB=>hB _ _ (by unfold skip;split <;> omega) (by omega) (GQ r MB)) (λc hc=>by simp only [e];exact h _ (by omega))
   rw [q,hA i 0 hi (by omega) c,hB i 0 hi (by omega) c]
   grind
theorem p9 {n k:Nat} (hk:k + 1 < n) {M:Mx} (h:∀c,c < n->M k c=M (k + 1) c):dt n M=0:=by
 induction n generalizing M k with
 | zero=>omega
 | succ n ih =>
  rw [dt,gu (k:=k) (by omega)];obtain⟨m,rfl⟩:∃m,n=m + 1:=⟨n - 1,by omega⟩
  rw [gu (k:=k) (by omega)];have e1:skip k k=k + 1:=by simp [skip]
  rw [e1];have e2:dt (m + 1) (λr c=>M (skip (k + 1) r) (c + 1))=dt (m + 1) (λr c=>M (skip k r) (c + 1)):=bP λr c hr hc=>by
   by_cases d:r=k
   ·subst d
    rw [show skip (r + 1) r=r by simp [skip],show skip r r=r + 1 by simp [skip]];exact h _ (by omega)
   ·have:skip (k + 1) r=skip k r:=by unfold skip;split <;> split <;> omega
    rw [this]
  rw [e2,fI,<- h 0 (by omega)];have z:sm m (λi=>sg (skip k (skip k i)) * M (skip k (skip k i)) 0 * dt (m + 1) (λr c=>M (skip (skip k (skip k i)) r) (c + 1)))=0:=gx λi hi=>by
   generalize hj:skip k (skip k i)=j;have ME:j < m + 2/\j≠k/\j≠k + 1:=by
    unfold skip at hj
    grind
   obtain⟨k',MD,e1,e2⟩:∃k',k' + 1 < m + 1/\skip j k'=k/\skip j (k' + 1)=k + 1:=by
    by_cases d:k < j
    ·exact⟨k,by omega,by simp [skip,d],by unfold skip;rw [if_pos (by omega)]⟩
    ·exact⟨k - 1,by omega,by unfold skip;rw [if_neg (by omega)];omega,by unfold skip;rw [if_neg (by omega)];omega⟩
   rw [ih (k:=k') MD λc hc=>by simp only [e1,e2];exact h _ (by omega)];exact FB _
  rw [z]
  grind
def bo (M:Mx) (k:Nat) (u:Nat->Int):Mx:=λr c=>if r=k then u c else M r c
theorem ic {n k:Nat} (hk:k < n) (M:Mx) (u v:Nat->Int) (a b:Int):dt n (bo M k λc=>a * u c + b * v c)=a * dt n (bo M k u) + b * dt n (bo M k v) :=
 qW hk a b (λr c _ _ h=>by simp [bo,h]) (λr c _ _ h=>by simp [bo,h]) λc _=>by simp [bo]
def Hv (k l r:Nat):Nat:=if r=k then l else if r=l then k else r
theorem mC {n k l:Nat} (hk:k < n) (hl:l < n) (JW:k≠l) (al:∀N:Mx,(∀c,c < n->N k c=N l c)->dt n N=0) (M:Mx):dt n (λr c=>M (Hv k l r) c)=- dt n M:=by
 have h0:=al (bo (bo M k λc=>1 * M k c + 1 * M l c) l λc=>1 * M k c + 1 * M l c) λc _=>by simp [bo,JW]
 rw [ic hl] at h0;have sw:∀(u v:Nat->Int),bo (bo M k u) l v=bo (bo M l v) k u:=λu v=>by
  funext r c
  unfold bo
  by_cases a:r=k
  ·subst a;simp [JW]
  ·simp [a]
 rw [sw,sw,ic hk,ic hk] at h0;have z1:dt n (bo (bo M l λc=>M k c) k λc=>M k c)=0:=al _ λc _=>by simp [bo,Dy JW]
 have z2:dt n (bo (bo M l λc=>M l c) k λc=>M l c)=0:=al _ λc _=>by simp [bo,Dy JW]
 have e1:bo (bo M l λc=>M k c) k (λc=>M l c)=λr c=>M (Hv k l r) c:=by
  funext r c
  unfold bo Hv
  by_cases a:r=k
  ·simp [a]
  ·by_cases b:r=l
   ·subst b;simp [a]
   ·simp [a,b]
 have e2:bo (bo M l λc=>M l c) k (λc=>M k c)=M:=by
  funext r c
  unfold bo
  by_cases a:r=k
  ·simp [a]
  ·by_cases b:r=l
   ·subst b;simp [a]
   ·simp [a,b]
 rw [z1,z2,e1,e2] at h0
 grind
theorem qK {n k l:Nat} (JW:k < l) (hl:l < n) {M:Mx} (h:∀c,c < n->M k c=M l c):dt n M=0:=by
 obtain⟨d,rfl⟩:∃d,l=k + 1 + d:=⟨l - k - 1,by omega⟩
 clear JW
 induction d generalizing M with
 | zero=>exact p9 hl h
 | succ d ih =>
  have sw:=mC (n:=n) (k:=k + 1 + d) (l:=k + 1 + (d + 1)) (by omega) hl (by omega) (λN hN=>p9 (k:=k + 1 + d) hl hN) M;have z:=ih (M:=λr c=>M (Hv (k + 1 + d) (k + 1 + (d + 1)) r) c) (by omega) λc hc=>by
   have e1:Hv (k + 1 + d) (k + 1 + (d + 1)) k=k:=by unfold Hv;rw [if_neg (by omega),if_neg (by omega)]
   have e2:Hv (k + 1 + d) (k + 1 + (d + 1)) (k + 1 + d)=k + 1 + (d + 1):=by simp [Hv]
   simp only [e1,e2];exact h c hc
  omega
theorem kY {n k l:Nat} (JW:k≠l) (hk:k < n) (hl:l < n) {M:Mx} (h:∀c,c < n->M k c=M l c):dt n M=0:=by
 rcases EM JW with c | c
 ·exact qK c hl h
 ·exact qK c hk λx hx=>(h x hx).symm
theorem xl {n k l:Nat} (hk:k < n) (hl:l < n) (JW:k≠l) (M:Mx):dt n (λr c=>M (Hv k l r) c)=- dt n M :=
 mC hk hl JW (λN hN=>kY JW hk hl hN) M
theorem oE (n:Nat) (a:Int) (M:Mx):dt n (λr c=>a * M r c)=a ^ n * dt n M:=by
 induction n generalizing M with
 | zero=>simp [dt]
 | succ n ih =>
  rw [dt,dt,<- pW];refine gr λi hi=>?_;rw [ih,Ge]
  grind
theorem oU {n:Nat}{M:Mx} (h:∀r,r < n + 1->M r 0=0):dt (n + 1) M=0:=by
 rw [dt];exact gx λi hi=>by rw [h i hi];simp
def cond (M:Mx):Mx:=λr c=>M 0 0 * M (r + 1) (c + 1) - M (r + 1) 0 * M 0 (c + 1)
def cD (M:Mx) (k:Nat):Mx:=λr c=>if 0 < r/\r<=k then M 0 0 * M r c - M r 0 * M 0 c else M r c
theorem nX (n:Nat) (M:Mx):∀k,k<=n->dt (n + 1) (cD M k)=M 0 0 ^ k * dt (n + 1) M
 | 0,_=>by
  rw [show cD M 0=M by funext r c;unfold cD;rw [if_neg (by omega)]];simp
 | k + 1,hk=>by
  have ih:=nX n M k (by omega);have z:dt (n + 1) (bo (cD M k) (k + 1) λc=>M 0 c)=0:=kY (k:=0) (l:=k + 1) (by omega) (by omega) (by omega) λc _=>by simp [bo,cD]
  rw [qW (k:=k + 1) (by omega) (A:=cD M k) (B:=bo (cD M k) (k + 1) λc=>M 0 c) (M 0 0) (- M (k + 1) 0),ih,z,Ge]
  ·grind
  ·intro r c _ _ hr
   unfold cD
   by_cases a:0 < r/\r<=k
   ·rw [if_pos a,if_pos (by omega)]
   ·rw [if_neg a,if_neg (by omega)]
  ·intro r c _ _ hr
   unfold bo;rw [if_neg hr];unfold cD
   by_cases a:0 < r/\r<=k
   ·rw [if_pos a,if_pos (by omega)]
   ·rw [if_neg a,if_neg (by omega)]
  ·intro c _
   unfold bo cD;rw [if_pos (by omega),if_neg (by omega),if_pos rfl]
   grind
theorem sQ (n:Nat) (M:Mx):M 0 0 ^ n * dt (n + 1) M=M 0 0 * dt n (cond M):=by
 rw [<- nX n M n (Cc _),dt,gu (k:=0) (by omega)];have z:sm n (λi=>sg (skip 0 i) * cD M n (skip 0 i) 0 * dt n (λr c=>cD M n (skip (skip 0 i) r) (c + 1)))=0:=gx λi hi=>by
  have:cD M n (skip 0 i) 0=0:=by
   rw [show skip 0 i=i + 1 by simp [skip]];unfold cD;rw [if_pos (by omega)]
   grind
  rw [this];simp
 have e:cD M n 0 0=M 0 0:=by simp [cD]
 have g:dt n (λr c=>cD M n (skip 0 r) (c + 1))=dt n (cond M):=bP λr c hr hc=>by
  rw [show skip 0 r=r + 1 by simp [skip]];unfold cD cond;rw [if_pos (by omega)]
 rw [z,e,g];simp [sg]
def bd (k i j:Nat) (M:Mx):Mx:=λr c=>M (if r < k then r else i) (if c < k then c else j)
theorem yI {k i j:Nat} (M:Mx):∀r c,cond (bd (k + 1) (i + 1) (j + 1) M) r c=bd k i j (cond M) r c:=λr c=>by
 unfold cond bd;have e1:∀r,(if r + 1 < k + 1 then r + 1 else i + 1)=(if r < k then r else i) + 1:=λr=>by split <;> split <;> omega
 have e2:∀r,(if r + 1 < k + 1 then r + 1 else j + 1)=(if r < k then r else j) + 1:=λr=>by split <;> split <;> omega
 rw [e1,e2];simp
theorem ma (n:Nat):∀(k:Nat) (M:Mx),(∀j,j<=k->dt j M≠0)->dt k M ^ n * dt (k + (n + 1)) M=dt (n + 1) (λi j=>dt (k + 1) (bd k (k + i) (k + j) M))
 | 0,M,_=>by
  have:dt 0 M=1:=rfl;rw [this];simp only [Int.one_pow,Int.one_mul,Nat.zero_add];refine bP λr c _ _=>?_;simp [dt,sm,sg,bd]
 | k + 1,M,h=>by
  have hp:M 0 0≠0:=by
   have:=h 1 (by omega);simpa [dt,sm,sg] using this
  generalize Ib:M 0 0=p at hp;have c1:∀m,p ^ m * dt (m + 1) M=p * dt m (cond M):=λm=>by rw [<- Ib];exact sQ m M
  have Hf:∀m:Nat,p ^ m≠0:=λm=>Int.pow_ne_zero hp;have ih:=ma n k (cond M) λj hj z=>by
   have:=c1 j;rw [z,FB] at this
   rcases Int.mul_eq_zero.mp this with q | q
   ·exact Hf _ q
   ·exact h (j + 1) (by omega) q
  have e1:dt (n + 1) (λi j=>p * dt (k + 1) (bd k (k + i) (k + j) (cond M)))=p ^ (n + 1) * dt (n + 1) (λi j=>dt (k + 1) (bd k (k + i) (k + j) (cond M))):=oE _ _ _;have e2:dt (n + 1) (λi j=>p * dt (k + 1) (bd k (k + i) (k + j) (cond M)))=dt (n + 1) (λi j=>p ^ (k + 1) * dt (k + 1 + 1) (bd (k + 1) (k + 1 + i) (k + 1 + j) M)):=bP λr c _ _=>by
   have q:=sQ (k + 1) (bd (k + 1) (k + r + 1) (k + c + 1) M);have e:bd (k + 1) (k + r + 1) (k + c + 1) M 0 0=p:=by simp [bd,Ib]
   rw [e,bP λr' c' _ _=>yI M r' c'] at q;rw [<- q,show k + 1 + r=k + r + 1 by omega,show k + 1 + c=k + c + 1 by omega]
  rw [e2,oE,<- ih] at e1;have c2:=c1 k;have c3:=c1 (k + (n + 1));rw [show k + 1 + (n + 1)=k + (n + 1) + 1 by omega];have key:p ^ ((k + 1) * (n + 1)) * (dt (k + 1) M ^ n * dt (k + (n + 1) + 1) M)=p ^ ((k + 1) * (n + 1)) * dt (n + 1) (λi j=>dt (k + 1 + 1) (bd (k + 1) (k + 1 + i) (k + 1 + j) M)):=by
   rw [Int.pow_mul,e1];have a1:p ^ (n + 1) * (dt k (cond M) ^ n * dt (k + (n + 1)) (cond M))=(p * dt k (cond M)) ^ n * (p * dt (k + (n + 1)) (cond M)):=by
    rw [Int.mul_pow,Ge];grind
   rw [a1,<- c2,<- c3,Int.mul_pow,<- Int.pow_mul,<- Int.pow_mul];have a2:(k + 1) * (n + 1)=k * n + (k + (n + 1)):=by grind
   rw [a2,Int.pow_add]
   grind
  exact Int.eq_of_mul_eq_mul_left (Hf _) key
def at2 (L:List (List Int)):Mx:=λr c=>(((L[r]?).getD [])[c]?).getD 0
def LK (last:Int):List (List Int)->List (List Int)
 | []=>[]
 | f::R=>R.map λrow=>List.zipWith (λa b=>Int.fdiv (a * f.headD 0 - row.headD 0 * b) last) row.tail f.tail
def KD (L:List (List Int)) (f:Nat):List (List Int):=(L.set 0 ((L[f]?).getD [])).set f ((L[0]?).getD [])
theorem zi {n:Nat}{f:Nat->Int}{b:Nat} (h:∀i,i < n->(f i).natAbs<=b):(sm n f).natAbs<=n * b:=by
 induction n with
 | zero=>simp [sm]
 | succ n ih =>
  have h1:=ih λi hi=>h i (by omega);have h2:=h n (by omega);rw [sm,Nat.succ_mul];have:=Int.natAbs_add_le (sm n f) (f n);omega
def Jx:Nat->Nat
 | 0=>1
 | n + 1=>(n + 1) * Jx n
theorem ly {b:Nat}:∀{n:Nat}{M:Mx},(∀r c,r < n->c < n->(M r c).natAbs<=b)->(dt n M).natAbs<=Jx n * b ^ n
 | 0,M,_=>by simp [dt,Jx]
 | n + 1,M,h=>by
  rw [dt];refine CB (zi (b:=b * (Jx n * b ^ n)) λi hi=>?_) (Nat.le_of_eq ?_)
  ·rw [Int.natAbs_mul,Int.natAbs_mul]
   have h1:(sg i).natAbs=1:=by unfold sg;split <;> rfl
   rw [h1,Nat.one_mul];exact FF (h i 0 hi (by omega)) (ly λr c hr hc=>h _ _ (by unfold skip;split <;> omega) (by omega))
  ·rw [Jx,Nat.pow_succ,Nat.mul_assoc]
   congr 1
   rw [Nat.mul_comm b,Nat.mul_assoc]
def HE (N:Nat) (M0:Mx) (L:List (List Int)) (sign last:Int):Prop :=
 ∃(Mc:Mx) (k:Nat),k + L.length=N/\(∀row∈L,row.length=L.length)/\(sign=1\/sign=-1)/\sign * dt N Mc=dt N M0/\last=dt k Mc/\(∀j,j<=k->dt j Mc≠0) /\
  (∀r,r < N->∃r',r' < N/\∀c,Mc r c=M0 r' c)/\∀i j,i < L.length->j < L.length->at2 L i j=dt (k + 1) (bd k (k + i) (k + j) Mc)
theorem HE.start {L:List (List Int)} (h:∀row∈L,row.length=L.length):HE L.length (at2 L) L 1 1 :=
 ⟨at2 L,0,by omega,h,.inl rfl,by omega,rfl,λj hj=>by
  cases j with
  | zero=>show (1:Int)≠0;decide
  | succ j=>omega,λr hr=>⟨r,hr,λ_=>rfl⟩,λi j _ _=>by simp [dt,sm,sg,bd]⟩
theorem HE.done {N:Nat}{M0:Mx}{sign last:Int} (h:HE N M0 [] sign last):sign * last=dt N M0:=by
 obtain⟨Mc,k,hk,_,hs,e,hl,_⟩:=h;simp at hk;subst hk;rw [hl];exact e
theorem HE.ne {N:Nat}{M0:Mx}{L:List (List Int)}{sign last:Int} (h:HE N M0 L sign last):last≠0:=by
 obtain⟨Mc,k,_,_,_,_,rfl,z,_⟩:=h;exact z k (Cc _)
theorem HE.zero {N:Nat}{M0:Mx}{L:List (List Int)}{sign last:Int} (h:HE N M0 L sign last) (GQ:L≠[]) (hz:∀r,r < L.length->at2 L r 0=0):dt N M0=0:=by
 obtain⟨Mc,k,hk,_,hs,e,hl,hd,_,hm⟩:=h;obtain⟨n,hn⟩:∃n,L.length=n + 1:=⟨L.length - 1,by have:=Ek.mpr GQ;omega⟩
 have s:=ma n k Mc hd;rw [show dt (n + 1) (λi j=>dt (k + 1) (bd k (k + i) (k + j) Mc))=dt (n + 1) (at2 L) from bP λr c hr hc=>(hm r c (by omega) (by omega)).symm,oU λr hr=>hz r (by omega),show k + (n + 1)=N by omega] at s
 rcases Int.mul_eq_zero.mp s with q | q
 ·exact absurd q (Int.pow_ne_zero (hd k (Cc _)))
 ·rw [<- e,q,FB]
theorem p4 {L:List (List Int)}{f:Nat} (hf:f < L.length) (h0:f≠0) {r:Nat} (hr:r < L.length) (c:Nat):at2 (KD L f) r c=at2 L (Hv 0 f r) c:=by
 unfold at2 KD Hv
 by_cases a:r=0
 ·subst a
  rw [DP (by omega),DH (by omega)];simp
 ·by_cases b:r=f
  ·subst b
   rw [DH (by simp;omega)];simp [a]
  ·rw [DP (by omega),DP (by omega)]
   simp [a,b]
theorem HE.swap {N:Nat}{M0:Mx}{L:List (List Int)}{sign last:Int} (h:HE N M0 L sign last) {f:Nat} (hf:f < L.length) (h0:f≠0):HE N M0 (KD L f) (-sign) last:=by
 obtain⟨Mc,k,hk,hr,hs,e,hl,hd,hp,hm⟩:=h;have Gs:(KD L f).length=L.length:=by simp [KD]
 have low:∀r,r < k->Hv k (k + f) r=r:=λr hr=>by unfold Hv;rw [if_neg (by omega),if_neg (by omega)]
 have VO:∀j,j<=k->dt j (λr c=>Mc (Hv k (k + f) r) c)=dt j Mc:=λj hj=>bP λr c hr _=>by rw [low r (by omega)]
 refine⟨λr c=>Mc (Hv k (k + f) r) c,k,by omega,λrow GD=>?_,by rcases hs with rfl | rfl;exact .inr rfl;exact .inl rfl,?_,?_,λj hj=>by rw [VO j hj];exact hd j hj,λr hr=>?_,λi j hi hj=>?_⟩
 ·rw [Gs]
  rcases Ec GD with q | q
  ·rcases Ec q with q | q
   ·exact hr row q
   ·rw [q,B7 hf]
    exact hr _ (Cu hf)
  ·rw [q,B7 (by omega:0 < L.length)]
   exact hr _ (Cu _)
 ·rw [xl (k:=k) (l:=k + f) (by omega) (by omega) (by omega),<- e]
  grind
 ·rw [hl,VO k (Cc _)]
 ·refine hp _ ?_
  unfold Hv;split
  ·omega
  ·split <;> omega
 ·rw [Gs] at hi hj
  rw [p4 hf h0 hi,hm _ j (by unfold Hv;split;omega;split <;> omega) hj];refine bP λr c _ _=>?_;unfold bd
  by_cases a:r < k
  ·simp only [if_pos a,low r a]
  ·simp only [if_neg a]
   rw [show Hv k (k + f) (k + i)=k + Hv 0 f i by unfold Hv;grind]
theorem yf {f:List Int}{R:List (List Int)}{last:Int}{n:Nat} (h:∀row∈f::R,row.length=n + 1) {i j:Nat} (hi:i < R.length) (hj:j < n) :
  at2 (LK last (f::R)) i j=Int.fdiv (at2 (f::R) (i + 1) (j + 1) * at2 (f::R) 0 0 - at2 (f::R) (i + 1) 0 * at2 (f::R) 0 (j + 1)) last:=by
 have h1:=h f Cf;have h2:=h R[i] (Cj _ (Cu hi));unfold at2 LK;simp only [List.getElem?_cons_succ,List.getElem?_cons_zero,Cd,B7 hi,D1,Fi];generalize R[i]=row at h2
 match f,row,h1,h2 with
 | a::f',b::r',h1,h2 =>
  simp at h1 h2;simp [List.getElem?_zipWith,B7 (show j < f'.length by omega),B7 (show j < r'.length by omega)]
theorem Ad (X:Mx):dt 2 X=X 0 0 * X 1 1 - X 1 0 * X 0 1:=by
 simp [dt,sm,sg,skip]
 grind
theorem HE.clear {N:Nat}{M0:Mx}{L:List (List Int)}{sign last:Int} (h:HE N M0 L sign last) (GQ:L≠[]) (hp:at2 L 0 0≠0):HE N M0 (LK last L) sign (at2 L 0 0):=by
 obtain⟨Mc,k,hk,hr,hs,e,hl,hd,hq,hm⟩:=h;cases L with
 | nil=>exact absurd rfl GQ
 | cons f R =>
  have Gs:(LK last (f::R)).length=R.length:=by simp [LK]
  have V3:at2 (f::R) 0 0=dt (k + 1) Mc:=by
   rw [hm 0 0 (by simp) (by simp)];refine bP λr c hr hc=>?_;unfold bd;have e1:(if r < k then r else k + 0)=r:=by split <;> omega
   have e2:(if c < k then c else k + 0)=c:=by split <;> omega
   rw [e1,e2]
  refine⟨Mc,k + 1,by rw [Gs];simp at hk;omega,λrow GD=>?_,hs,e,V3,λj hj=>?_,hq,λi j hi hj=>?_⟩
  ·rw [Gs]
   obtain⟨x,hx,rfl⟩:=Cg.mp GD;have:=hr x (Cj _ hx);have h1:=hr f Cf;simp at this h1;simp [this,h1]
  ·rcases Ei k j with c | c
   ·have:j=k + 1:=by omega
    subst this;rw [<- V3];exact hp
   ·exact hd j c
  ·rw [Gs] at hi hj
   rw [yf (n:=R.length) (λrow GD=>by rw [hr row GD];simp) hi hj];generalize hB:bd (k + 1) (k + 1 + i) (k + 1 + j) Mc=B;have low:∀r c,r < k + 1->c < k + 1->B r c=Mc r c:=λr c h1 h2=>by rw [<- hB];simp [bd,h1,h2]
   have s:=ma 1 k B λj' ME=>by
    rw [bP λr c hr hc=>low r c (by omega) (by omega)];exact hd j' ME
   rw [bP (n:=k) λr c hr hc=>low r c (by omega) (by omega),<- hl,Ad,Ge,Int.pow_zero,Int.one_mul] at s;have b00:dt (k + 1) (bd k (k + 0) (k + 0) B)=at2 (f::R) 0 0:=by
    rw [hm 0 0 (by simp) (by simp)];refine bP λr c _ _=>?_;unfold bd;exact low _ _ (by split <;> omega) (by split <;> omega)
   have b11:dt (k + 1) (bd k (k + 1) (k + 1) B)=at2 (f::R) (i + 1) (j + 1):=by
    rw [hm (i + 1) (j + 1) (by simp;omega) (by simp;omega)];refine bP λr c _ _=>?_;rw [<- hB];unfold bd;have e1:∀r i,(if (if r < k then r else k + 1) < k + 1 then (if r < k then r else k + 1) else k + 1 + i)=(if r < k then r else k + (i + 1)):=λr i=>by grind
    rw [e1,e1]
   have b10:dt (k + 1) (bd k (k + 1) (k + 0) B)=at2 (f::R) (i + 1) 0:=by
    rw [hm (i + 1) 0 (by simp;omega) (by simp)];refine bP λr c _ _=>?_;rw [<- hB];unfold bd;have e1:∀r i,(if (if r < k then r else k + 1) < k + 1 then (if r < k then r else k + 1) else k + 1 + i)=(if r < k then r else k + (i + 1)):=λr i=>by grind
    have e2:∀r i,(if (if r < k then r else k + 0) < k + 1 then (if r < k then r else k + 0) else k + 1 + i)=(if r < k then r else k + 0):=λr i=>by grind
    rw [e1,e2]
   have b01:dt (k + 1) (bd k (k + 0) (k + 1) B)=at2 (f::R) 0 (j + 1):=by
    rw [hm 0 (j + 1) (by simp) (by simp;omega)];refine bP λr c _ _=>?_;rw [<- hB];unfold bd;have e1:∀r i,(if (if r < k then r else k + 1) < k + 1 then (if r < k then r else k + 1) else k + 1 + i)=(if r < k then r else k + (i + 1)):=λr i=>by grind
    have e2:∀r i,(if (if r < k then r else k + 0) < k + 1 then (if r < k then r else k + 0) else k + 1 + i)=(if r < k then r else k + 0):=λr i=>by grind
    rw [e1,e2]
   rw [b00,b11,b10,b01] at s;have LH:last≠0:=by rw [hl];exact hd k (Cc _)
   rw [show at2 (f::R) (i + 1) (j + 1) * at2 (f::R) 0 0 - at2 (f::R) (i + 1) 0 * at2 (f::R) 0 (j + 1)=last * dt (k + 2) B by grind,Int.mul_fdiv_cancel_left _ LH]
theorem HE.small {N b:Nat}{M0:Mx}{L:List (List Int)}{sign last:Int} (h:HE N M0 L sign last) (hb:∀r c,r < N->c < N->(M0 r c).natAbs<=b) (b1:1<=b) (hN:N<=8) :
  last.natAbs<=Jx 8 * b ^ 8/\∀i j,i < L.length->j < L.length->(at2 L i j).natAbs<=Jx 8 * b ^ 8:=by
 obtain⟨Mc,k,hk,_,hs,e,hl,hd,hp,hm⟩:=h;have hc:∀r c,r < N->c < N->(Mc r c).natAbs<=b:=λr c hr hc=>by
  obtain⟨r',h1,h2⟩:=hp r hr;rw [h2];exact hb r' c h1 hc
 have up:∀n,n<=8->Jx n * b ^ n<=Jx 8 * b ^ 8:=λn hn=>by
  refine FF ?_ (Nat.pow_le_pow_right b1 hn);have:∀n,n < 9->Jx n<=Jx 8:=by decide
  exact this n (by omega)
 refine⟨?_,λi j hi hj=>?_⟩
 ·rw [hl]
  exact CB (ly λr c hr KW=>hc r c (by omega) (by omega)) (up k (by omega))
 ·rw [hm i j hi hj]
  refine CB (ly λr c hr KW=>?_) (up (k + 1) (by omega));unfold bd;exact hc _ _ (by split <;> omega) (by split <;> omega)
theorem rT {n b:Nat} (hb:b < n) {M:Mx} (h:∀r,r < n->M r b=0):dt n M=0:=by
 induction n generalizing M b with
 | zero=>omega
 | succ n ih =>
  cases b with
  | zero=>exact oU h
  | succ b =>
   rw [dt];refine gx λi hi=>?_;rw [ih (b:=b) (by omega) λr hr=>h _ (by unfold skip;split <;> omega)];exact FB _
theorem lp (a b:Nat):sg (a + b)=sg a * sg b:=by
 induction b with
 | zero=>simp [sg]
 | succ b ih=>rw [Nat.add_succ,fI,ih,fI];grind
theorem AD (b:Nat):∀{n a:Nat}{M:Mx},a<=n->b<=n->(∀r,r < n + 1->M r b=if r=a then 1 else 0)->dt (n + 1) M=sg (a + b) * dt n (λr c=>M (skip a r) (skip b c)):=by
 induction b with
 | zero =>
  intro n a M ha _ h;rw [dt,gu (k:=a) ha,h a (by omega),if_pos rfl]
  rw [gx λi hi=>by
   rw [h _ (by unfold skip;split <;> omega),if_neg (by unfold skip;split <;> omega)];simp]
  have e:(λr c=>M (skip a r) (skip 0 c))=λr c=>M (skip a r) (c + 1):=by funext r c;simp [skip]
  rw [e];simp
 | succ b ih =>
  intro n a M ha hb h;obtain⟨m,rfl⟩:∃m,n=m + 1:=⟨n - 1,by omega⟩
  rw [dt,gu (k:=a) ha,rT (b:=b) (by omega) λr hr=>by
   show M (skip a r) (b + 1)=0
   rw [h _ (by unfold skip;split <;> omega),if_neg (by unfold skip;split <;> omega)],dt,FB,Int.zero_add,<- pW]
  refine gr λi hi=>?_;obtain⟨a',M9,e1,e2,e3⟩:∃a',a'<=m/\skip (skip a i) a'=a/\(∀r,skip (skip a i) (skip a' r)=skip a (skip i r))/\sg (skip a i) * sg (a' + b)=sg (a + (b + 1)) * sg i:=by
   by_cases c:i < a
   ·refine⟨a - 1,by omega,by unfold skip;grind,λr=>by unfold skip;grind,?_⟩
    obtain⟨x,rfl⟩:∃x,a=x + 1:=⟨a - 1,by omega⟩
    rw [show skip (x + 1) i=i by simp [skip,c],show x + 1 - 1=x by omega,lp,lp,fI,fI];grind
   ·refine⟨a,by omega,by unfold skip;grind,λr=>by unfold skip;grind,?_⟩
    rw [show skip a i=i + 1 by simp [skip,c],fI,<- Nat.add_assoc,fI];grind
  rw [ih (n:=m) (a:=a') (M:=λr c=>M (skip (skip a i) r) (c + 1)) M9 (by omega) λr hr=>by
   show M (skip (skip a i) r) (b + 1)=_;rw [h _ (by unfold skip;split <;> split <;> omega)]
   by_cases c:r=a'
   ·rw [if_pos c,c,if_pos e1]
   ·rw [if_neg c,if_neg]
    intro z;rw [<- e1] at z
    revert z;unfold skip;grind]
  have e4:dt m (λr c=>M (skip (skip a i) (skip a' r)) (skip b c + 1))=dt m (λr c=>M (skip a (skip i r)) (skip (b + 1) (c + 1))):=bP λr c _ _=>by
   rw [e2,show skip (b + 1) (c + 1)=skip b c + 1 by unfold skip;grind]
  rw [e4,show skip (b + 1) 0=0 by simp [skip]]
  grind
theorem yN {n:Nat} (hn:0 < n) {M:Mx} (h:∀c,c < n->sm n (λr=>M r c)=0):dt n M=0:=by
 have key:∀k,k < n->dt n (bo M 0 λc=>sm (k + 1) λr=>M r c)=dt n M:=λk=>by
  induction k with
  | zero =>
   intro _;refine bP λr c _ _=>?_;unfold bo;split
   ·simp [sm];congr 1;omega
   ·rfl
  | succ k ih =>
   intro hk;have e:(λc=>sm (k + 1 + 1) λr=>M r c)=λc=>1 * (sm (k + 1) λr=>M r c) + 1 * M (k + 1) c:=by funext c;rw [sm];omega
   rw [e,ic hn,ih (by omega),kY (M:=bo M 0 λc=>M (k + 1) c) (k:=0) (l:=k + 1) (by omega) hn hk λc _=>by simp [bo]];omega
 obtain⟨m,rfl⟩:∃m,n=m + 1:=⟨n - 1,by omega⟩
 rw [<- key m (by omega)];have e:=ic (n:=m + 1) (k:=0) hn M (λ_=>0) (λ_=>0) 0 0;have z:dt (m + 1) (bo M 0 λc=>sm (m + 1) λr=>M r c)=dt (m + 1) (bo M 0 λc=>0 * (λ_=>(0:Int)) c + 0 * (λ_=>(0:Int)) c):=bP λr c _ hc=>by
  unfold bo;split
  ·show sm (m + 1) (λr=>M r c)=_
   rw [h c hc];rfl
  ·rfl
 rw [z,e];simp
theorem qv {n a:Nat} (h:a < n):sm n (λr=>if r=a then 1 else 0)=1:=by
 obtain⟨m,rfl⟩:∃m,n=m + 1:=⟨n - 1,by omega⟩
 rw [gu (k:=a) (by omega),if_pos rfl,gx λi _=>if_neg (by unfold skip;split <;> omega)];rfl
def Cm (f:Nat->Option Nat):Mx:=λr c=>(if r=c then 1 else 0) - (if f c=some r then 1 else 0)
def II (f:Nat->Option Nat):Nat->Option Nat->Option Nat
 | 0,o=>o
 | k + 1,o=>II f k (o.bind f)
theorem vZ (f:Nat->Option Nat) (k:Nat):II f k none=none:=by
 induction k with
 | zero=>rfl
 | succ k ih=>exact ih
theorem nU (f:Nat->Option Nat) (k:Nat):∀o,II f (k + 1) o=(II f k o).bind f:=by
 induction k with
 | zero=>intro o;rfl
 | succ k ih=>intro o;exact ih (o.bind f)
def eC (v u:Nat):Nat:=if u < v then u else u - 1
def G4 (v:Nat):Option Nat->Option Nat
 | none=>none
 | some u=>if u=v then none else some (eC v u)
def less (f:Nat->Option Nat) (v:Nat):Nat->Option Nat:=λc=>G4 v (f (skip v c))
theorem mK {v u:Nat} (h:u≠v):skip v (eC v u)=u:=by unfold skip eC;grind
theorem iW (v u:Nat):eC v (skip v u)=u:=by unfold skip eC;grind
theorem vW {f:Nat->Option Nat}{v:Nat} (hv:f v=none) (o:Option Nat):G4 v (o.bind f)=(G4 v o).bind (less f v):=by
 cases o with
 | none=>rfl
 | some u =>
  by_cases c:u=v
  ·subst c
   simp [hv,G4]
  ·show G4 v (f u)=_
   have:G4 v (some u)=some (eC v u):=by simp [G4,c]
   rw [this];show _=G4 v (f (skip v (eC v u)));rw [mK c]
theorem oR {f:Nat->Option Nat}{v:Nat} (hv:f v=none) (k:Nat):∀o,G4 v (II f k o)=II (less f v) k (G4 v o):=by
 induction k with
 | zero=>intro o;rfl
 | succ k ih =>
  intro o;show G4 v (II f k (o.bind f))=II (less f v) k ((G4 v o).bind (less f v));rw [ih,vW hv]
theorem vU {v:Nat}{o:Option Nat} (h:G4 v o=none):o=none\/o=some v:=by
 cases o with
 | none=>exact .inl rfl
 | some u =>
  by_cases c:u=v
  ·exact .inr (by rw [c])
  ·simp [G4,c] at h
theorem Ae (n:Nat):∀f:Nat->Option Nat,(∀v,v < n->∀u,f v=some u->u < n) ->
  (dt n (Cm f)=1/\∀v,v < n->II f n (some v)=none)\/(dt n (Cm f)=0/\∃v,v < n/\∀k,II f k (some v)≠none):=by
 induction n with
 | zero=>intro f _;exact .inl ⟨rfl,λv hv=>by omega⟩
 | succ n ih =>
  intro f hf
  by_cases hc:∃v,v < n + 1/\f v=none
  ·obtain⟨v,hv,fv⟩:=hc
   have e:dt (n + 1) (Cm f)=dt n (Cm (less f v)):=by
    rw [AD v (a:=v) (by omega) (by omega) λr _=>by simp [Cm,fv],lp,AO,Int.one_mul];refine bP λr c _ _=>?_;unfold Cm;have e1:(skip v r=skip v c) ↔ r=c:=⟨λz=>by rw [<- iW v r,z,iW],λz=>by rw [z]⟩
    have e2:f (skip v c)=some (skip v r) ↔ less f v c=some r:=by
     unfold less;cases hx:f (skip v c) with
     | none=>simp [G4]
     | some u =>
      by_cases q:u=v
      ·subst q
       simp [G4];unfold skip;split <;> omega
      ·simp only [G4,if_neg q,E3]
       exact⟨λz=>by rw [z,iW],λz=>by rw [<- z,mK q]⟩
    simp only [e1,e2]
   rw [e]
   rcases ih (less f v) λw hw u hu=>by
    unfold less at hu;cases hx:f (skip v w) with
    | none=>rw [hx] at hu;cases hu
    | some x =>
     rw [hx] at hu;have KO:=hf _ (by unfold skip;split <;> omega) x hx
     by_cases q:x=v
     ·simp [G4,q] at hu
     ·simp only [G4,if_neg q,E3] at hu
      rw [<- hu];unfold eC;split <;> omega with ⟨h1,h2⟩ | ⟨h1,w,hw,h2⟩
   ·refine .inl ⟨h1,λu hu=>?_⟩
    rw [nU];have q:G4 v (II f n (some u))=none:=by
     rw [oR fv]
     by_cases c:u=v
     ·subst c
      rw [show G4 u (some u)=none by simp [G4]];exact vZ _ _
     ·rw [show G4 v (some u)=some (eC v u) by simp [G4,c]]
      exact h2 _ (by unfold eC;split <;> omega)
    rcases vU q with z | z <;> rw [z]
    ·rfl
    ·exact fv
   ·refine .inr ⟨h1,skip v w,by unfold skip;split <;> omega,λk z=>?_⟩
    refine h2 k ?_;have q:=oR fv k (some (skip v w))
    rw [z,show G4 v (some (skip v w))=some w by
     rw [G4,if_neg (by unfold skip;split <;> omega),iW]] at q
    exact q.symm
  ·have hs:∀v,v < n + 1->∃u,u < n + 1/\f v=some u:=λv hv=>by
    cases e:f v with
    | none=>exact absurd ⟨v,hv,e⟩ hc
    | some u=>exact⟨u,hf v hv u e,rfl⟩
   refine .inr ⟨yN (by omega) λc KW=>?_,0,by omega,λk=>?_⟩
   ·obtain⟨u,hu,fu⟩:=hs c KW
    have e:(λr=>Cm f r c)=λr=>1 * (if r=c then 1 else 0) + (-1) * (if r=u then 1 else 0):=by
     funext r
     unfold Cm;rw [fu];have:(some u=some r) ↔ r=u:=by simp [eq_comm]
     simp only [this];omega
    rw [e,lC,qv KW,qv hu];rfl
   ·have:∀k v,v < n + 1->II f k (some v)≠none:=λk=>by
     induction k with
     | zero=>intro v _ z;cases z
     | succ k YR =>
      intro v hv z;obtain⟨u,hu,fu⟩:=hs v hv;exact YR u hu (by rw [<- fu];exact z)
    exact this k 0 (by omega)
theorem qx {n k:Nat} (hk:k < n) {M A B:Mx} (hA:∀r c,r < n->c < n->c≠k->A r c=M r c) (hB:∀r c,r < n->c < n->c≠k->B r c=M r c) (h:∀r,r < n->M r k=A r k + B r k):dt n M=dt n A + dt n B:=by
 induction n generalizing M A B k with
 | zero=>omega
 | succ n ih =>
  have e:dt (n + 1) A + dt (n + 1) B=1 * dt (n + 1) A + 1 * dt (n + 1) B:=by omega
  rw [e,dt,dt,dt,<- lC];refine gr λi hi=>?_;cases k with
  | zero =>
   have e1:dt n (λr c=>A (skip i r) (c + 1))=dt n (λr c=>M (skip i r) (c + 1)):=bP λr c hr hc=>hA _ _ (by unfold skip;split <;> omega) (by omega) (by omega);have e2:dt n (λr c=>B (skip i r) (c + 1))=dt n (λr c=>M (skip i r) (c + 1)):=bP λr c hr hc=>hB _ _ (by unfold skip;split <;> omega) (by omega) (by omega);rw [e1,e2,h i hi];grind
  | succ k =>
   rw [ih (k:=k) (by omega) (M:=λr c=>M (skip i r) (c + 1)) (A:=λr c=>A (skip i r) (c + 1)) (B:=λr c=>B (skip i r) (c + 1)) (λr c hr hc GQ=>hA _ _ (by unfold skip;split <;> omega) (by omega) (by omega)) (λr c hr hc GQ=>hB _ _ (by unfold skip;split <;> omega) (by omega) (by omega)) (λr hr=>h _ (by unfold skip;split <;> omega)),hA i 0 hi (by omega) (by omega),hB i 0 hi (by omega) (by omega)]
   grind
def setC (M:Mx) (k:Nat) (u:Nat->Int):Mx:=λr c=>if c=k then u r else M r c
theorem yD {α:Type}{n k:Nat} (hk:k < n) (M:Mx) (w:α->Nat->Int) (l:List α):dt n (setC M k λr=>(l.map λx=>w x r).sum)=(l.map λx=>dt n (setC M k (w x))).sum:=by
 induction l with
 | nil=>exact rT hk λr _=>by simp [setC]
 | cons x l ih =>
  rw [CD,DB,<- ih];exact qx hk (λr c _ _ h=>by simp [setC,h]) (λr c _ _ h=>by simp [setC,h]) λr _=>by simp [setC]
abbrev Ti:=Option Nat×Nat
def one (t:Ti) (r:Nat):Int:=(if r=t.2 then 1 else 0) - (if t.1=some r then 1 else 0)
def tab (E:List Ti):Mx:=λr c=>((E.filter λt=>t.2 == c).map λt=>one t r).sum
def Ln (g:Nat->Option Nat) (j:Nat) (o:Option Nat):Nat->Option Nat:=λc=>if c=j then o else g c
def Ji (E:List Ti):Nat->List (Nat->Option Nat)
 | 0=>[λ_=>none]
 | j + 1=>(E.filter λt=>t.2 == j).flatMap λt=>(Ji E j).map λg=>Ln g j t.1
def part (E:List Ti) (g:Nat->Option Nat) (j:Nat):Mx:=λr c=>if c < j then Cm g r c else tab E r c
theorem wV {α β:Type} (l:List α) (m:List β) (h:α->β->Int):(l.map λx=>(m.map λy=>h x y).sum).sum=(m.map λy=>(l.map λx=>h x y).sum).sum:=by
 induction l with
 | nil =>
  simp
  induction m with
  | nil=>rfl
  | cons y m ih=>simp [ih.symm]
 | cons x l ih =>
  rw [CD,DB,ih];clear ih
  induction m with
  | nil=>rfl
  | cons y m Ve =>
   simp only [CD,DB] at Ve ⊢;rw [<- Ve];omega
theorem v9 {α β:Type} (l:List α) (k:α->List β) (h:β->Int):((l.flatMap k).map h).sum=(l.map λx=>((k x).map h).sum).sum:=by
 induction l with
 | nil=>rfl
 | cons x l ih=>rw [List.flatMap_cons,CA,List.sum_append,CD,DB,ih]
theorem qX {n:Nat} (E:List Ti):∀j,j<=n->dt n (tab E)=((Ji E j).map λg=>dt n (part E g j)).sum
 | 0,_=>by
  simp only [Ji,CD,Fv,DB,List.sum_nil,Int.add_zero];exact bP λr c _ _=>by simp [part]
 | j + 1,hj=>by
  rw [qX E j (by omega),Ji,v9];have e:∀g,dt n (part E g j)=((E.filter λt=>t.2 == j).map λt=>dt n (part E (Ln g j t.1) (j + 1))).sum:=λg=>by
   have q:=yD (n:=n) (k:=j) (by omega) (part E g j) (λ(t:Ti) r=>one t r) (E.filter λt=>t.2 == j);have e1:setC (part E g j) j (λr=>((E.filter λt=>t.2 == j).map λt=>one t r).sum)=part E g j:=by
    funext r c
    unfold setC;split
    ·rename_i h;subst h;simp [part,tab]
    ·rfl
   rw [e1] at q;rw [q]
   congr 1
   refine Dx λt ht=>?_;have Y7:t.2=j:=by simpa using (Cr.mp ht).2
   congr 1
   funext r c
   unfold setC part
   by_cases h1:c=j
   ·subst h1
    rw [if_pos rfl,if_pos (by omega)];simp [one,Cm,Ln,Y7]
   ·rw [if_neg h1]
    by_cases h2:c < j
    ·rw [if_pos h2,if_pos (by omega)]
     simp [Cm,Ln,h1]
    ·rw [if_neg h2,if_neg (by omega)]
  have e2:((Ji E j).map λg=>dt n (part E g j))=(Ji E j).map λg=>((E.filter λt=>t.2 == j).map λt=>dt n (part E (Ln g j t.1) (j + 1))).sum:=Dx λg _=>e g;rw [e2,wV]
  congr 1
  refine Dx λt _=>?_;rw [CH];rfl
def Wz (n:Nat) (g:Nat->Option Nat):Prop:=∀v,v < n->∀u,g v=some u->u < n
theorem pS {n:Nat}{E:List Ti} (hE:∀t∈E,∀u,t.1=some u->u < n):∀j,∀g∈Ji E j,Wz n g
 | 0,g,hg=>by
  simp [Ji] at hg;subst hg;intro v _ u hu;cases hu
 | j + 1,g,hg=>by
  simp only [Ji,EA,Cg] at hg;obtain⟨t,ht,g0,ZC,rfl⟩:=hg;intro v hv u hu;unfold Ln at hu;split at hu
  ·exact hE t (Cr.mp ht).1 u hu
  ·exact pS hE j g0 ZC v hv u hu
def comes (n:Nat) (g:Nat->Option Nat):Bool:=(List.range n).all λv=>(II g n (some v)).isNone
theorem wK {n:Nat}{E:List Ti} (hE:∀t∈E,∀u,t.1=some u->u < n):dt n (tab E)=(((Ji E n).filter (comes n)).length:Int):=by
 rw [qX E n (Cc _)];have key:∀l:List (Nat->Option Nat),(∀g∈l,Wz n g)->(l.map λg=>dt n (part E g n)).sum=((l.filter (comes n)).length:Int):=λl=>by
  induction l with
  | nil=>intro _;rfl
  | cons g l ih =>
   intro h;have i1:=ih λx hx=>h x (Cj _ hx);have e:dt n (part E g n)=dt n (Cm g):=bP λr c _ hc=>by simp [part,hc]
   rw [CD,DB,i1,e]
   rcases Ae n g (h g Cf) with ⟨d,k⟩ | ⟨d,v,hv,k⟩
   ·have:comes n g=true:=by
     unfold comes;rw [CY];intro v hv;rw [k v (DC.mp hv)];rfl
    rw [d,DX,if_pos this,C5];omega
   ·have:comes n g=false:=by
     unfold comes;rw [E4];refine⟨v,DC.mpr hv,?_⟩;cases hx:II g n (some v) with
     | none=>exact absurd hx (k n)
     | some x=>simp
    rw [d,DX,if_neg (by simp [this])];omega
 exact key _ (pS hE n)
end DT
namespace K85
open PySem L2 DT
def Q9 (b:Bool) (xs:List V):HO:=if b=true then .lst xs else .tup xs
def bZ (H:Hp) (b:Bool) (r:Addr×List Int):Prop:=H r.1=some (Q9 b (r.2.map V.int))
abbrev aX (rs:List (Addr×List Int)):List V:=rs.map λr=>V.ref r.1
theorem bZ.same {H H':Hp}{b:Bool}{r:Addr×List Int} (h:bZ H b r) (s:ag H H'):bZ H' b r:=s _ _ h
theorem bZ.sq {K:zz7}{H:Hp}{b:Bool}{r:Addr×List Int} (h:bZ H b r):Sq K H r.1 (r.2.map V.int):=by
 cases b
 ·exact .inr (Gp.of h)
 ·exact .inl (Gq.of h)
def Ke (x:Int):Prop:=x.natAbs < 2 ^ 3000
theorem nat {ys:List Int}{i:Nat}{x:V} (h:(ys.map V.int)[i]?=some x):∃z,ys[i]?=some z/\x=.int z:=by
 rw [Cd] at h;cases e:ys[i]? with
 | none=>rw [e] at h;cases h
 | some z=>rw [e] at h;cases h;exact⟨z,rfl,rfl⟩
theorem oH (f:Int->Int->Int):∀(i:Nat) (a b:List Int) (x y:Int),a[i]?=some x->b[i]?=some y->List.zipWith f (a.take (i + 1)) (b.take (i + 1))=List.zipWith f (a.take i) (b.take i)++[f x y]
 | 0,a::as,b::bs,x,y,h1,h2=>by cases h1;cases h2;simp
 | i + 1,a::as,b::bs,x,y,h1,h2=>by
  simp only [List.take_succ_cons,List.zipWith_cons_cons,Ga];rw [oH f i as bs x y (by simpa using h1) (by simpa using h2)]
 | _,[],_,_,_,h1,_=>by simp at h1
 | _,_::_,[],_,_,_,h2=>by simp at h2
variable {P:Program}{w:World}{K:zz7}{mg:Str->Option zz9}{base:Heap}{f:Addr}{fd:FuncData}
abbrev eT (last:Int) (f row:List Int):List Int:=List.zipWith (λa b=>Int.fdiv (a * f.headD 0 - row.headD 0 * b) last) row.tail f.tail
def rh:Sp:=λvs H Q _=>∃(a:Addr) (last:Int) (b:Bool) (Gn:List (Addr×List Int)),vs=[.ref a,.int last]/\H a=some (.lst (aX Gn))/\(∀r∈Gn,bZ H b r)/\Gn≠[]/\(∀r∈Gn,r.2.length=Gn.length)/\Gn.length<=8/\last≠0/\Ke last /\
 (∀r∈Gn,∀x∈r.2,Ke x)/\∀(q:Addr) (Gx:List (Addr×List Int)) (H':Hp),ag H H'->H q=none->H' q=some (.lst (aX Gx))->(∀r∈Gx,bZ H' true r)->Gx.map (·.2)=LK last (Gn.map (·.2))->Q (.ref q) H'
abbrev N29:List Str:=["left","last","first","told","row"]
theorem jR:aV N29 ["left","last"] (aH (top 29)):=⟨rfl,rfl,rfl,by decide +kernel,rfl,by decide +kernel,by decide +kernel⟩
theorem uw (F:Gy K "cleared" "cleared" (top 29) f fd) (B:Bl mg):au P w K mg base GB 1 f fd ["left","last"] rh:=by
 refine F.ok jR (λvs H Q E h=>?_) (λ_ _ _ _ H vs Q E hr h=>?_)
 ·obtain⟨a,last,b,Gn,rfl,_⟩:=h
  rfl
 ·obtain⟨a,last,b,Gn,rfl,ha,Jp,GQ,Gs,h8,LH,VJ,hB,k⟩:=h
  refine⟨_,aj (aJ (i:=2) jR.nd rfl (Or.inr rfl) (aA aF (pv 0) ai (λ_ _=>rfl)))
   (aj (aJ (i:=3) jR.nd rfl (Or.inl rfl) (bD ae))
   (aj (cY C6 rfl (dr (cy ji (pv 0) (ck ai) cB)) (bt (i:=4) jR.nd rfl (Or.inr rfl))
    (aq (bp (c8 CQ C7 C8 dR (pv 3) (aa (bS (N:=["one","other","first","row","last"]) (ix:=[none,none,some 2,some 4,some 1]) ⟨rfl,rfl,rfl,by decide⟩ rfl
     (iw (zN rfl B.zip (aa (cy ji (pv 4) (ck ai) cB) (aa (cy ji (pv 2) (ck ai) cB) ae)))
      (AN rfl B.zip (aa (cy cW (pv 4) (ck ai) cB) (aa (cy cW (pv 2) (ck ai) cB) ae))))
     (λ_ _ _ _=>jr K rfl (n:=2) (bB (bj 0 (by decide) rfl rfl) (bB (bj 1 (by decide) rfl rfl) cX))) (λ_ _ _ _=>bR)
     (λ_ _ _ _=>aK wQ (aK fN (aK kQ (pv 0) (aA (b7 K) (pv 2) ai (λ_ _=>rfl))) (aK kQ (aA (b7 K) (pv 3) ai (λ_ _=>rfl)) (pv 1))) (pv 4))) ae)))))
   (aq (aG (pv 3))))),?_⟩
  cases Gn with
  | nil=>exact absurd rfl GQ
  | cons f0 R =>
  have S1:=Jp f0 Cf;have Hh:f0.2.length=R.length + 1:=Gs f0 Cf;have h7:R.length<=7:=by simp at h8;omega
  refine⟨_,rfl,aE (j:=0) (.inl (Gq.of ha)) rfl rfl ?_⟩;refine⟨Cz _,λq hq=>?_⟩;have s1:=ao (o:=.lst []) (ag.refl H) hq;have q1:upd H q (.lst []) q=some (.lst []):=ak;generalize upd H q (.lst [])=H1 at s1 q1 ⊢;refine⟨_,rfl,_,rfl,a,_,rfl,Gq.of (s1 _ _ ha),λp hp=>?_⟩;rw [gI];have Jn:q≠p:=bh q1 hp;have s2:=ao (o:=.lst (List.drop 1 (aX (f0::R)))) s1 hp;have q2:upd H1 p (.lst (List.drop 1 (aX (f0::R)))) q=some (.lst []):=by rw [av Jn];exact q1
  have p2:upd H1 p (.lst (List.drop 1 (aX (f0::R)))) p=some (.lst (aX R)):=by rw [ak];rfl
  generalize upd H1 p (.lst (List.drop 1 (aX (f0::R))))=H2 at s2 q2 p2 ⊢
  refine⟨p,rfl,⟨_,Gq.of p2⟩,i9 (K:=K) (a:=p) (xs:=aX R) (λi σ H3=>(∃Gx:List (Addr×List Int),Gx.map (·.2)=(R.take i).map (λr=>eT last f0.2 r.2)/\H3 q=some (.lst (aX Gx))/\∀r∈Gx,bZ H3 true r/\r.1≠q)/\ag H H3/\H3 p=some (.lst (aX R))/\∃g,σ=[some (.ref a),some (.int last),some (.ref f0.1),some (.ref q),g])
   ⟨⟨[],by simp,q2,by simp⟩,s2,p2,_,rfl⟩ (λi σ H3 _ z=>Gq.of z.2.2.1) ?_ ?_⟩
  ·rintro i x σ H3 hx ⟨⟨Gx,hm,OE,HI⟩,s3,p3,g,rfl⟩
   rw [Cd] at hx;obtain⟨row,GD,rfl⟩:∃row,R[i]?=some row/\x=.ref row.1:=by
    cases e:R[i]? with
    | none=>rw [e] at hx;cases hx
    | some z=>rw [e] at hx;cases hx;exact⟨z,rfl,rfl⟩
   have IA:i < R.length:=(Ca.mp GD).1;have Jq:row∈f0::R:=Cj _ (Cb GD);have Mu:row.2.length=R.length + 1:=Gs row Jq;have r3:=(Jp row Jq).same s3;have f3:=S1.same s3;refine⟨_,rfl,.inl ⟨rfl,_,Gq.of OE⟩,?_⟩;have fin:∀(zs:List V) (H4:Hp),zs=(eT last f0.2 row.2).map V.int->ag H3 H4->∀n,H4 n=none->∃l xs y,V.ref q=.ref l/\[V.ref n]=[y]/\upd H4 n (.lst zs) l=some (.lst xs)/\xs.length < sizeLine /\
     ((λσ H3=>(∃Gx:List (Addr×List Int),Gx.map (·.2)=(R.take (i + 1)).map (λr=>eT last f0.2 r.2)/\H3 q=some (.lst (aX Gx))/\∀r∈Gx,bZ H3 true r/\r.1≠q)/\ag H H3/\H3 p=some (.lst (aX R))/\∃g,σ=[some (.ref a),some (.int last),some (.ref f0.1),some (.ref q),g]):St->Hp->Prop)
      [some (.ref a),some (.int last),some (.ref f0.1),some (.ref q),some (.ref row.1)] (upd (upd H4 n (.lst zs)) l (.lst (xs++[y]))):=by
    rintro zs H4 rfl s4 n hn;have RF:n≠q:=(bh (s4 _ _ OE) hn).symm;have Jd:Gx.length=i:=by have:=congrArg List.length hm;simp at this;omega
    refine⟨q,aX Gx,_,rfl,rfl,by rw [av RF.symm];exact s4 _ _ OE,fits (by simp;omega),⟨Gx++[(n,eT last f0.2 row.2)],?_,by rw [ak];simp [aX],λr hr=>?_⟩,λb o e=>?_,?_,_,rfl⟩
    ·rw [CA,hm,Dd,GD,CA];rfl
    ·rcases Ck.mp hr with z | z
     ·obtain⟨z1,z2⟩:=HI r z
      refine⟨?_,z2⟩;show upd _ q _ r.1=_;rw [av z2,av (bh (s4 _ _ z1) hn)];exact s4 _ _ z1
     ·have e:r=(n,eT last f0.2 row.2):=by simpa using z
      subst e;refine⟨?_,RF⟩;show upd _ q _ n=_;rw [av RF,ak];rfl
    ·rw [av (bh e hq),av (bh (s4 _ _ (s3 _ _ e)) hn)]
     exact s4 _ _ (s3 _ _ e)
    ·rw [av Jn.symm,av (bh (s4 _ _ p3) hn)]
     exact s4 _ _ p3
   obtain⟨c0,ct,hc⟩:∃c0 ct,f0.2=c0::ct:=by
    cases e:f0.2 with
    | nil=>rw [e] at Hh;simp at Hh
    | cons x l=>exact⟨x,l,rfl⟩
   obtain⟨d0,G7,hd⟩:∃d0 G7,row.2=d0::G7:=by
    cases e:row.2 with
    | nil=>rw [e] at Mu;simp at Mu
    | cons x l=>exact⟨x,l,rfl⟩
   have Wi:Ke c0:=hB f0 Cf c0 (by rw [hc];simp);have Wh:Ke d0:=hB row Jq d0 (by rw [hd];simp);have bct:∀x∈ct,Ke x:=λx hx=>hB f0 Cf x (by rw [hc];simp [hx]);have bdt:∀x∈G7,Ke x:=λx hx=>hB row Jq x (by rw [hd];simp [hx]);have GO:G7.length=ct.length:=by rw [hc] at Hh;rw [hd] at Mu;simp at Hh Mu;omega
   have ZI:ct.length<=8:=by rw [hc] at Hh;simp at Hh h8;omega
   have er:eT last f0.2 row.2=List.zipWith (λa b=>Int.fdiv (a * c0 - d0 * b) last) G7 ct:=by unfold eT;rw [hc,hd];rfl
   have step:∀(j:Nat) (x y:V) (zs:List V) (Hx:Hp) (T:Addr) (g1 g2:Option V),(G7.map V.int)[j]?=some x->(ct.map V.int)[j]?=some y->zs=(List.zipWith (λa b=>Int.fdiv (a * c0 - d0 * b) last) (G7.take j) (ct.take j)).map V.int->ag H3 Hx->Hx T=none ->
     ∃xa ya:Int,x=.int xa/\y=.int ya/\Ke xa/\Ke ya/\zs++[.int (Int.fdiv (xa * c0 - d0 * ya) last)]=(List.zipWith (λa b=>Int.fdiv (a * c0 - d0 * b) last) (G7.take (j + 1)) (ct.take (j + 1))).map V.int:=by
    intro j x y zs Hx T g1 g2 h1 h2 hz _ _;obtain⟨xa,e1,rfl⟩:=nat h1;obtain⟨ya,e2,rfl⟩:=nat h2;refine⟨xa,ya,rfl,rfl,bdt xa (Cb e1),bct ya (Cb e2),?_⟩;rw [oH _ j G7 ct xa ya e1 e2,CA,hz];rfl
   have OS:(List.zipWith (λa b=>Int.fdiv (a * c0 - d0 * b) last) (G7.take G7.length) (ct.take G7.length)).map V.int=(eT last f0.2 row.2).map V.int:=by
    rw [er,Dg,GO,Dg]
   cases b with
   | true =>
    have N9:H3 row.1=some (.lst (V.int d0::G7.map V.int)):=by rw [<- CD,<- hd];exact r3
    have O6:H3 f0.1=some (.lst (V.int c0::ct.map V.int)):=by rw [<- CD,<- hc];exact f3
    refine .inl ⟨_,rfl,_,rfl,row.1,_,rfl,Gq.of N9,λp1 OI=>?_⟩;rw [gI];have s4:=ao (o:=.lst ((V.int d0::G7.map V.int).drop 1)) (ag.refl H3) OI;have a4:upd H3 p1 (.lst ((V.int d0::G7.map V.int).drop 1)) p1=some (.lst (G7.map V.int)):=by rw [ak];rfl
    generalize upd H3 p1 (.lst ((V.int d0::G7.map V.int).drop 1))=H4 at s4 a4 ⊢;refine⟨_,rfl,_,rfl,f0.1,_,rfl,Gq.of (s4 _ _ O6),λp2 JT=>?_⟩;rw [gI];have s5:=ao (o:=.lst ((V.int c0::ct.map V.int).drop 1)) (ag.refl H4) JT;have a5:=s5 _ _ a4;have b5:upd H4 p2 (.lst ((V.int c0::ct.map V.int).drop 1)) p2=some (.lst (ct.map V.int)):=by rw [ak];rfl
    have Ia:=s4.trans s5;generalize upd H4 p2 (.lst ((V.int c0::ct.map V.int).drop 1))=H5 at s5 a5 b5 Ia ⊢;refine⟨p1,p2,_,_,rfl,Gq.of a5,Gq.of b5,?_⟩;refine xY (K:=K) (a:=p1) (b:=p2) (xs:=G7.map V.int) (ys:=ct.map V.int) (by simp [GO]) (fits (by simp;omega)) (λj zs σ Hx=>zs=(List.zipWith (λa b=>Int.fdiv (a * c0 - d0 * b) last) (G7.take j) (ct.take j)).map V.int/\ag H5 Hx/\∃g1 g2,σ=[g1,g2,some (.ref f0.1),some (.ref row.1),some (.int last)])
     ⟨by simp,ag.refl _,_,_,rfl⟩ (λj zs σ Hx hj z=>⟨by rw [z.1];simp;omega,Gq.of (z.2.1 _ _ a5),Gq.of (z.2.1 _ _ b5)⟩) ?_ ?_
    ·rintro j x y zs σ Hx T h1 h2 ⟨hz,sx,g1,g2,rfl⟩ hT
     obtain⟨xa,ya,rfl,rfl,bx,TX,e⟩:=step j x y zs Hx T g1 g2 h1 h2 hz (Ia.trans sx) hT;have sT:=ao (o:=.tup [.int xa,.int ya]) (ag.refl Hx) hT;have T3:upd Hx T (.tup [.int xa,.int ya]) T=some (.tup [.int xa,.int ya]):=ak;generalize upd Hx T (.tup [.int xa,.int ya])=Hy at sT T3 ⊢;have sy:=Ia.trans (sx.trans sT);refine⟨T,_,rfl,Gp.of T3,rfl,_,_,rfl,_,_,rfl,rfl,?_⟩;exact⟨_,rfl,_,rfl,aE (j:=0) (.inl (Gq.of (sy _ _ O6))) rfl rfl ⟨_,_,rfl,rfl,⟨bx,Wi⟩,_,rfl,aE (j:=0) (.inl (Gq.of (sy _ _ N9))) rfl rfl ⟨_,rfl,_,_,rfl,rfl,⟨Wh,TX⟩,_,_,rfl,rfl,_,rfl,_,_,rfl,rfl,⟨LH,VJ⟩,e,sx.trans sT,_,_,rfl⟩⟩⟩
    ·rintro zs σ Hx ⟨hz,sx,g1,g2,rfl⟩ n hn
     rw [B8] at hz;exact fin zs Hx (hz.trans OS) (Ia.trans sx) n hn
   | false =>
    have N9:H3 row.1=some (.tup (V.int d0::G7.map V.int)):=by rw [<- CD,<- hd];exact r3
    have O6:H3 f0.1=some (.tup (V.int c0::ct.map V.int)):=by rw [<- CD,<- hc];exact f3
    have Oo:∀(x:V) (l:List V),ce (x::l) (some 1) none≠x::l:=λx l z=>by
     rw [gI] at z;have:=congrArg List.length z;simp at this
    refine .inr ⟨_,rfl,_,rfl,row.1,_,rfl,Gp.of N9,λz=>absurd z (Oo _ _),λp1 OI=>?_⟩;rw [gI];have s4:=ao (o:=.tup ((V.int d0::G7.map V.int).drop 1)) (ag.refl H3) OI;have a4:upd H3 p1 (.tup ((V.int d0::G7.map V.int).drop 1)) p1=some (.tup (G7.map V.int)):=by rw [ak];rfl
    generalize upd H3 p1 (.tup ((V.int d0::G7.map V.int).drop 1))=H4 at s4 a4 ⊢;refine⟨_,rfl,_,rfl,f0.1,_,rfl,Gp.of (s4 _ _ O6),λz=>absurd z (Oo _ _),λp2 JT=>?_⟩;rw [gI];have s5:=ao (o:=.tup ((V.int c0::ct.map V.int).drop 1)) (ag.refl H4) JT;have a5:=s5 _ _ a4;have b5:upd H4 p2 (.tup ((V.int c0::ct.map V.int).drop 1)) p2=some (.tup (ct.map V.int)):=by rw [ak];rfl
    have Ia:=s4.trans s5;generalize upd H4 p2 (.tup ((V.int c0::ct.map V.int).drop 1))=H5 at s5 a5 b5 Ia ⊢;refine⟨p1,p2,_,_,rfl,Gp.of a5,Gp.of b5,?_⟩;refine xE (K:=K) (a:=p1) (b:=p2) (xs:=G7.map V.int) (ys:=ct.map V.int) (by simp [GO]) (fits (by simp;omega)) (λj zs σ Hx=>zs=(List.zipWith (λa b=>Int.fdiv (a * c0 - d0 * b) last) (G7.take j) (ct.take j)).map V.int/\ag H5 Hx/\∃g1 g2,σ=[g1,g2,some (.ref f0.1),some (.ref row.1),some (.int last)])
     ⟨by simp,ag.refl _,_,_,rfl⟩ (λj zs σ Hx hj z=>⟨by rw [z.1];simp;omega,Gp.of (z.2.1 _ _ a5),Gp.of (z.2.1 _ _ b5)⟩) ?_ ?_
    ·rintro j x y zs σ Hx T h1 h2 ⟨hz,sx,g1,g2,rfl⟩ hT
     obtain⟨xa,ya,rfl,rfl,bx,TX,e⟩:=step j x y zs Hx T g1 g2 h1 h2 hz (Ia.trans sx) hT;have sT:=ao (o:=.tup [.int xa,.int ya]) (ag.refl Hx) hT;have T3:upd Hx T (.tup [.int xa,.int ya]) T=some (.tup [.int xa,.int ya]):=ak;generalize upd Hx T (.tup [.int xa,.int ya])=Hy at sT T3 ⊢;have sy:=Ia.trans (sx.trans sT);refine⟨T,_,rfl,Gp.of T3,rfl,_,_,rfl,_,_,rfl,rfl,?_⟩;exact⟨_,rfl,_,rfl,aE (j:=0) (.inr (Gp.of (sy _ _ O6))) rfl rfl ⟨_,_,rfl,rfl,⟨bx,Wi⟩,_,rfl,aE (j:=0) (.inr (Gp.of (sy _ _ N9))) rfl rfl ⟨_,rfl,_,_,rfl,rfl,⟨Wh,TX⟩,_,_,rfl,rfl,_,rfl,_,_,rfl,rfl,⟨LH,VJ⟩,e,sx.trans sT,_,_,rfl⟩⟩⟩
    ·rintro zs σ Hx ⟨hz,sx,g1,g2,rfl⟩ n hn
     rw [B8] at hz;exact fin zs Hx (hz.trans OS) (Ia.trans sx) n hn
  ·rintro σ H3 ⟨⟨Gx,hm,OE,HI⟩,s3,p3,g,rfl⟩
   refine⟨_,rfl,k q Gx H3 s3 hq OE (λr hr=>(HI r hr).1) ?_⟩;rw [hm,B8,Dg];simp [LK,eT]
theorem eY {n j:Nat} (h:j < n):IR n (j:Int)=some j:=by
 unfold IR;simp;omega
theorem oQ {L:List (List Int)}{n:Nat} (h:∀row∈L,row.length=n) {row:List Int} (hr:row∈L) {x:Int} (hx:x∈row):∃i j,i < L.length/\j < n/\at2 L i j=x:=by
 obtain⟨i,hi,rfl⟩:=DR.mp hr;obtain⟨j,hj,rfl⟩:=DR.mp hx;refine⟨i,j,hi,by rw [<- h _ hr];exact hj,?_⟩;unfold at2;rw [B7 hi];simp [B7 hj]
theorem og {Gn:List (Addr×List Int)}{n:Nat} (h:∀r∈Gn,r.2.length=n) (hn:0 < n) {i:Nat}{r:Addr×List Int} (hr:Gn[i]?=some r):r.2[0]?=some (at2 (Gn.map (·.2)) i 0):=by
 have h1:=h r (Cb hr);unfold at2;rw [Cd,hr];show r.2[0]?=some ((r.2[0]?).getD 0);rw [B7 (show 0 < r.2.length by omega)];rfl
def flt (L:List (List Int)) (n:Nat):List Nat:=(List.range n).filter λi=>!decide (at2 L i 0=0)
theorem nP (L:List (List Int)) (n:Nat):flt L (n + 1)=flt L n++if at2 L n 0=0 then [] else [n]:=by
 unfold flt;rw [List.range_succ,ES]
 congr 1
 by_cases h:at2 L n 0=0
 ·simp [h]
 ·simp [h]
theorem zy (L:List (List Int)) (n:Nat):(flt L n).length<=n:=by
 have:=CF (λi=>!decide (at2 L i 0=0)) (List.range n);rw [List.length_range] at this;exact this
def rE:Sp:=λvs H Q _=>∃(a:Addr) (Gn:List (Addr×List Int)),vs=[.ref a]/\H a=some (.tup (aX Gn))/\(∀r∈Gn,bZ H false r)/\(∀r∈Gn,r.2.length=Gn.length)/\Gn.length<=8/\(∀r∈Gn,∀x∈r.2,x.natAbs<=2 ^ 128) /\
 ∀H',ag H H'->Q (.int (dt Gn.length (at2 (Gn.map (·.2))))) H'
abbrev N30:List Str:=["rows","left","sign","last","filled","first"]
theorem eR:aV N30 ["rows"] (aH (top 30)):=⟨rfl,rfl,rfl,by decide +kernel,rfl,by decide +kernel,by decide +kernel⟩
theorem zA (F:Gy K "determinant" "determinant" (top 30) f fd) (B:Bl mg) (Fc:Fn P w K mg base 1 "cleared" ["left","last"] rh):au P w K mg base GB 2 f fd ["rows"] rE:=by
 refine F.ok eR (λvs H Q E h=>?_) (λ_ _ _ _ H vs Q E hr h=>?_)
 ·obtain⟨a,Gn,rfl,_⟩:=h
  rfl
 ·obtain⟨a,GI,rfl,ha,SA,LG,h8,hB,k⟩:=h
  refine⟨_,aj (aJ (i:=1) eR.nd rfl (Or.inl rfl) (cP gS rfl B.list iu (aa (pv 0) ae)))
   (aj (aJ (i:=2) eR.nd rfl (Or.inl rfl) ai)
   (aj (aJ (i:=3) eR.nd rfl (Or.inl rfl) ai)
   (aj (kz C6 (aU jG (aD bu rfl B.len Ct (aa (pv 1) ae)) ai (aM _))
    (aj (eJ (i:=4) (N:=["at","row"]) (ix:=[none,none]) eR.nd rfl (Or.inl rfl) ⟨rfl,rfl,rfl,by decide⟩ rfl (kE rfl B.enumerate (aa (pv 1) ae)) (λ_ _ _ _=>jr K rfl (n:=2) (bB (bj 0 (by decide) rfl rfl) (bB (bj 1 (by decide) rfl rfl) cX)))
     (λ_ _ _ _=>dU (aU cq (aA (b7 K) (pv 1) ai (λ_ _=>rfl)) ai (aM _))) (λ_ _ _ _=>pv 0))
    (aj (aQ (aU dM (aD bu rfl B.len Ct (aa (pv 4) ae)) ai (aM _)) (aq (aG ai)) aS)
    (aj (aQ (aU cq (aA aF (pv 4) ai (λ_ _=>rfl)) ai (aM _))
     (aj (dX (br (aa (aA aF (pv 1) (aA aF (pv 4) ai (λ_ _=>rfl)) (λ_ _=>rfl)) (aa (aA aF (pv 1) ai (λ_ _=>rfl)) ae))) (dI rfl (n:=2) (bB (jz (pv 1) ai set_list) (bB (jz (pv 1) (aA aF (pv 4) ai (λ_ _=>rfl)) set_list) cX))))
      (aq (aJ (i:=2) eR.nd rfl (Or.inl rfl) (gG gC (pv 2))))) aS)
    (aj (aJ (i:=5) eR.nd rfl (Or.inl rfl) (aA aF (aA aF (pv 1) ai (λ_ _=>rfl)) ai (λ_ _=>rfl)))
    (aj (aJ (i:=1) eR.nd rfl (Or.inl rfl) (ar Fc hr (aa (pv 1) (aa (pv 3) ae))))
    (aq (aJ (i:=3) eR.nd rfl (Or.inl rfl) (pv 5)))))))))
   (aq (aG (aK kQ (pv 2) (pv 3))))))),?_⟩
  have big:Jx 8 * (2 ^ 128) ^ 8 < 2 ^ 3000:=by decide +kernel
  have Qp:∀r c,r < GI.length->c < GI.length->(at2 (GI.map (·.2)) r c).natAbs<=2 ^ 128:=λr c hr hc=>by
   unfold at2;rw [Cd,B7 hr];have h1:=LG GI[r] (Cu hr);show ((GI[r].2[c]?).getD 0).natAbs<=_;rw [B7 (by omega)];exact hB _ (Cu hr) _ (Cu _)
  have Ui:HE GI.length (at2 (GI.map (·.2))) (GI.map (·.2)) 1 1:=by
   have:=HE.start (L:=GI.map (·.2)) (λrow GD=>by
    obtain⟨r,hr,rfl⟩:=Cg.mp GD
    rw [B8];exact LG r hr)
   rwa [B8] at this
  generalize GI.length=N at h8 Qp Ui k;generalize at2 (GI.map (·.2))=M0 at Qp Ui k;refine⟨_,rfl,a,_,rfl,.inr (Gp.of ha),λl0 LH=>?_⟩;have s1:=ao (o:=.lst (aX GI)) (ag.refl H) LH;have l1:upd H l0 (.lst (aX GI)) l0=some (.lst (aX GI)):=ak;generalize upd H l0 (.lst (aX GI))=H1 at s1 l1 ⊢
  refine⟨λm σ H4=>∃(l:Addr) (b:Bool) (Gn:List (Addr×List Int)) (sign last:Int) (g4 g5:Option V),σ=[some (.ref a),some (.ref l),some (.int sign),some (.int last),g4,g5]/\Gn.length=m/\H l=none/\H4 l=some (.lst (aX Gn))/\(∀r∈Gn,bZ H4 b r)/\HE N M0 (Gn.map (·.2)) sign last/\ag H H4,
   ⟨_,l0,false,GI,1,1,none,none,rfl,rfl,LH,l1,λr hr=>(SA r hr).same s1,Ui,s1⟩,?_⟩
  rintro m σ H4 ⟨l,b,Gn,sign,last,g4,g5,rfl,rfl,hl,L4,R4,Ba,s4⟩;refine⟨_,rfl,l,_,rfl,.inl (Gq.of L4),_,_,rfl,rfl,_,rfl,?_⟩;have e0:decide (((aX Gn).length:Int) > 0)=decide (Gn≠[]):=by
   cases Gn <;> simp <;> omega
  rw [e0];have Y9:∀r∈Gn,r.2.length=Gn.length:=λr hr=>by
   obtain⟨_,_,_,h,_⟩:=Ba;have:=h r.2 (Cg.mpr ⟨r,hr,rfl⟩)
   rwa [B8] at this
  have Zo:Gn.length<=N:=by
   obtain⟨_,k,h,_⟩:=Ba;rw [B8] at h;omega
  obtain⟨Rb,Xz⟩:=Ba.small Qp Nat.one_le_two_pow h8;have sgn:Ke sign:=by
   obtain⟨_,_,_,_,h,_⟩:=Ba;show sign.natAbs < _
   rcases h with rfl | rfl
   ·exact Nat.one_lt_two_pow (by decide)
   ·exact Nat.one_lt_two_pow (by decide)
  have U9:Ke last:=FJ Rb big;refine bJ (λc=>?_) (λc=>?_)
  ·have GQ:Gn≠[]:=by simpa using c
   have GV:0 < Gn.length:=Ek.mpr GQ
   refine⟨λσ' H'=>∃(l:Addr) (b:Bool) (Gx:List (Addr×List Int)) (sign last:Int) (g4 g5:Option V),σ'=[some (.ref a),some (.ref l),some (.int sign),some (.int last),g4,g5]/\Gx.length + 1=Gn.length/\H l=none/\H' l=some (.lst (aX Gx))/\(∀r∈Gx,bZ H' b r)/\HE N M0 (Gx.map (·.2)) sign last/\ag H H',
    λσ' H' ⟨l,b,Gx,sign,last,g4,g5,h1,h2,h3⟩=>⟨Gx.length,by omega,l,b,Gx,sign,last,g4,g5,h1,rfl,h3⟩,?_⟩
   refine⟨_,rfl,l,_,rfl,Gq.of L4,?_⟩;refine uP (K:=K) (xs:=aX Gn) (fits (by simp;omega)) (λj zs σ Hx=>zs=(flt (Gn.map (·.2)) j).map (λi:Nat=>V.int i)/\ag H4 Hx/\∃g1 g2,σ=[g1,g2]) ⟨rfl,ag.refl _,_,_,rfl⟩ (λj zs σ Hx hj z=>⟨by rw [z.1,B8];exact zy _ _,Gq.of (z.2.1 _ _ L4)⟩) ?_ ?_
   ·rintro j x zs σ Hx T hx ⟨hz,sx,g1,g2,rfl⟩ hT
    rw [Cd] at hx;obtain⟨row,GD,rfl⟩:∃row,Gn[j]?=some row/\x=.ref row.1:=by
     cases e:Gn[j]? with
     | none=>rw [e] at hx;cases hx
     | some z=>rw [e] at hx;cases hx;exact⟨z,rfl,rfl⟩
    have sT:=ao (o:=.tup [.int j,.ref row.1]) (ag.refl Hx) hT;have T3:upd Hx T (.tup [.int j,.ref row.1]) T=some (.tup [.int j,.ref row.1]):=ak;generalize upd Hx T (.tup [.int j,.ref row.1])=Hy at sT T3 ⊢;have r4:=((R4 row (Cb GD)).same (sx.trans sT)).sq (K:=K);have h0:=og Y9 GV GD;refine⟨T,_,rfl,Gp.of T3,rfl,_,_,rfl,_,_,rfl,rfl,?_⟩;refine⟨_,rfl,aE (j:=0) r4 rfl (by rw [Cd,h0];rfl) ⟨rfl,_,rfl,?_⟩⟩;have e:(!decide (V.int (at2 (Gn.map (·.2)) j 0)=V.int 0))=!decide (at2 (Gn.map (·.2)) j 0=0):=by simp
    rw [e];refine bJ (λc=>⟨_,rfl,?_,sx.trans sT,_,_,rfl⟩) (λc=>⟨?_,sx.trans sT,_,_,rfl⟩)
    ·rw [nP,if_neg (by simpa using c),CA,hz];rfl
    ·rw [nP,if_pos (by simpa using c),Eo];exact hz
   rintro zs σ Hx ⟨hz,sx,g1,g2,rfl⟩ fi VM;rw [B8] at hz;have s5:=ao (o:=.lst zs) sx VM;have f5:upd Hx fi (.lst zs) fi=some (.lst zs):=ak;have S1:H4 fi=none:=sx.free VM;generalize upd Hx fi (.lst zs)=H5 at s5 f5 ⊢;subst hz;have L5:=s5 _ _ L4;refine⟨_,rfl,fi,_,rfl,.inl (Gq.of f5),rfl,_,rfl,?_⟩;have e1:decide (V.int (((flt (Gn.map (·.2)) Gn.length).map (λi:Nat=>V.int i)).length:Int)=V.int 0)=decide (flt (Gn.map (·.2)) Gn.length=[]):=by
    cases flt (Gn.map (·.2)) Gn.length <;> simp <;> omega
   rw [e1];refine bJ (λc=>?_) (λc=>?_)
   ·
    have YT:dt N M0=0:=Ba.zero (by simpa using GQ) λr hr=>by
     rw [B8] at hr;have c':flt (Gn.map (·.2)) Gn.length=[]:=by simpa using c
     cases hd:decide (at2 (Gn.map (·.2)) r 0=0) with
     | true=>exact of_decide_eq_true hd
     | false =>
      have:r∈flt (Gn.map (·.2)) Gn.length:=Cr.mpr ⟨DC.mpr hr,by rw [hd];rfl⟩;rw [c'] at this;simp at this
    have:=k H5 (s4.trans s5);rw [YT] at this;exact this
   ·
    have VA:flt (Gn.map (·.2)) Gn.length≠[]:=by simpa using c
    obtain⟨ff,ft,SY⟩:∃ff ft,flt (Gn.map (·.2)) Gn.length=ff::ft:=by
     cases e:flt (Gn.map (·.2)) Gn.length with
     | nil=>exact absurd e VA
     | cons x l=>exact⟨x,l,rfl⟩
    have OR:ff∈flt (Gn.map (·.2)) Gn.length:=by rw [SY];simp
    obtain⟨Hh,JY⟩:=Cr.mp OR;have Hh:ff < Gn.length:=DC.mp Hh;have JY:at2 (Gn.map (·.2)) ff 0≠0:=by simpa using JY
    rw [SY] at f5;clear SY e1 c VA OR;unfold rO
    dsimp only
    refine iD (λσ' H'=>∃(Gx:List (Addr×List Int)) (IP:Int) (g5:Option V),σ'=[some (.ref a),some (.ref l),some (.int IP),some (.int last),some (.ref fi),g5]/\Gx.length=Gn.length/\H' l=some (.lst (aX Gx))/\(∀r∈Gx,bZ H' b r)/\HE N M0 (Gx.map (·.2)) IP last/\at2 (Gx.map (·.2)) 0 0≠0/\ag H H') (λNx key=>?_) ?_
    ·refine⟨_,rfl,aE (j:=0) (.inl (Gq.of f5)) rfl rfl ⟨rfl,_,rfl,?_⟩⟩
     have e2:(!decide (V.int (ff:Int)=V.int 0))=!decide (ff=0):=by simp
     rw [e2];refine bJ (λc=>?_) (λc=>?_)
     ·have Ql:ff≠0:=by simpa using c
      have g1:(aX Gn)[ff]?=some (.ref Gn[ff].1):=by rw [Cd,B7 Hh];rfl
      have g0:(aX Gn)[0]?=some (.ref Gn[0].1):=by rw [Cd,B7 GV];rfl
      refine⟨_,rfl,_,rfl,aE (j:=0) (.inl (Gq.of f5)) rfl rfl (aE (j:=ff) (.inl (Gq.of L5)) rfl g1 ⟨_,rfl,aE (j:=0) (.inl (Gq.of L5)) rfl g0 ⟨by show 2<=sizeLine;decide,λT hT=>?_⟩⟩)⟩;have s6:=ao (o:=.tup [.ref Gn[ff].1,.ref Gn[0].1]) (ag.refl H5) hT;have T6:upd H5 T (.tup [.ref Gn[ff].1,.ref Gn[0].1]) T=some (.tup [.ref Gn[ff].1,.ref Gn[0].1]):=ak;generalize upd H5 T (.tup [.ref Gn[ff].1,.ref Gn[0].1])=H6 at s6 T6 ⊢;have L6:=s6 _ _ L5;have f6:=s6 _ _ f5;have X2:fi≠l:=(bh L4 S1).symm;refine⟨T,_,rfl,Gp.of T6,rfl,_,_,rfl,_,rfl,l,_,_,0,rfl,rfl,L6,eY (by simp;omega),?_⟩;have L7:upd H6 l (.lst ((aX Gn).set 0 (.ref Gn[ff].1))) l=some (.lst ((aX Gn).set 0 (.ref Gn[ff].1))):=ak;have f7:upd H6 l (.lst ((aX Gn).set 0 (.ref Gn[ff].1))) fi=some (.lst (.int (ff:Int)::ft.map (λi:Nat=>V.int i))):=by rw [av X2];exact f6
      have o7:∀b o,b≠l->H5 b=some o->upd H6 l (.lst ((aX Gn).set 0 (.ref Gn[ff].1))) b=some o:=λb o hb e=>by rw [av hb];exact s6 _ _ e
      generalize upd H6 l (.lst ((aX Gn).set 0 (.ref Gn[ff].1)))=H7 at L7 f7 o7 ⊢;refine⟨_,_,rfl,_,rfl,_,rfl,aE (j:=0) (.inl (Gq.of f7)) rfl rfl ⟨l,_,_,ff,rfl,rfl,L7,eY (by simp;omega),rfl,?_⟩⟩;refine⟨_,rfl,_,rfl,key _ _ ⟨(Gn.set 0 Gn[ff]).set ff Gn[0],-sign,_,rfl,by simp,?_,λr hr=>?_,?_,?_,λb o e=>?_⟩⟩
      ·rw [ak]
       unfold aX;rw [EU,EU]
      ·have Gz:r∈Gn:=by
        rcases Ec hr with z | z
        ·rcases Ec z with z | z
         ·exact z
         ·rw [z];exact Cu _
        ·rw [z];exact Cu _
       have r5:=(R4 r Gz).same s5;have Mu:r.1≠l:=λz=>by
        have q:=R4 r Gz;unfold bZ at q;rw [z,L4] at q;have q:=CZ q;unfold Q9 at q;split at q
        ·have q:=HO.lst.inj q
         have q':=congrArg (λx:List V=>x[0]?) q;simp only [g0,Cd] at q';cases hx:r.2[0]? with
         | none=>rw [hx] at q';cases q'
         | some x=>rw [hx] at q';cases q'
        ·cases q
       unfold bZ;rw [av Mu];exact o7 _ _ Mu r5
      ·have e3:((Gn.set 0 Gn[ff]).set ff Gn[0]).map (·.2)=KD (Gn.map (·.2)) ff:=by
        unfold KD;rw [EU,EU,Cd,Cd,B7 Hh,B7 GV];rfl
       rw [e3];exact Ba.swap (by rw [B8];exact Hh) Ql
      ·have e3:((Gn.set 0 Gn[ff]).set ff Gn[0]).map (·.2)=KD (Gn.map (·.2)) ff:=by
        unfold KD;rw [EU,EU,Cd,Cd,B7 Hh,B7 GV];rfl
       rw [e3,p4 (by rw [B8];exact Hh) Ql (by rw [B8];exact GV)];simpa [Hv] using JY
      ·have VT:=bh e hl
       rw [av VT];exact o7 _ _ VT (s5 _ _ (s4 _ _ e))
     ·have Ql:ff=0:=by simpa using c
      subst Ql;exact key _ _ ⟨Gn,sign,_,rfl,rfl,L5,λr hr=>(R4 r hr).same s5,Ba,JY,s4.trans s5⟩
    ·rintro σ' H' ⟨Gx,IP,g5',rfl,Jd,L6,R6,QL,Ib,s6⟩
     have Ik:0 < Gx.length:=Jd.symm ▸ GV;have ZT:Gx.length<=8:=CB (Nat.le_of_eq Jd) (CB Zo h8);have Mt:∀r∈Gx,r.2.length=Gx.length:=λr hr=>by
      obtain⟨_,_,_,h,_⟩:=QL;have:=h r.2 (Cg.mpr ⟨r,hr,rfl⟩)
      rwa [B8] at this
     obtain⟨sm1,XA⟩:=QL.small Qp Nat.one_le_two_pow h8;have g0:(aX Gx)[0]?=some (.ref Gx[0].1):=by rw [Cd,B7 Ik];rfl
     have h0:=og Mt Ik (B7 Ik);refine⟨_,rfl,aE (j:=0) (.inl (Gq.of L6)) rfl g0 (aE (j:=0) ((R6 _ (Cu Ik)).sq) rfl (by rw [Cd,h0];rfl) ?_)⟩;have RH:Gx≠[]:=Ek.mp Ik;refine⟨_,rfl,_,rfl,l,last,b,Gx,rfl,L6,R6,RH,Mt,ZT,QL.ne,U9,λr hr x hx=>?_,λq JL H2 s2 hq He Hd Qj=>?_⟩
     ·obtain⟨i,j,hi,hj,rfl⟩:=oQ (L:=Gx.map (·.2)) (n:=Gx.length) (λrow GD=>by
       obtain⟨r,hr,rfl⟩:=Cg.mp GD
       exact Mt r hr) (Cg.mpr ⟨r,hr,rfl⟩) hx
      exact FJ (XA i j hi (by rw [B8];exact hj)) big
     ·refine⟨_,rfl,q,true,JL,IP,_,_,_,rfl,?_,s6.free hq,He,Hd,?_,s6.trans s2⟩
      ·have:=congrArg List.length Qj
       rw [B8] at this;cases hc:Gx with
       | nil=>exact absurd hc RH
       | cons x l =>
        rw [hc] at this Jd;have e2:JL.length=l.length:=by simpa [LK] using this
        rw [e2];exact Jd
      ·rw [Qj]
       exact QL.clear (by simpa using RH) Ib
  ·have hn:Gn=[]:=by simpa using c
   subst hn;have:=Ba.done;refine⟨_,rfl,_,rfl,_,_,rfl,rfl,⟨sgn,U9⟩,?_⟩;have q:=k H4 s4;rw [<- this] at q;exact q
def others (ps:List Str) (root:Str):List Str:=ps.filter λy=>!decide (y=root)
theorem cx {ps:List Str}{root x:Str}:x∈others ps root ↔ x∈ps/\x≠root:=by
 unfold others;rw [Cr];simp
def GN (O:List Str) (x:Str):Nat:=O.idxOf x
theorem eK {O:List Str}{x:Str} (h:x∈O):GN O x < O.length:=FL h
theorem il {O:List Str}{x:Str} (h:x∈O):O[GN O x]?=some x:=by
 have h1:=eK h;rw [B7 h1];exact congrArg some (List.getElem_idxOf h1)
def Hu (O:List Str) (root:Str) (rs:List Row):List Ti:=(rs.filter λr=>!decide (r.2.2=root)).map λr=>(if r.2.1=root then none else some (GN O r.2.1),GN O r.2.2)
def Nk (O:List Str) (kvs:List (Key×V)) (i:Nat):Prop:=kvs.length=i/\(∀m x,m < i->O[m]?=some x->bT kvs (.inr x)=some (.int m))/\∀x,x∉O.take i->bT kvs (.inr x)=none
theorem wO {kvs:List (Key×V)}{k:Key}{v:V} (h:bT kvs k=none):putK kvs k v=kvs++[(k,v)]:=by
 unfold putK;rw [gq,h];rfl
theorem Nk.step {O:List Str}{kvs:List (Key×V)}{i:Nat}{x:Str} (h:Nk O kvs i) (nd:O.Nodup) (hx:O[i]?=some x):Nk O (putK kvs (.inr x) (.int i)) (i + 1):=by
 obtain⟨h1,h2,h3⟩:=h;obtain⟨hi,ei⟩:=Ca.mp hx;have MA:x∉O.take i:=λz=>by
  obtain⟨m,hm,em⟩:=DR.mp z;rw [List.getElem_take,<- ei] at em;have:=(Ew nd).mp em;simp at hm;omega
 refine⟨by rw [wO (h3 x MA)];simp [h1],λm y hm hy=>?_,λy hy=>?_⟩
 ·rw [oB]
  by_cases e:m=i
  ·subst e
   rw [hx] at hy;cases hy;rw [if_pos rfl]
  ·have GQ:¬ (Sum.inr y:Key)=Sum.inr x:=λq=>by
    have q':y=x:=Gi q;obtain⟨OK,em⟩:=Ca.mp hy;rw [<- em,<- ei] at q';exact e ((Ew nd).mp q')
   rw [if_neg GQ];exact h2 m y (by omega) hy
 ·have YW:y∉O.take i:=λz=>hy (by rw [Dd];exact CM _ z)
  have YV:y≠x:=λz=>hy (by rw [Dd,hx,z];exact Cv _ (by simp));rw [oB,if_neg (λq=>YV (Gi q))];exact h3 y YW
theorem Nk.get {O:List Str}{kvs:List (Key×V)}{x:Str} (h:Nk O kvs O.length) (hx:x∈O):bT kvs (.inr x)=some (.int (GN O x)):=h.2.1 _ _ (eK hx) (il hx)
structure Tb (H0 H:Hp) (q:Addr) (Gn:List (Addr×List Int)):Prop where
 l:H q=some (.lst (aX Gn))
 r:∀r∈Gn,bZ H true r/\r.1≠q/\H0 r.1=none
 nd:(Gn.map (·.1)).Nodup
 q0:H0 q=none
def Jz (Gn:List (Addr×List Int)) (x y:Nat) (d:Int):List (Addr×List Int):=Gn.modify x λr=>(r.1,r.2.modify y (· + d))
theorem oA (Gn:List (Addr×List Int)) (x y:Nat) (d:Int):(Jz Gn x y d).map (·.1)=Gn.map (·.1):=by
 refine List.ext_getElem? λi=>?_;unfold Jz;rw [Cd,Cd,DS];cases Gn[i]? with
 | none=>rfl
 | some r=>by_cases e:x=i <;> simp [e]
theorem wm (Gn:List (Addr×List Int)) (x y:Nat) (d:Int):aX (Jz Gn x y d)=aX Gn:=by
 have h:=congrArg (List.map V.ref) (oA Gn x y d)
 rwa [CH,CH] at h
theorem oP (Gn:List (Addr×List Int)) (x y:Nat) (d:Int):(Jz Gn x y d).length=Gn.length:=by simp [Jz]
theorem qt (Gn:List (Addr×List Int)) (x y:Nat) (d:Int) (n:Nat) (hn:Gn.length=n) (hr:∀r∈Gn,r.2.length=n) (i j:Nat) (hi:i < n) (hj:j < n):at2 ((Jz Gn x y d).map (·.2)) i j=at2 (Gn.map (·.2)) i j + if i=x/\j=y then d else 0:=by
 unfold at2 Jz;have Il:i < Gn.length:=by omega
 have h1:=hr Gn[i] (Cu Il);rw [Cd,Cd,DS,B7 Il]
 by_cases e:x=i
 ·subst e
  simp only [Option.map_eq_map,D1,if_true,Fi,DS,B7 (show j < Gn[x].2.length by omega)]
  by_cases e2:y=j
  ·simp [e2]
  ·simp [e2,Dy e2]
 ·have:¬ (i=x/\j=y):=λz=>e z.1.symm
  simp [e,this]
theorem pP (Gn:List (Addr×List Int)) (x y:Nat) (d:Int) (n:Nat) (hr:∀r∈Gn,r.2.length=n):∀r∈Jz Gn x y d,r.2.length=n:=λr h=>by
 obtain⟨i,hi⟩:=De h;unfold Jz at hi;rw [DS] at hi;cases e:Gn[i]? with
 | none=>rw [e] at hi;cases hi
 | some z =>
  rw [e] at hi;have:=hr z (Cb e)
  by_cases c:x=i
  ·simp [c] at hi
   rw [<- hi];simp [this]
  ·simp [c] at hi
   rw [<- hi];exact this
theorem Tb.bump {H0 H:Hp}{q:Addr}{Gn:List (Addr×List Int)} (T:Tb H0 H q Gn) {x y:Nat}{r:Addr×List Int}{v:Int} (hx:Gn[x]?=some r) (hy:r.2[y]?=some v) (d:Int):Tb H0 (upd H r.1 (.lst ((r.2.map V.int).set y (.int (v + d))))) q (Jz Gn x y d):=by
 have Jq:=Cb hx;obtain⟨a1,a2,a3⟩:=T.r r Jq;obtain⟨Jo,ex⟩:=Ca.mp hx;refine⟨?_,λz hz=>?_,by rw [oA];exact T.nd,T.q0⟩
 ·rw [av a2.symm,wm];exact T.l
 ·obtain⟨i,hi⟩:=De hz
  unfold Jz at hi;rw [DS] at hi;cases e:Gn[i]? with
  | none=>rw [e] at hi;cases hi
  | some u =>
   rw [e] at hi;obtain⟨b1,b2,b3⟩:=T.r u (Cb e)
   by_cases c:x=i
   ·subst c
    rw [hx] at e;cases e;simp at hi;rw [<- hi];refine⟨?_,a2,a3⟩;show upd _ r.1 _ r.1=some (Q9 true _);rw [ak];show some (HO.lst _)=some (HO.lst _)
    congr 2
    refine List.ext_getElem? λj=>?_;rw [Cd,DS,List.getElem?_set,Cd,B8]
    by_cases c2:y=j
    ·subst c2
     have YU:=(Ca.mp hy).1;simp [YU];exact ((Ca.mp hy).2).symm
    ·simp [c2]
   ·simp [c] at hi
    rw [<- hi];refine⟨?_,b2,b3⟩;have GQ:u.1≠r.1:=λz=>by
     obtain⟨Il,ei⟩:=Ca.mp e;have h1:(Gn.map (·.1))[x]'(by simpa using Jo)=(Gn.map (·.1))[i]'(by simpa using Il):=by simp [ex,ei,z]
     exact c ((Ew T.nd).mp h1)
    show upd _ r.1 _ u.1=_;rw [av GQ];exact b1
theorem nF (E:List Ti) (t:Ti) (r c:Nat):tab (E++[t]) r c=tab E r c + if t.2=c then one t r else 0:=by
 unfold tab;rw [ES,CA,List.sum_append]
 congr 1
 by_cases h:t.2=c
 ·simp [h]
 ·simp [h]
theorem w6 {O:List Str}{root:Str}{rs:List Row}{i:Nat}{r:Row} (h:rs[i]?=some r):Hu O root (rs.take (i + 1))=Hu O root (rs.take i)++if r.2.2=root then [] else [(if r.2.1=root then none else some (GN O r.2.1),GN O r.2.2)]:=by
 unfold Hu;rw [Dd,h,ES,CA]
 congr 1
 by_cases c:r.2.2=root
 ·simp [c]
 ·simp [c]
theorem rK {Gn:List (Addr×List Int)}{n:Nat} (hn:Gn.length=n) (hr:∀r∈Gn,r.2.length=n) {x y:Nat} (hx:x < n) (hy:y < n):∃r v,Gn[x]?=some r/\r.2[y]?=some v:=by
 have Jo:x < Gn.length:=by omega
 refine⟨Gn[x],Gn[x].2[y]'(by rw [hr _ (Cu Jo)];exact hy),B7 Jo,B7 _⟩
def lN:Sp:=λvs H Q _=>∃(pa ra:Addr) (root:Str) (ps:List Str) (rs:List (Addr×Row)),vs=[.ref pa,.str root,.ref ra]/\H pa=some (.tup (ps.map V.str))/\(H ra=some (.lst (aw rs))\/H ra=some (.tup (aw rs)))/\(∀r∈rs,bM H r.1 r.2) /\
 ps.Nodup/\ps.length<=8/\rs.length<=60/\(∀r∈rs,r.2.2.1∈ps/\r.2.2.2∈ps) /\
 ∀(q:Addr) (Gn:List (Addr×List Int)) (H':Hp),ag H H'->H' q=some (.tup (aX Gn))->(∀r∈Gn,bZ H' false r)->Gn.length=(others ps root).length->(∀r∈Gn,r.2.length=(others ps root).length) ->
  (∀i j,i < (others ps root).length->j < (others ps root).length->at2 (Gn.map (·.2)) i j=tab (Hu (others ps root) root (rs.map (·.2))) i j)->Q (.ref q) H'
abbrev N27:List Str:=["places","root","rows","at","told","name","start","end"]
theorem gL:aV N27 ["places","root","rows"] (aH (top 27)):=⟨rfl,rfl,rfl,by decide +kernel,rfl,by decide +kernel,by decide +kernel⟩
theorem wM (F:Gy K "table_of" "table_of" (top 27) f fd) (B:Bl mg):au P w K mg base GB 1 f fd ["places","root","rows"] lN:=by
 refine F.ok gL (λvs H Q E h=>?_) (λ_ _ _ _ H vs Q E hr h=>?_)
 ·obtain⟨pa,ra,root,ps,rs,rfl,_⟩:=h
  rfl
 ·obtain⟨pa,ra,root,ps,rs,rfl,IU,HV,GD,GE,p8,Ru,Je,k⟩:=h
  refine⟨_,aj (aJ (i:=3) gL.nd rfl (Or.inr rfl) (yS (N:=["number","place"]) (ix:=[none,none]) ⟨rfl,rfl,rfl,by decide⟩ rfl
     (kE rfl B.enumerate (aa (bS (N:=["one","root"]) (ix:=[none,some 1]) ⟨rfl,rfl,rfl,by decide⟩ rfl (bW (pv 0)) (λ_ _ _ _=>bj 0 (by decide) rfl rfl) (λ_ _ _ _=>dU (aU cq (pv 0) (pv 1) (aM _))) (λ_ _ _ _=>pv 0)) ae))
     (λ_ _ _ _=>jr K rfl (n:=2) (bB (bj 0 (by decide) rfl rfl) (bB (bj 1 (by decide) rfl rfl) cX))) (λ_ _ _ _=>bR) (λ_ _ _ _=>pv 1) (λ_ _ _ _=>pv 0)))
   (aj (eJ (i:=4) (N:=["place","at"]) (ix:=[none,some 3]) gL.nd rfl (Or.inl rfl) ⟨rfl,rfl,rfl,by decide⟩ rfl (wj (pv 3)) (λ_ _ _ _=>bj 0 (by decide) rfl rfl) (λ_ _ _ _=>bR)
     (λ_ _ _ _=>aK qJ (bD (aa ai ae)) (aD uG rfl B.len Ct (aa (pv 1) ae))))
   (aj (cY C6 rfl (iw (dr (pv 2)) (bW (pv 2))) (dI rfl (n:=3) (bB (bt (i:=5) gL.nd rfl (Or.inl rfl)) (bB (bt (i:=6) gL.nd rfl (Or.inl rfl)) (bB (bt (i:=7) gL.nd rfl (Or.inl rfl)) cX))))
    (aq (aQ (aU cq (pv 7) (pv 1) (aM _))
     (aj (oV (aA aF (pv 4) (jn (fZ hr) (pv 3) (pv 7) (λ_ _=>rfl)) (λ_ _=>rfl)) (jn (fZ hr) (pv 3) (pv 7) (λ_ _=>rfl)) oj ai la set_list)
     (aq (aQ (aU cq (pv 6) (pv 1) (aM _)) (aq (oV (aA aF (pv 4) (jn (fZ hr) (pv 3) (pv 6) (λ_ _=>rfl)) (λ_ _=>rfl)) (jn (fZ hr) (pv 3) (pv 7) (λ_ _=>rfl)) oj ai qz set_list)) aS))) aS)))
   (aq (aG (cP fz rfl B.tuple cA (aa (bS (N:=["row"]) (ix:=[none]) ⟨rfl,rfl,rfl,by decide⟩ rfl (dr (pv 4)) (λ_ _ _ _=>bj 0 (by decide) rfl rfl) (λ_ _ _ _=>bR) (λ_ _ _ _=>cP (vF K) rfl B.tuple cA (aa (pv 0) ae))) ae)))))),?_⟩
  have KH:(others ps root).Nodup:=GE.filter _;have o8:(others ps root).length<=8:=CB (CF _ _) p8;have Jv:∀(O:List Str),O=others ps root->∀(q:Addr) (Gn:List (Addr×List Int)) (H':Hp),ag H H'->H' q=some (.tup (aX Gn))->(∀r∈Gn,bZ H' false r)->Gn.length=O.length->(∀r∈Gn,r.2.length=O.length) ->
   (∀i j,i < O.length->j < O.length->at2 (Gn.map (·.2)) i j=tab (Hu O root (rs.map (·.2))) i j)->Q (.ref q) H':=by rintro O rfl;exact k
  have OP:∀r∈rs,(r.2.2.1≠root->r.2.2.1∈others ps root)/\(r.2.2.2≠root->r.2.2.2∈others ps root):=λr hr=>⟨λz=>cx.mpr ⟨(Je r hr).1,z⟩,λz=>cx.mpr ⟨(Je r hr).2,z⟩⟩
  refine⟨_,rfl,pa,rfl,⟨_,Gp.of IU⟩,?_⟩;refine ig (K:=K) (xs:=ps.map V.str) (fits (by simp;omega)) (λi zs σ H2=>zs=((ps.take i).filter λy=>!decide (y=root)).map V.str/\H2=H/\∃g,σ=[g,some (.str root)]) ⟨rfl,rfl,_,rfl⟩
   (λi zs σ H2 hi z=>⟨by rw [z.1,B8];exact CB (CF _ _) (by simp;omega),by rw [z.2.1];exact Gp.of IU⟩) ?_ ?_
  ·rintro i x zs σ H2 hx ⟨rfl,rfl,g,rfl⟩
   rw [Cd] at hx;obtain⟨z,hz,rfl⟩:∃z,ps[i]?=some z/\x=.str z:=by
    cases e:ps[i]? with
    | none=>rw [e] at hx;cases hx
    | some z=>rw [e] at hx;cases hx;exact⟨z,rfl,rfl⟩
   have tf:=eU (λy:Str=>!decide (y=root)) ps i z hz;refine⟨_,rfl,_,rfl,rfl,_,rfl,?_⟩;have e:(!decide (V.str z=V.str root))=!decide (z=root):=by simp
   rw [e];refine bJ (λc=>⟨_,rfl,?_,rfl,_,rfl⟩) (λc=>⟨?_,rfl,_,rfl⟩)
   ·rw [tf,c];simp
   ·rw [tf];simp only [DY] at c;rw [c];simp
  rintro zs σ H2 ⟨rfl,rfl,g,rfl⟩ ol Zi;rw [take_all ps (by simp)];rw [show (ps.filter λy=>!decide (y=root))=others ps root from rfl];generalize hO:others ps root=O at KH o8 OP;have hk:=Jv O hO.symm;clear Jv k;have s1:=ao (o:=.lst (O.map V.str)) (ag.refl H2) Zi;have o1:upd H2 ol (.lst (O.map V.str)) ol=some (.lst (O.map V.str)):=ak;generalize upd H2 ol (.lst (O.map V.str))=H3 at s1 o1 ⊢;refine⟨ol,_,rfl,Gq.of o1,λD hD=>?_⟩;have ZQ:=s1.free hD;refine vn (K:=K) (a:=ol) (xs:=O.map V.str) (λi σ H4=>ag H3 H4/\(∃x y,σ=[x,y])/\∃kvs,H4 D=some (.dK kvs)/\Nk O kvs i)
   ⟨ao (ag.refl _) hD,⟨_,_,rfl⟩,[],ak,rfl,λm x hm=>absurd hm (Gh _),λx _=>rfl⟩ (λi σ H4 _ q=>Gq.of (q.1 _ _ o1)) ?_ ?_
  ·rintro i x σ H4 T hx ⟨s4,⟨g1,g2,rfl⟩,kvs,d4,kv⟩ hT
   rw [Cd] at hx;obtain⟨z,hz,rfl⟩:∃z,O[i]?=some z/\x=.str z:=by
    cases e:O[i]? with
    | none=>rw [e] at hx;cases hx
    | some z=>rw [e] at hx;cases hx;exact⟨z,rfl,rfl⟩
   have hi:i < O.length:=(Ca.mp hz).1;have u4:=ao (o:=.tup [.int i,.str z]) (ag.refl H4) hT;refine⟨T,_,rfl,Gp.of ak,rfl,_,_,rfl,_,_,rfl,rfl,?_⟩;exact⟨_,rfl,_,rfl,_,⟨kvs,.inr z,u4 _ _ d4,rfl,by rw [kv.1];exact fits (by omega),rfl⟩,ag.upd0 (s4.trans u4) hD,⟨_,_,rfl⟩,_,ak,kv.step KH hz⟩
  rintro σ H4 ⟨s4,_,kvs,d4,kv⟩;rw [B8] at kv;refine⟨_,rfl,D,kvs,rfl,d4,λo=>?_⟩;have s5:ag H2 (upd H4 D (.frz o (.dK kvs))):=ag.upd0 (s1.trans s4) ZQ;have d5:upd H4 D (.frz o (.dK kvs)) D=some (.frz o (.dK kvs)):=ak;generalize upd H4 D (.frz o (.dK kvs))=H5 at s5 d5 ⊢;have kl:=kv.1;refine uj (kvs:=kvs) (fits (by omega)) (λi zs σ H6=>(∃Gn:List (Addr×List Int),zs=aX Gn/\Gn.length=i/\(∀r∈Gn,r.2=List.replicate O.length 0)/\(∀r∈Gn,bZ H6 true r/\H5 r.1=none)/\(Gn.map (·.1)).Nodup)/\ag H5 H6/\∃g,σ=[g,some (.ref D)])
   ⟨⟨[],rfl,rfl,by simp,by simp,by simp⟩,ag.refl _,_,rfl⟩ (λi zs σ H6 _ z=>by obtain⟨⟨Gn,rfl,e,_⟩,s6,_⟩:=z;exact⟨by simp [e],s6 _ _ d5⟩) ?_ ?_
  ·rintro i p zs σ H6 hp ⟨⟨Gn,rfl,rl,rz,rn,rd⟩,s6,g,rfl⟩
   refine⟨by show 1<=sizeLine;decide,λn hn=>?_⟩;have u6:=ao (o:=.lst [.int 0]) (ag.refl H6) hn;have n6:upd H6 n (.lst [.int 0]) n=some (.lst [.int 0]):=ak;generalize upd H6 n (.lst [.int 0])=H7 at u6 n6 ⊢;refine⟨_,rfl,D,kvs,rfl,.inr ⟨o,u6 _ _ (s6 _ _ d5)⟩,n,_,_,rfl,rfl,n6,by omega,by omega,by simp;rw [DO];omega,λm hm=>?_⟩;have e0:(List.replicate ((kvs.length:Int)).toNat [V.int 0]).flatten=(List.replicate O.length (0:Int)).map V.int:=by
    rw [kl,Du]
    induction O.length with
    | zero=>rfl
    | succ n ih=>rw [DG,Eu,ih,DG];rfl
   rw [e0];have u7:=ao (o:=.lst ((List.replicate O.length (0:Int)).map V.int)) u6 hm;have m0:H6 m=none:=u6.free hm;have m5:H5 m=none:=s6.free m0;refine⟨⟨Gn++[(m,List.replicate O.length 0)],by simp [aX],by simp [rl],λr hr=>?_,λr hr=>?_,?_⟩,s6.trans u7,_,rfl⟩
   ·rcases Ck.mp hr with z | z
    ·exact rz r z
    ·have e:r=(m,List.replicate O.length 0):=by simpa using z
     rw [e]
   ·rcases Ck.mp hr with z | z
    ·exact⟨(rn r z).1.same u7,(rn r z).2⟩
    ·have e:r=(m,List.replicate O.length 0):=by simpa using z
     rw [e];exact⟨ak,m5⟩
   ·rw [CA,E5]
    refine⟨rd,by simp,λa ha b hb e=>?_⟩;have ZK:b=m:=by simpa using hb
    obtain⟨r,hr,rfl⟩:=Cg.mp ha;have z:=(rn r hr).1;unfold bZ at z;rw [e,ZK,m0] at z;cases z
  rintro zs σ H6 ⟨⟨GI,rfl,UI,UG,XD,XE⟩,s6,g',rfl⟩ q hq;have Ze:H5 q=none:=s6.free hq;have s7:=ao (o:=.lst (aX GI)) s6 hq
  have T7:Tb H2 (upd H6 q (.lst (aX GI))) q GI:=⟨ak,λr hr=>by
   obtain⟨z1,z2⟩:=XD r hr;have GQ:r.1≠q:=bh z1 hq;refine⟨?_,GQ,s5.free z2⟩;show upd _ q _ r.1=_
   rw [av GQ];exact z1,XE,s5.free Ze⟩
  have d7:=s7 _ _ d5;have Rk:=s5.trans s7;generalize upd H6 q (.lst (aX GI))=H7 at s7 T7 d7 Rk ⊢;rw [kl] at UI;have at0:∀i j,i < O.length->j < O.length->at2 (GI.map (·.2)) i j=0:=λi j hi hj=>by
   unfold at2;rw [Cd,B7 (show i < GI.length by omega),D1,Fi,UG _ (Cu _),EX,if_pos hj];rfl
  have len0:∀r∈GI,r.2.length=O.length:=λr hr=>by rw [UG r hr];simp
  have rb:H2 ra=some (.lst (aw rs))\/H2 ra=some (.tup (aw rs)):=HV
  refine v4 (K:=K) (Hb:=H2) (a:=ra) (xs:=aw rs) (λQ q=>⟨_,rfl,q⟩) rb Rk (λi σ Hx=>∃Gn:List (Addr×List Int),ag H2 Hx/\Tb H2 Hx q Gn/\Hx D=some (.frz o (.dK kvs))/\Gn.length=O.length/\(∀r∈Gn,r.2.length=O.length) /\
    (∀x y,x < O.length->y < O.length->at2 (Gn.map (·.2)) x y=tab (Hu O root ((rs.map (·.2)).take i)) x y)/\∃g5 g6 g7,σ=[some (.ref pa),some (.str root),some (.ref ra),some (.ref D),some (.ref q),g5,g6,g7])
   ⟨GI,Rk,T7,d7,UI,len0,λx y hx hy=>by rw [at0 x y hx hy];rfl,_,_,_,rfl⟩ (λi σ Hx _ z=>by obtain⟨_,z,_⟩:=z;exact z) ?_ ?_
  ·rintro i x σ Hx hx ⟨Gn,sx,T,dx,rl,hl,J1,g5,g6,g7,rfl⟩
   obtain⟨r,Gz,rfl⟩:=cG hx;have Jq:=Cb Gz;have r3:=sx _ _ (GD r Jq);obtain⟨in1,YQ⟩:=OP r Jq;have Ho:=w6 (O:=O) (root:=root) (rs:=rs.map (·.2)) (i:=i) (r:=r.2) (by rw [Cd,Gz];rfl);refine⟨r.1,_,rfl,Gp.of r3,rfl,_,_,rfl,_,_,rfl,_,_,rfl,rfl,?_⟩;refine⟨_,rfl,_,rfl,rfl,_,rfl,?_⟩;have e:(!decide (V.str r.2.2.2=V.str root))=!decide (r.2.2.2=root):=by simp
   rw [e];refine bJ (λc=>?_) (λc=>?_)
   ·have c':r.2.2.2≠root:=by simpa using c
    have me:=YQ c';rw [if_neg c'] at Ho;have ve:=kv.get me;have le:=eK me;obtain⟨re,Pu,OD,Oz⟩:=rK rl hl le le;have R1:(aX Gn)[GN O r.2.2.2]?=some (.ref re.1):=by rw [Cd,OD];rfl
    have gd:∀{Hz:Hp}{z:Str},Hz D=some (.frz o (.dK kvs))->z∈O->fk Hz D (.str z) (some (.int (GN O z))):=λhz hm=>.inl ⟨kvs,.inr _,.inr ⟨o,hz⟩,rfl,(kv.get hm).symm⟩;refine⟨_,rfl,_,rfl,_,rfl,_,_,rfl,gd dx me,aE (j:=GN O r.2.2.2) (.inl (Gq.of T.l)) rfl R1 ⟨_,rfl,_,rfl,_,_,rfl,gd dx me,?_⟩⟩;have N1:=(T.r re (Cb OD)).1;have V1:(re.2.map V.int)[GN O r.2.2.2]?=some (.int Pu):=by rw [Cd,Oz];rfl
    refine⟨re.1,_,_,_,rfl,rfl,Gq.of N1,by omega,by rw [Du];exact V1,_,_,rfl,rfl,re.1,_,_,GN O r.2.2.2,rfl,rfl,N1,eY (by rw [B8,hl re (Cb OD)];exact le),?_⟩;have T2:=T.bump OD Oz 1;have Q4:ag H2 (upd Hx re.1 (.lst ((re.2.map V.int).set (GN O r.2.2.2) (.int (Pu + 1))))):=ag.upd0 sx (T.r re (Cb OD)).2.2;have MK:upd Hx re.1 (.lst ((re.2.map V.int).set (GN O r.2.2.2) (.int (Pu + 1)))) D=some (.frz o (.dK kvs)):=by
     rw [av (λz=>by rw [z,N1] at dx;cases dx)];exact dx
    generalize upd Hx re.1 (.lst ((re.2.map V.int).set (GN O r.2.2.2) (.int (Pu + 1))))=Hy at T2 Q4 MK ⊢;have N8:=(oP Gn (GN O r.2.2.2) (GN O r.2.2.2) 1).trans rl;have JV:=pP Gn (GN O r.2.2.2) (GN O r.2.2.2) 1 _ hl;have MI:=qt Gn (GN O r.2.2.2) (GN O r.2.2.2) 1 _ rl hl;generalize Jz Gn (GN O r.2.2.2) (GN O r.2.2.2) 1=JL at T2 N8 JV MI;refine⟨_,rfl,_,rfl,rfl,_,rfl,?_⟩;have e:(!decide (V.str r.2.2.1=V.str root))=!decide (r.2.2.1=root):=by simp
    rw [e];refine bJ (λd=>?_) (λd=>?_)
    ·have d':r.2.2.1≠root:=by simpa using d
     have ms:=in1 d';rw [if_neg d'] at Ho;have ls:=eK ms;obtain⟨rt,vt,LC,Vk⟩:=rK N8 JV ls le;have R2:(aX JL)[GN O r.2.2.1]?=some (.ref rt.1):=by rw [Cd,LC];rfl
     refine⟨_,rfl,_,rfl,_,rfl,_,_,rfl,gd MK ms,aE (j:=GN O r.2.2.1) (.inl (Gq.of T2.l)) rfl R2 ⟨_,rfl,_,rfl,_,_,rfl,gd MK me,?_⟩⟩;have N2:=(T2.r rt (Cb LC)).1;have V2:(rt.2.map V.int)[GN O r.2.2.2]?=some (.int vt):=by rw [Cd,Vk];rfl
     refine⟨rt.1,_,_,_,rfl,rfl,Gq.of N2,by omega,by rw [Du];exact V2,_,_,rfl,rfl,rt.1,_,_,GN O r.2.2.2,rfl,rfl,N2,eY (by rw [B8,JV rt (Cb LC)];exact le),?_⟩;have T3:=T2.bump LC Vk (-1);rw [<- Int.sub_eq_add_neg] at T3;refine⟨_,ag.upd0 Q4 (T2.r rt (Cb LC)).2.2,T3,by rw [av (λz=>by rw [z,N2] at MK;cases MK)];exact MK,(oP _ _ _ _).trans N8,pP _ _ _ _ _ JV,λx y hx hy=>?_,_,_,_,rfl⟩;rw [qt _ _ _ _ _ N8 JV x y hx hy,MI x y hx hy,J1 x y hx hy,Ho,nF];unfold one
     by_cases b1:y=GN O r.2.2.2
     ·subst b1
      simp only [and_true,if_true,E3];have:(GN O r.2.2.1=x) ↔ (x=GN O r.2.2.1):=eq_comm;simp only [this];split <;> split <;> omega
     ·simp [b1,Dy b1]
    ·have d':r.2.2.1=root:=by simpa using d
     rw [if_pos d'] at Ho;refine⟨JL,Q4,T2,MK,N8,JV,λx y hx hy=>?_,_,_,_,rfl⟩;rw [MI x y hx hy,J1 x y hx hy,Ho,nF];unfold one
     by_cases b1:y=GN O r.2.2.2
     ·subst b1
      simp
     ·simp [b1,Dy b1]
   ·have c':r.2.2.2=root:=by simpa using c
    rw [if_pos c',Eo] at Ho;exact⟨Gn,sx,T,dx,rl,hl,λx y hx hy=>by rw [Ho];exact J1 x y hx hy,_,_,_,rfl⟩
  rintro σ Hx ⟨Gn,sx,T,dx,rl,hl,J1,g5,g6,g7,rfl⟩;rw [B8,take_all _ (by simp)] at J1;refine⟨_,rfl,q,rfl,⟨_,Gq.of T.l⟩,?_⟩;refine iX (K:=K) (xs:=aX Gn) (fits (by simp;omega)) (λi zs σ Hy=>(∃rt:List (Addr×List Int),zs=aX rt/\rt.map (·.2)=(Gn.map (·.2)).take i/\∀r∈rt,bZ Hy false r)/\ag Hx Hy/\∃g,σ=[g])
   ⟨⟨[],rfl,by simp,by simp⟩,ag.refl _,_,rfl⟩ (λi zs σ Hy hi z=>by
    obtain⟨⟨rt,rfl,e,_⟩,sy,_⟩:=z;have:=congrArg List.length e;simp at this
    exact⟨by simp;omega,Gq.of (sy _ _ T.l)⟩) ?_ ?_
  ·rintro i x zs σ Hy hx ⟨⟨rt,rfl,e,hn⟩,sy,g,rfl⟩
   rw [Cd] at hx;obtain⟨r,Gz,rfl⟩:∃r,Gn[i]?=some r/\x=.ref r.1:=by
    cases e:Gn[i]? with
    | none=>rw [e] at hx;cases hx
    | some z=>rw [e] at hx;cases hx;exact⟨z,rfl,rfl⟩
   have N1:=(T.r r (Cb Gz)).1.same sy;refine⟨_,rfl,r.1,_,rfl,.inl ⟨Gq.of N1,λn Kb=>?_⟩⟩;have u:=ao (o:=.tup (r.2.map V.int)) (ag.refl Hy) Kb;refine⟨⟨rt++[(n,r.2)],by simp [aX],by rw [CA,e,Dd,Cd,Gz];rfl,λz hz=>?_⟩,sy.trans u,_,rfl⟩
   rcases Ck.mp hz with y | y
   ·exact (hn z y).same u
   ·have e:z=(n,r.2):=by simpa using y
    rw [e];exact ak
  rintro zs σ Hy ⟨⟨rt,rfl,e,hn⟩,sy,g,rfl⟩ l Jd;rw [B8,take_all _ (by simp)] at e;have u:=ao (o:=.lst (aX rt)) (ag.refl Hy) Jd;have l8:upd Hy l (.lst (aX rt)) l=some (.lst (aX rt)):=ak;generalize upd Hy l (.lst (aX rt))=Hz at u l8 ⊢;refine⟨l,_,rfl,.inl ⟨Gq.of l8,λn Kb=>?_⟩⟩;have u2:=ao (o:=.tup (aX rt)) (ag.refl Hz) Kb;have el:rt.length=Gn.length:=by have:=congrArg List.length e;simpa using this
  refine hk n rt _ (sx.trans (sy.trans (u.trans u2))) ak (λr hr=>(hn r hr).same (u.trans u2)) (by omega) (λr hr=>?_) (λi j hi hj=>by rw [e];exact J1 i j hi hj);have:r.2∈Gn.map (·.2):=by rw [<- e];exact Cg.mpr ⟨r,hr,rfl⟩
  obtain⟨r',h1,h2⟩:=Cg.mp this;rw [<- h2];exact hl r' h1
theorem one_le (t:Ti) (r:Nat):(one t r).natAbs<=1:=by
 unfold one;split <;> split <;> decide
theorem xU (l:List Int) (h:∀x∈l,x.natAbs<=1):l.sum.natAbs<=l.length:=by
 induction l with
 | nil=>exact Cc _
 | cons x l ih =>
  have h1:=ih λy hy=>h y (Cj _ hy);have h2:=h x Cf;rw [DB,C5];have:=Int.natAbs_add_le x l.sum;omega
theorem xV (E:List Ti) (i j:Nat):(tab E i j).natAbs<=E.length:=by
 unfold tab;refine CB (xU _ λx hx=>?_) (by rw [B8];exact CF _ _);obtain⟨t,_,rfl⟩:=Cg.mp hx;exact one_le t i
theorem xk (O:List Str) (root:Str) (rs:List Row):(Hu O root rs).length<=rs.length:=by
 unfold Hu;rw [B8];exact CF _ _
def a9 (ps:List Str) (root:Str) (rs:List Row):Int:=dt (others ps root).length (tab (Hu (others ps root) root rs))
def iP:Sp:=λvs H Q _=>∃(pa ra:Addr) (root:Str) (ps:List Str) (rs:List (Addr×Row)),vs=[.ref pa,.str root,.ref ra]/\H pa=some (.tup (ps.map V.str))/\(H ra=some (.lst (aw rs))\/H ra=some (.tup (aw rs)))/\(∀r∈rs,bM H r.1 r.2) /\
 ps.Nodup/\ps.length<=8/\rs.length<=60/\(∀r∈rs,r.2.2.1∈ps/\r.2.2.2∈ps)/\∀H',ag H H'->Q (.int (a9 ps root (rs.map (·.2)))) H'
theorem Bj:aV ["places","root","rows"] ["places","root","rows"] (aH (top 36)):=⟨rfl,rfl,rfl,by decide +kernel,rfl,by decide +kernel,by decide +kernel⟩
theorem tU (F:Gy K "count_of" "count_of" (top 36) f fd) (F1:Fn P w K mg base 2 "determinant" ["rows"] rE) (F2:Fn P w K mg base 1 "table_of" ["places","root","rows"] lN):au P w K mg base GB 3 f fd ["places","root","rows"] iP:=by
 refine F.ok Bj (λvs H Q E h=>?_) (λ_ _ _ _ H vs Q E hr h=>?_)
 ·obtain⟨pa,ra,root,ps,rs,rfl,_⟩:=h
  rfl
 ·obtain⟨pa,ra,root,ps,rs,rfl,IU,HV,GD,GE,p8,Ru,Je,k⟩:=h
  have GP:aT 1 _:=hr.mono (by decide);refine⟨_,aq (aG (ar F1 hr (aa (ar F2 GP (aa (pv 0) (aa (pv 1) (aa (pv 2) ae)))) ae))),?_⟩;refine⟨_,rfl,_,rfl,_,rfl,pa,ra,root,ps,rs,rfl,IU,HV,GD,GE,p8,Ru,Je,λq Gn H1 s1 hq Gz hl JV J1=>?_⟩;have o8:(others ps root).length<=8:=CB (CF _ _) p8;refine⟨q,Gn,rfl,hq,Gz,λr hr=>by rw [JV r hr,hl],by omega,λr hr x hx=>?_,λH2 s2=>?_⟩
  ·obtain⟨i,j,hi,hj,rfl⟩:=oQ (L:=Gn.map (·.2)) (n:=(others ps root).length) (λrow GD=>by
    obtain⟨r,hr,rfl⟩:=Cg.mp GD
    exact JV r hr) (Cg.mpr ⟨r,hr,rfl⟩) hx
   rw [B8,hl] at hi;rw [J1 i j hi hj];refine CB (xV _ _ _) (CB (xk _ _ _) ?_);rw [B8];exact CB Ru (by decide)
  ·have e:dt Gn.length (at2 (Gn.map (·.2)))=a9 ps root (rs.map (·.2)):=by
    rw [hl];exact bP λr c hr hc=>J1 r c hr hc
   have q:=k H2 (s1.trans s2);rw [<- e] at q;exact q
def jh:Sp:=λvs H Q _=>∃(v pa ra:Addr) (root:Str) (ps:List Str) (rs:List (Addr×Row)),vs=[.ref v,.str root]/\bc H v pa ra ps rs/\Good ps (rs.map (·.2))/\ps.length<=8/\root∈ps/\∀H',ag H H'->Q (.int (a9 ps root (rs.map (·.2)))) H'
theorem sG:aV ["web","root"] ["web","root"] (aH (top 40)):=⟨rfl,rfl,rfl,by decide +kernel,rfl,by decide +kernel,by decide +kernel⟩
theorem nV (F:Gy K "count" "count" (top 40) f fd) (F1:Fn P w K mg base 4 "need_web" ["thing"] (fg .non)) (F2:Fn P w K mg base 2 "need_place" ["web","thing"] gi) (F3:Fn P w K mg base 3 "count_of" ["places","root","rows"] iP):au P w K mg base GB 5 f fd ["web","root"] jh:=by
 refine F.ok sG (λvs H Q E h=>?_) (λ_ _ _ _ H vs Q E hr h=>?_)
 ·obtain⟨v,pa,ra,root,ps,rs,rfl,_⟩:=h
  rfl
 ·obtain⟨v,pa,ra,root,ps,rs,rfl,W,G,p8,Gr,k⟩:=h
  have Hd:aT 2 _:=hr.mono (by decide);have HI:aT 3 _:=hr.mono (by decide);refine⟨_,aj (bp (ar F1 hr (aa (pv 0) ae))) (aj (bp (ar F2 Hd (aa (pv 0) (aa (pv 1) ae)))) (aq (aG (ar F3 HI (aa (aA aF (pv 0) ai (λ_ _=>rfl)) (aa (pv 1) (aa (aA aF (pv 0) ai (λ_ _=>rfl)) ae))))))),?_⟩;refine⟨_,rfl,v,pa,ra,ps,rs,rfl,W,G,λH1 s1=>⟨_,rfl,_,rfl,v,pa,ra,ps,rs,root,rfl,W.same s1,Gr,?_⟩⟩;have W1:=W.same s1;refine⟨_,rfl,aE (j:=0) (.inr (Gp.of W1.tp)) rfl rfl ⟨_,rfl,_,rfl,aE (j:=1) (.inr (Gp.of W1.tp)) rfl rfl ⟨pa,ra,root,ps,rs,rfl,W1.pl,.inr W1.rl,W1.rows,cz G.so,p8,by have:=G.rz;simpa using this,λr hr=>?_,λH2 s2=>k H2 (s1.trans s2)⟩⟩⟩;obtain⟨_,h2,h3,_⟩:=G.rn r.2 (Cg.mpr ⟨r,hr,rfl⟩);exact⟨h2,h3⟩
def ID (rs:List Row) (O:List Str):List (List Str):=O.foldl (λGG x=>(rs.filter λr=>decide (r.2.2=x)).flatMap λr=>GG.map λc=>c++[r.2.1]) [[]]
theorem gW (rs:List Row) (O:List Str) (x:Str):ID rs (O++[x])=(rs.filter λr=>decide (r.2.2=x)).flatMap λr=>(ID rs O).map λc=>c++[r.2.1]:=by
 unfold ID;rw [FV];rfl
theorem nN {α β:Type} (l:List α) (f:α->List β) (n:Nat) (h:∀x∈l,(f x).length=n):(l.flatMap f).length=l.length * n:=by
 induction l with
 | nil=>simp
 | cons x l ih=>rw [List.flatMap_cons,Di,h x Cf,ih λy hy=>h y (Cj _ hy),C5,Nat.succ_mul,Nat.add_comm]
theorem iM (rs:List Row) (O:List Str):∀j,∀c∈ID rs (O.take j),c.length=(O.take j).length
 | 0,c,h=>by
  have:c=[]:=by simpa [ID] using h
  simp [this]
 | j + 1,c,h=>by
  cases e:O[j]? with
  | none =>
   have hl:O.length<=j:=by simpa using e
   rw [Df (by omega:O.length<=j + 1)] at h ⊢;have:=iM rs O j c (by rw [Df hl];exact h)
   rwa [Df hl] at this
  | some x =>
   rw [Dd,e] at h ⊢;simp only [FK] at h ⊢;rw [gW,EA] at h;obtain⟨r,_,h⟩:=h;obtain⟨c0,h0,rfl⟩:=Cg.mp h;have:=iM rs O j c0 h0;simp [this]
theorem yE {rs:List Row}{O:List Str}{c:List Str} (h:c∈ID rs O):c.length=O.length:=by
 have:=iM rs O O.length c (by rw [Dg];exact h)
 rwa [Dg] at this
def Kd (O:List Str) (root:Str) (c:List Str):Nat->Option Nat:=λv=>match c[v]? with
 | none=>none
 | some b=>if b=root then none else some (GN O b)
theorem we (O:List Str) (root:Str) (c:List Str) (b:Str) (j:Nat) (hj:c.length=j):Ln (Kd O root c) j (if b=root then none else some (GN O b))=Kd O root (c++[b]):=by
 subst hj
 funext v
 unfold Ln Kd
 by_cases e:v=c.length
 ·subst e
  simp
 ·rw [if_neg e]
  by_cases h:v < c.length
  ·rw [CV h]
  ·rw [List.getElem?_eq_none (by omega),List.getElem?_eq_none (by simp;omega)]
theorem hZ {O:List Str} (nd:O.Nodup) {j:Nat}{x:Str} (h:O[j]?=some x):GN O x=j:=by
 obtain⟨hj,e⟩:=Ca.mp h;have hm:x∈O:=by rw [<- e];exact Cu hj
 have h1:=eK hm;have h2:=il hm;obtain⟨h3,h4⟩:=Ca.mp h2;exact (Ew (h₀:=h3) (h₁:=hj) nd).mp (h4.trans e.symm)
theorem pK {O:List Str}{root:Str}{rs:List Row} (nd:O.Nodup) (hO:root∉O) (hr:∀r∈rs,r.2.2≠root->r.2.2∈O):∀j,j<=O.length->Ji (Hu O root rs) j=(ID rs (O.take j)).map (Kd O root)
 | 0,_=>by
  simp only [Ji,List.take_zero];show _=[Kd O root []]
  congr 1
 | j + 1,hj=>by
  have ih:=pK nd hO hr j (by omega);obtain⟨x,hx⟩:∃x,O[j]?=some x:=⟨O[j],B7 (by omega)⟩
  have Sf:x∈O:=Cb hx;rw [Dd,hx];simp only [FK];rw [gW,Ji,ih];have ef:(Hu O root rs).filter (λt=>t.2 == j)=(rs.filter λr=>decide (r.2.2=x)).map λr=>(if r.2.1=root then none else some (GN O r.2.1),GN O r.2.2):=by
   unfold Hu;rw [Et,Dm]
   congr 1
   refine Dw λr Gz=>?_
   by_cases c:r.2.2=root
   ·have:r.2.2≠x:=λz=>hO (by rw [<- c,z];exact Sf)
    simp [c];exact λz=>this (c.trans z)
   ·have hm:=hr r Gz c
    simp [c];rw [Dj];simp;constructor
    ·intro z
     have h1:=il hm;rw [z,hx] at h1;exact (CZ h1).symm
    ·intro z
     rw [z];exact hZ nd hx
  rw [ef,List.flatMap_map,List.map_flatMap]
  congr 1
  funext r
  rw [CH,CH];refine Dx λc hc=>?_;have hl:c.length=j:=by rw [iM rs O j c hc,Dc];omega
  exact we O root c r.2.1 j hl
def IZ (O:List Str) (root:Str) (c:List Str) (x:Str):Str:=if x=root then x else (c[GN O x]?).getD x
def IE (O:List Str) (root:Str) (c:List Str):Nat->Str->Str
 | 0,x=>x
 | k + 1,x=>IZ O root c (IE O root c k x)
def enc (O:List Str) (root x:Str):Option Nat:=if x=root then none else some (GN O x)
def In (O:List Str) (root x:Str):Prop:=x=root\/x∈O
theorem y4 {O:List Str}{root:Str}{c:List Str}{x:Str} (hc:∀b∈c,In O root b) (hx:In O root x):In O root (IZ O root c x):=by
 unfold IZ;split
 ·exact hx
 ·cases e:c[GN O x]? with
  | none=>exact hx
  | some b=>exact hc b (Cb e)
theorem qc {O:List Str}{root:Str}{c:List Str}{x:Str} (hc:∀b∈c,In O root b) (hx:In O root x):∀k,In O root (IE O root c k x)
 | 0=>hx
 | k + 1=>y4 hc (qc hc hx k)
theorem yy {O:List Str}{root:Str}{c:List Str}{x:Str} (hl:c.length=O.length) (hx:In O root x):(enc O root x).bind (Kd O root c)=enc O root (IZ O root c x):=by
 unfold enc IZ
 by_cases h:x=root
 ·simp [h]
 ·have hm:x∈O:=by rcases hx with z | z;exact absurd z h;exact z
  have GO:=eK hm;rw [if_neg h,if_neg h];show Kd O root c (GN O x)=_;unfold Kd;rw [B7 (by omega)];simp
theorem kN {O:List Str}{root:Str}{c:List Str}{x:Str} (hc:∀b∈c,In O root b) (hl:c.length=O.length) (hx:In O root x):∀k,II (Kd O root c) k (enc O root x)=enc O root (IE O root c k x)
 | 0=>rfl
 | k + 1=>by rw [nU,kN hc hl hx k,yy hl (qc hc hx k)];rfl
theorem kh (O:List Str) (root:Str) (c:List Str):∀k,IE O root c k root=root
 | 0=>rfl
 | k + 1=>by rw [IE,kh O root c k];simp [IZ]
theorem nH {O:List Str}{root x:Str}:(enc O root x).isNone=decide (x=root):=by
 unfold enc
 by_cases h:x=root <;> simp [h]
theorem zf {O:List Str}{root:Str}{rs:List Row} (hr:∀r∈rs,In O root r.2.1):∀(L:List Str),∀c∈ID rs L,∀b∈c,In O root b:=by
 have key:∀(n:Nat) (L:List Str),L.length=n->∀c∈ID rs L,∀b∈c,In O root b:=λn=>by
  induction n with
  | zero =>
   intro L hL c hc b hb;have:L=[]:=Em.mp hL;subst this;have:c=[]:=by simpa [ID] using hc
   subst this;simp at hb
  | succ n ih =>
   intro L hL c hc b hb;obtain⟨L0,x,rfl⟩:∃L0 x,L=L0++[x]:=⟨L.dropLast,L.getLast (by intro z;simp [z] at hL),(DF _).symm⟩
   rw [gW,EA] at hc;obtain⟨r,Gz,h⟩:=hc;obtain⟨c0,h0,rfl⟩:=Cg.mp h
   rcases Ck.mp hb with z | z
   ·exact ih L0 (by simpa using hL) c0 h0 b z
   ·have e:b=r.2.1:=by simpa using z
    rw [e];exact hr r (Cr.mp Gz).1
 exact λL=>key L.length L rfl
def gQ (ps O:List Str) (root:Str) (c:List Str):Bool:=ps.all λx=>decide (IE O root c O.length x=root)
theorem zK {ps:List Str}{root:Str}{c:List Str} (hc:∀b∈c,In (others ps root) root b) (hl:c.length=(others ps root).length) (nd:(others ps root).Nodup) :
  comes (others ps root).length (Kd (others ps root) root c)=gQ ps (others ps root) root c:=by
 rw [Dj];unfold comes gQ;rw [CY,CY];generalize hO:others ps root=O at hc hl nd;constructor
 ·intro h x hx
  by_cases e:x=root
  ·rw [e,kh];simp
  ·have hm:x∈O:=by rw [<- hO];exact cx.mpr ⟨hx,e⟩
   have q:=h (GN O x) (DC.mpr (eK hm));have e2:enc O root x=some (GN O x):=by simp [enc,e]
   rw [<- e2,kN hc hl (.inr hm),nH] at q;exact q
 ·intro h v hv
  have Y1:=DC.mp hv;obtain⟨y,hy⟩:∃y,O[v]?=some y:=⟨O[v],B7 Y1⟩
  have hm:y∈O:=Cb hy;have Qj:y∈others ps root:=by rw [hO];exact hm
  obtain⟨h1,h2⟩:=cx.mp Qj;have q:=h y h1;have e2:enc O root y=some v:=by
   simp only [enc,if_neg h2,E3];exact hZ nd hy
  rw [<- e2,kN hc hl (.inr hm),nH];exact q
theorem kM {ps:List Str}{root:Str}{rs:List Row} (GE:ps.Nodup) (Je:∀r∈rs,r.2.1∈ps/\r.2.2∈ps) :
  a9 ps root rs=(((ID rs (others ps root)).filter (gQ ps (others ps root) root)).length:Int):=by
 have nd:(others ps root).Nodup:=GE.filter _;have hIn:∀x∈ps,In (others ps root) root x:=λx hx=>by
  by_cases e:x=root
  ·exact .inl e
  ·exact .inr (cx.mpr ⟨hx,e⟩)
 unfold a9
 rw [wK λt ht u hu=>by
  obtain⟨r,hr,rfl⟩:=Cg.mp ht;obtain⟨hr,_⟩:=Cr.mp hr
  dsimp only at hu
  split at hu
  ·cases hu
  ·rename_i h
   cases hu
   exact eK (cx.mpr ⟨(Je r hr).1,h⟩)]
 have e:=pK (O:=others ps root) (root:=root) (rs:=rs) nd (λz=>(cx.mp z).2 rfl) (λr hr h=>cx.mpr ⟨(Je r hr).2,h⟩) (others ps root).length (Cc _);rw [Dg] at e;rw [e,Et,B8]
 congr 2
 refine Dw λc hc=>?_;exact zK (zf (λr hr=>hIn _ (Je r hr).1) _ c hc) (yE hc) nd
end K85
namespace L2
open PySem PySem.Spec PyProof.Rows PySem.W PySem.Calls
open Builtin
end L2
namespace K85
open PySem L2 PySem.Spec PyProof.Rows PySem.W PySem.Calls
abbrev jE (Xg:List (Addr×List Str)):List V:=Xg.map λx=>V.ref x.1
def rW (H:Hp) (Iu:List (Addr×List Str)):Prop:=∀x∈Iu,H x.1=some (.tup (x.2.map V.str))
end K85
namespace DT
def Dk (M:Mx) (S:List Nat):Int:=dt S.length (λr c=>M r ((S[c]?).getD 0))
def ins (c:Nat) (S:List Nat):List Nat:=S.filter (λx=>decide (x < c))++c::S.filter (λx=>decide (c < x))
def con (M:Mx) (k:Nat) (p:List Nat×Nat):Int:=Dk M p.1 * M k p.2 * sg ((p.1.filter λx=>decide (p.2 < x)).length)
end DT
namespace K85
open PySem L2 DT
def fR (O:List Str) (root:Str) (q:Row):Ti:=(if q.2.1=root then none else some (GN O q.2.1),GN O q.2.2)
theorem ug {O:List Str}{root:Str}{rs:List Row} (nd:O.Nodup) (hO:root∉O) (hr:∀r∈rs,r.2.2≠root->r.2.2∈O) {j:Nat}{x:Str} (hx:O[j]?=some x) :
  (Hu O root rs).filter (λt=>t.2 == j)=(rs.filter λr=>decide (r.2.2=x)).map (fR O root):=by
 have Sf:x∈O:=Cb hx;unfold Hu;rw [Et,Dm];unfold fR
 congr 1
 refine Dw λr Gz=>?_
 by_cases c:r.2.2=root
 ·have:r.2.2≠x:=λz=>hO (by rw [<- c,z];exact Sf)
  simp [c];exact λz=>this (c.trans z)
 ·have hm:=hr r Gz c
  simp [c];rw [Dj];simp;constructor
  ·intro z
   have h1:=il hm;rw [z,hx] at h1;exact (CZ h1).symm
  ·intro z
   rw [z];exact hZ nd hx
def only (R:List Row) (w:Row):List Row:=R.filter λr=>decide (r=w) || !decide (r.2.2=w.2.2)
def wo (R:List Row) (w:Row):List Row:=R.filter λr=>!decide (r=w)
def Ir (ps:List Str) (R:List Row):Prop:=∀r∈R,r.2.1∈ps/\r.2.2∈ps
theorem Ir.sub {ps:List Str}{R R':List Row} (h:Ir ps R) (s:∀r∈R',r∈R):Ir ps R':=λr hr=>h r (s r hr)
theorem ja {R:List Row}{w:Row}:∀r∈only R w,r∈R:=λr hr=>(Cr.mp hr).1
theorem jx {R:List Row}{w:Row}:∀r∈wo R w,r∈R:=λr hr=>(Cr.mp hr).1
theorem i4 {R:List Row}{w r:Row}:r∈only R w ↔ r∈R/\(r=w\/r.2.2≠w.2.2):=by
 unfold only;rw [Cr];simp
theorem qj {R:List Row}{w r:Row}:r∈wo R w ↔ r∈R/\r≠w:=by
 unfold wo;rw [Cr];simp
section
variable {ps:List Str}{root:Str}
theorem ib (GE:ps.Nodup) {R:List Row} (h:Ir ps R) {j:Nat}{x:Str} (hx:(others ps root)[j]?=some x) (r:Nat) :
  tab (Hu (others ps root) root R) r j=((R.filter λq=>decide (q.2.2=x)).map λq=>one (fR (others ps root) root q) r).sum:=by
 unfold tab;rw [ug (O:=others ps root) (GE.filter _) (λz=>(cx.mp z).2 rfl) (λq hq hn=>cx.mpr ⟨(h q hq).2,hn⟩) hx,CH];rfl
theorem pH {α:Type} [DecidableEq α] (f:α->Int) (w:α):∀l:List α,l.Nodup->w∈l->(l.map f).sum=f w + ((l.filter λx=>!decide (x=w)).map f).sum
 | [],_,h=>by simp at h
 | x::l,nd,h=>by
  obtain⟨h1,h2⟩:=CG.mp nd
  by_cases e:x=w
  ·subst e
   have:l.filter (λy=>!decide (y=x))=l:=List.filter_eq_self.mpr λy hy=>by simp;exact λz=>h1 (z ▸ hy)
   rw [CD,DB,DX,if_neg (by simp),this]
  ·rw [CD,DB,DX,if_pos (by simp [e]),CD,DB,pH f w l h2 (by simpa [Dy e] using h)]
   omega
theorem sum_in {α:Type} [DecidableEq α] (f:α->Int) (w:α):∀l:List α,l.Nodup->w∈l->((l.filter λx=>decide (x=w)).map f).sum=f w
 | [],_,h=>by simp at h
 | x::l,nd,h=>by
  obtain⟨h1,h2⟩:=CG.mp nd
  by_cases e:x=w
  ·subst e
   have:l.filter (λy=>decide (y=x))=[]:=E8.mpr λy hy=>by simp;exact λz=>h1 (z ▸ hy)
   rw [DX,if_pos (by simp),this];simp
  ·rw [DX,if_neg (by simp [e])]
   exact sum_in f w l h2 (by simpa [Dy e] using h)
theorem nI (GE:ps.Nodup) {R:List Row}{w:Row} (h:Ir ps R) (nd:R.Nodup) (hw:w∈R) (hr:w.2.2≠root):a9 ps root R=a9 ps root (only R w) + a9 ps root (wo R w):=by
 have hm:w.2.2∈others ps root:=cx.mpr ⟨(h w hw).2,hr⟩;have hk:=il hm;have KH:(others ps root).Nodup:=GE.filter _;unfold a9;have other:∀(c:Nat) (R':List Row),(∀r∈R',r∈R)->(∀x,x≠w.2.2->(R'.filter λq=>decide (q.2.2=x))=R.filter λq=>decide (q.2.2=x))->∀r,c < (others ps root).length->c≠GN (others ps root) w.2.2 ->
   tab (Hu (others ps root) root R') r c=tab (Hu (others ps root) root R) r c:=λc R' hs hf r hc GQ=>by
  have hx:(others ps root)[c]?=some (others ps root)[c]:=B7 hc;rw [ib GE (h.sub hs) hx,ib GE h hx,hf _ λz=>GQ (by rw [<- z];exact (hZ KH hx).symm)]
 refine qx (k:=GN (others ps root) w.2.2) (eK hm) (λr c _ hc GQ=>other c _ ja (λx hx=>?_) r hc GQ) (λr c _ hc GQ=>other c _ jx (λx hx=>?_) r hc GQ) λr _=>?_
 ·unfold only
  rw [Dm];refine Dw λq _=>?_
  by_cases z:q.2.2=x
  ·have:¬ q.2.2=w.2.2:=λy=>hx (z ▸ y)
   simp [z,this];exact .inr λy=>hx y
  ·simp [z]
 ·unfold wo
  rw [Dm];refine Dw λq _=>?_
  by_cases z:q.2.2=x
  ·have:¬ q=w:=λy=>hx (by rw [<- z,y])
   simp [z,this]
  ·simp [z]
 ·rw [ib GE h hk,ib GE (h.sub ja) hk,ib GE (h.sub jx) hk]
  have e1:((only R w).filter λq=>decide (q.2.2=w.2.2))=(R.filter λq=>decide (q.2.2=w.2.2)).filter λq=>decide (q=w):=by
   unfold only;rw [Dm,Dm];refine Dw λq _=>?_
   by_cases z:q=w
   ·simp [z]
   ·by_cases y:q.2.2=w.2.2 <;> simp [z,y]
  have e2:((wo R w).filter λq=>decide (q.2.2=w.2.2))=(R.filter λq=>decide (q.2.2=w.2.2)).filter λq=>!decide (q=w):=by
   unfold wo;rw [Dm,Dm];exact Dw λq _=>Bool.and_comm _ _
  have VD:w∈R.filter λq=>decide (q.2.2=w.2.2):=Cr.mpr ⟨hw,by simp⟩;rw [e1,e2,sum_in _ w _ (nd.filter _) VD];exact pH _ w _ (nd.filter _) VD
theorem pb {R:List Row}{w:Row} (hr:w.2.2=root):a9 ps root (wo R w)=a9 ps root R:=by
 unfold a9;have:Hu (others ps root) root (wo R w)=Hu (others ps root) root R:=by
  unfold Hu wo;rw [Dm]
  congr 1
  refine Dw λq _=>?_
  by_cases z:q.2.2=root
  ·simp [z]
  ·have:¬ q=w:=λy=>z (by rw [y];exact hr)
   simp [z,this]
 rw [this]
theorem lI (GE:ps.Nodup) {R:List Row} (h:Ir ps R):0<=a9 ps root R:=by
 rw [kM GE h];omega
theorem xW {R:List Row} (h:∀x,(R.filter λr=>decide (r.2.2=x)).length<=1):∀(m:Nat) (O:List Str),O.length=m->(ID R O).length<=1:=λm=>by
 induction m with
 | zero =>
  intro O hO;have:O=[]:=Em.mp hO;subst this;exact Cc _
 | succ m ih =>
  intro L hL;obtain⟨L0,x,rfl⟩:∃L0 x,L=L0++[x]:=⟨L.dropLast,L.getLast (by intro z;simp [z] at hL),(DF _).symm⟩
  rw [gW,nN _ _ (ID R L0).length (λx _=>by simp)];have h1:=ih L0 (by simpa using hL);have h2:=h x;exact CB (FF h2 h1) (Cc _)
theorem qk (GE:ps.Nodup) {R:List Row} (h:Ir ps R) (nd:R.Nodup) (hu:∀r∈R,∀q∈R,r.2.2=q.2.2->r=q):a9 ps root R=0\/a9 ps root R=1:=by
 have h1:(ID R (others ps root)).length<=1:=xW (λx=>by
  match e:R.filter λr=>decide (r.2.2=x) with
  | []=>rw [e];simp
  | [a]=>rw [e];simp
  | a::b::l =>
   exfalso
   have ha:a∈R.filter λr=>decide (r.2.2=x):=by rw [e];simp
   have hb:b∈R.filter λr=>decide (r.2.2=x):=by rw [e];simp
   obtain⟨a1,a2⟩:=Cr.mp ha;obtain⟨b1,b2⟩:=Cr.mp hb;have ab:=hu a a1 b b1 ((of_decide_eq_true a2).trans (of_decide_eq_true b2).symm);have:=nd.filter λr:Row=>decide (r.2.2=x);rw [e] at this
   simp [ab] at this) _ _ rfl
 have h2:=lI GE h (root:=root);rw [kM GE h] at h2 ⊢;have h3:=CF (gQ ps (others ps root) root) (ID R (others ps root));omega
def TL (ps:List Str) (root:Str):List Row->List Row->List Row->List (List Row)
 | [],R,C=>if a9 ps root R=0 then [] else [C]
 | w::ws,R,C=>if w∈R then (if w.2.2=root then TL ps root ws (wo R w) C else TL ps root ws (only R w) (C++[w])++TL ps root ws (wo R w) C) else TL ps root ws R C
structure Iv (ps:List Str) (root:Str) (ws R C:List Row):Prop where
 wn:ws.Nodup
 nd:R.Nodup
 ins:Ir ps R
 cov:∀r∈R,r∈C\/r∈ws
 ch:∀c∈C,c∈R/\c.2.2≠root/\(∀r∈R,r.2.2=c.2.2->r=c)/\c∉ws
 cn:C.Nodup
theorem Iv.take {w:Row}{ws R C:List Row} (I:Iv ps root (w::ws) R C) (hw:w∈R) (hr:w.2.2≠root):Iv ps root ws (only R w) (C++[w]):=by
 obtain⟨w1,w2⟩:=CG.mp I.wn;have Vj:w∉C:=λz=>(I.ch w z).2.2.2 Cf;refine⟨w2,I.nd.filter _,I.ins.sub ja,λr Gz=>?_,λc hc=>?_,?_⟩
 ·obtain⟨h1,h2⟩:=i4.mp Gz
  rcases I.cov r h1 with z | z
  ·exact .inl (CM _ z)
  ·rcases Ci.mp z with y | y
   ·exact .inl (by rw [y];simp)
   ·exact .inr y
 ·rcases Ck.mp hc with z | z
  ·obtain⟨a,b,d,e⟩:=I.ch c z
   refine⟨i4.mpr ⟨a,.inr λy=>?_⟩,b,λr Gz=>d r (ja r Gz),λy=>e (Cj _ y)⟩;exact Vj (d w hw y.symm ▸ z)
  ·have e:c=w:=by simpa using z
   subst e;refine⟨i4.mpr ⟨hw,.inl rfl⟩,hr,λr Gz he=>?_,w1⟩
   rcases (i4.mp Gz).2 with y | y
   ·exact y
   ·exact absurd he y
 ·rw [E5]
  exact⟨I.cn,by simp,λa ha b hb z=>Vj (by rw [show w=b by simpa using (by simpa using hb:b=w).symm,<- z];exact ha)⟩
theorem Iv.drop {w:Row}{ws R C:List Row} (I:Iv ps root (w::ws) R C):Iv ps root ws (wo R w) C:=by
 obtain⟨w1,w2⟩:=CG.mp I.wn;refine⟨w2,I.nd.filter _,I.ins.sub jx,λr Gz=>?_,λc hc=>?_,I.cn⟩
 ·obtain⟨h1,h2⟩:=qj.mp Gz
  rcases I.cov r h1 with z | z
  ·exact .inl z
  ·rcases Ci.mp z with y | y
   ·exact absurd y h2
   ·exact .inr y
 ·obtain⟨a,b,d,e⟩:=I.ch c hc
  exact⟨qj.mpr ⟨a,λy=>e (by rw [y];simp)⟩,b,λr Gz=>d r (jx r Gz),λy=>e (Cj _ y)⟩
theorem Iv.skip {w:Row}{ws R C:List Row} (I:Iv ps root (w::ws) R C) (hw:w∉R):Iv ps root ws R C:=by
 obtain⟨w1,w2⟩:=CG.mp I.wn;refine⟨w2,I.nd,I.ins,λr Gz=>?_,λc hc=>?_,I.cn⟩
 ·rcases I.cov r Gz with z | z
  ·exact .inl z
  ·rcases Ci.mp z with y | y
   ·exact absurd (y ▸ Gz) hw
   ·exact .inr y
 ·obtain⟨a,b,d,e⟩:=I.ch c hc
  exact⟨a,b,d,λy=>e (Cj _ y)⟩
theorem Iv.end {R C:List Row} (I:Iv ps root [] R C):∀r,r∈R ↔ r∈C:=λr=>⟨λh=>(I.cov r h).elim id (by simp),λh=>(I.ch r h).1⟩
theorem gB (GE:ps.Nodup):∀(ws R C:List Row),Iv ps root ws R C->((TL ps root ws R C).length:Int)=a9 ps root R
 | [],R,C,I=>by
  have V0:=qk GE I.ins I.nd (root:=root) λr hr q hq e=>((I.ch q ((I.end q).mp hq)).2.2.1 r hr e)
  unfold TL
  rcases V0 with h | h
  ·rw [if_pos h,h];rfl
  ·rw [if_neg (by omega),h];rfl
 | w::ws,R,C,I=>by
  unfold TL
  by_cases hw:w∈R
  ·rw [if_pos hw]
   by_cases hr:w.2.2=root
   ·rw [if_pos hr,gB GE ws _ C I.drop,pb hr]
   ·rw [if_neg hr,Di,nI GE I.ins I.nd hw hr,<- gB GE ws _ _ (I.take hw hr),<- gB GE ws _ _ I.drop]
    omega
  ·rw [if_neg hw,gB GE ws R C (I.skip hw)]
def cI (ps:List Str) (root:Str) (R:List Row) (w:Row):Int:=if w.2.2=root then 0 else a9 ps root (only R w)
def tn (ps:List Str) (root:Str):List Row->List Row->Int->List Row->List Row
 | [],_,_,C=>C
 | w::ws,R,b,C=>if w∈R then (if b < cI ps root R w then tn ps root ws (only R w) b (C++[w]) else tn ps root ws (wo R w) (b - cI ps root R w) C) else tn ps root ws R b C
theorem iA (GE:ps.Nodup):∀(ws R C:List Row) (b:Int),Iv ps root ws R C->0<=b->b < a9 ps root R->(TL ps root ws R C)[b.toNat]?=some (tn ps root ws R b C)
 | [],R,C,b,I,h0,h1=>by
  have V0:=qk GE I.ins I.nd (root:=root) λr hr q hq e=>((I.ch q ((I.end q).mp hq)).2.2.1 r hr e)
  have e:a9 ps root R=1:=by omega
  unfold TL tn;rw [if_neg (by omega),show b.toNat=0 by omega];rfl
 | w::ws,R,C,b,I,h0,h1=>by
  unfold TL tn
  by_cases hw:w∈R
  ·rw [if_pos hw,if_pos hw]
   by_cases hr:w.2.2=root
   ·have e:cI ps root R w=0:=by simp [cI,hr]
    rw [if_pos hr,e,if_neg (by omega),Int.sub_zero];exact iA GE ws _ C b I.drop h0 (by rw [pb hr];exact h1)
   ·have e:cI ps root R w=a9 ps root (only R w):=by simp [cI,hr]
    have l1:=gB GE ws _ _ (I.take hw hr);rw [if_neg hr,e];rw [nI GE I.ins I.nd hw hr] at h1
    by_cases hb:b < a9 ps root (only R w)
    ·rw [if_pos hb,CV (by omega)]
     exact iA GE ws _ _ b (I.take hw hr) h0 hb
    ·rw [if_neg hb,DJ (by omega)]
     have:=iA GE ws _ C (b - a9 ps root (only R w)) I.drop (by omega) (by omega);rw [<- this]
     congr 1
     omega
  ·rw [if_neg hw,if_neg hw]
   exact iA GE ws R C b (I.skip hw) h0 h1
end
theorem kU {x:Str}:¬ GM x x:=EV _
theorem oh {x y:Str} (h:GM x y) (h':GM y x):False:=kU (Ff h h')
theorem iQ:∀{l m:List Str},l.Pairwise GM->m.Pairwise GM->(∀x,x∈l ↔ x∈m)->l=m
 | [],[],_,_,_=>rfl
 | [],y::m,_,_,h=>by have:=(h y).mpr Cf;cases this
 | x::l,[],_,_,h=>by have:=(h x).mp Cf;cases this
 | x::l,y::m,hl,hm,h=>by
  obtain⟨l1,l2⟩:=DA.mp hl;obtain⟨m1,m2⟩:=DA.mp hm;have e:x=y:=by
   rcases Ci.mp ((h x).mp Cf) with e | hx
   ·exact e
   ·rcases Ci.mp ((h y).mpr Cf) with e | hy
    ·exact e.symm
    ·exact (oh (m1 x hx) (l1 y hy)).elim
  subst e
  rw [iQ l2 m2 λz=>by
   have q:=h z;rw [Ci,Ci] at q;constructor
   ·intro hz
    rcases q.mp (.inr hz) with e | y
    ·subst e;exact (kU (l1 z hz)).elim
    ·exact y
   ·intro hz
    rcases q.mpr (.inr hz) with e | y
    ·subst e;exact (kU (m1 z hz)).elim
    ·exact y]
section
variable {ps:List Str}{root:Str}
abbrev cU (X:List Row):List Str:=X.map (·.1)
def IW (rs:List Row) (O:List Str):List (List Row):=O.foldl (λGG x=>(rs.filter λr=>decide (r.2.2=x)).flatMap λr=>GG.map λc=>c++[r]) [[]]
theorem iY (rs:List Row) (O:List Str) (x:Str):IW rs (O++[x])=(rs.filter λr=>decide (r.2.2=x)).flatMap λr=>(IW rs O).map λc=>c++[r]:=by
 unfold IW;rw [FV];rfl
theorem snoc_ind {P:List Str->Prop} (h0:P []) (hs:∀O x,P O->P (O++[x])):∀O,P O:=by
 have key:∀(m:Nat) (O:List Str),O.length=m->P O:=λm=>by
  induction m with
  | zero=>intro O h;rw [Em.mp h];exact h0
  | succ m ih =>
   intro L hL;obtain⟨L0,x,rfl⟩:∃L0 x,L=L0++[x]:=⟨L.dropLast,L.getLast (by intro z;simp [z] at hL),(DF _).symm⟩
   exact hs L0 x (ih L0 (by simpa using hL))
 exact λO=>key O.length O rfl
theorem xM (rs:List Row):∀O,(IW rs O).map (λc=>c.map (·.2.1))=ID rs O:=by
 refine snoc_ind rfl λO x ih=>?_;rw [iY,gW,<- ih,List.map_flatMap]
 congr 1
 funext r
 rw [CH,CH];refine Dx λc _=>?_;simp
theorem xN (rs:List Row):∀O,∀c∈IW rs O,(∀r∈c,r∈rs)/\c.map (·.2.2)=O:=by
 refine snoc_ind (λc hc=>?_) λO x ih c hc=>?_
 ·have:c=[]:=by simpa [IW] using hc
  simp [this]
 ·rw [iY,EA] at hc
  obtain⟨r,hr,h⟩:=hc;obtain⟨c0,h0,rfl⟩:=Cg.mp h;obtain⟨h1,h2⟩:=Cr.mp hr;obtain⟨i1,i2⟩:=ih c0 h0;refine⟨λq hq=>?_,?_⟩
  ·rcases Ck.mp hq with z | z
   ·exact i1 q z
   ·rw [show q=r by simpa using z];exact h1
  ·rw [CA,i2,List.map_singleton,show r.2.2=x by simpa using h2]
theorem yY {rs:List Row}:∀(O:List Str) (c:List Row),(∀r∈c,r∈rs)->c.map (·.2.2)=O->c∈IW rs O:=by
 refine snoc_ind (λc _ h=>?_) λO x ih c hs h=>?_
 ·have:c=[]:=by simpa using h
  simp [this,IW]
 ·obtain⟨c0,r,rfl⟩:∃c0 r,c=c0++[r]:=by
   have hl:c.length=O.length + 1:=by have:=congrArg List.length h;simpa using this
   exact⟨c.dropLast,c.getLast (by intro z;simp [z] at hl),(DF _).symm⟩
  rw [CA,List.map_singleton] at h;obtain⟨h1,h2⟩:=Gc h rfl;rw [iY,EA];exact⟨r,Cr.mpr ⟨hs r (by simp),by simpa using h2⟩,Cg.mpr ⟨c0,ih c0 (λq hq=>hs q (by simp [hq])) h1,rfl⟩⟩
def NO (ps:List Str) (root:Str) (c:List Row):Bool:=gQ ps (others ps root) root (c.map (·.2.1))
theorem kI (GE:ps.Nodup) {rs:List Row} (h:Ir ps rs):a9 ps root rs=(((IW rs (others ps root)).filter (NO ps root)).length:Int):=by
 rw [kM GE h,<- xM,Et,B8];rfl
theorem Iv.all {rs:List Row} (nd:rs.Nodup) (h:Ir ps rs):Iv ps root rs rs []:=⟨nd,nd,h,λr hr=>.inr hr,by simp,by simp⟩
theorem yG {rs:List Row} (h:(cU rs).Pairwise GM):rs.Nodup:=by
 have:=cz h;unfold cU at this;rw [List.nodup_iff_pairwise_ne,FQ] at this;exact this.imp λh z=>h (by rw [z])
end
end K85
namespace K85
open PySem L2 PySem.Spec PyProof.Rows
abbrev r3 (r:Row):List Str:=[r.1,r.2.1,r.2.2]
theorem zt {r q:Row}:r3 r=r3 q ↔ r=q:=by
 obtain⟨a,b,c⟩:=r;obtain⟨d,e,f⟩:=q;simp [r3]
structure RN (r:Row):Prop where
 n:ba r.1
 a:ba r.2.1
 b:ba r.2.2
theorem RN.all {r:Row} (h:RN r):∀x∈r3 r,ba x:=λx hx=>by
 rcases Ci.mp hx with rfl | hx
 ·exact h.n
 rcases Ci.mp hx with rfl | hx
 ·exact h.a
 rw [Cw.mp hx];exact h.b
theorem bM.tu {H:Hp}{a:Addr}{r:Row} (h:bM H a r):H a=some (.tup ((r3 r).map V.str)):=h
theorem bM.dv {H:Hp}{a:Addr}{r:Row} (h:bM H a r):DV H (.ref a) (.tuple ((r3 r).map PyData.str)):=.tup h.tu (Gv.strs _)
theorem jq (r q:Row):PyData.eqv (.tuple ((r3 r).map PyData.str)) (.tuple ((r3 q).map PyData.str))=decide (r=q):=by
 have h:PyData.eqv (.tuple ((r3 r).map PyData.str)) (.tuple ((r3 q).map PyData.str))=decide (r3 r=r3 q):=fB _ _;rw [h,Dj,decide_eq_true_iff,decide_eq_true_iff,zt]
theorem oo {H:Hp}{a b:Addr}{r q:Row} (h:bM H a r) (h':bM H b q) (e:a=b):r=q:=by
 subst e;unfold bM at h h';rw [h] at h';have:=CZ h';obtain⟨x,y,z⟩:=r;obtain⟨d,e,f⟩:=q;simpa using this
def A2 (K:zz7):R2:=λx y H Q=>∃(a p:Addr) (r:Row) (rs:List (Addr×Row)),x=.ref a/\y=.ref p/\bM H a r/\RN r/\Sq K H p (aw rs)/\(∀q∈rs,bM H q.1 q.2/\RN q.2)/\Q (.bl (decide (r∈rs.map (·.2)))) H
theorem qo {X:Cx}{k:Nat} (hr:aT k X.A):GT X (compareOp .In) (A2 X.K):=by
 intro pins s σ H x y v u Q I rx ry h;obtain⟨a,p,r,rs,rfl,rfl,ha,hn,hq,hL,q⟩:=h;cases rx;cases ry;have hun:=hr.un;obtain⟨as,r1⟩:=ha.dv.reads I.hok (show RelV (.ref a) (Value.ref a) from rfl);have fin:∀Gm:List zz9,aC (aw rs) Gm->∃e:zz9->Bool,(∀y,y∈Gm.toArray->SeqAt.EqAt X.A.in1 s y (.ref a) (e y))/\Gm.toArray.any e=decide (r∈rs.map (·.2)):=λGm r'=>by
  have data:∀y∈Gm,∃l∈rs,y=Value.ref l.1:=λy hy=>by
   obtain⟨i,hi⟩:=De hy;have Gs:=r'.length;rw [B8] at Gs;have Il:i < rs.length:=by rw [Gs];exact (Ca.mp hi).1
   have e1:(aw rs)[i]?=some (V.ref rs[i].1):=by rw [Cd,B7 Il];rfl
   obtain⟨w',e2,Hl⟩:=r'.get e1;rw [hi] at e2;cases e2;exact⟨rs[i],Cu _,Hl⟩
  let e:zz9->Bool:=λy=>match y with | .ref c=>rs.any λl=>decide (l.1=c) && decide (l.2=r) | _=>false
  have ee:∀c,e (.ref c)=true ↔ ∃l∈rs,l.1=c/\l.2=r:=λc=>by
   show (rs.any λl=>decide (l.1=c) && decide (l.2=r))=true ↔ _;rw [Gb];simp only [CK,decide_eq_true_eq]
  refine⟨e,λy hy=>?_,?_⟩
  ·obtain⟨l,hl,rfl⟩:=data y (by simpa using hy)
   have el:e (.ref l.1)=decide (l.2=r):=by
    rw [Dj,ee,decide_eq_true_iff];constructor
    ·rintro⟨m,hm,em,es⟩
     rw [oo (hL l hl).1 (hL m hm).1 em.symm];exact es
    ·exact λq=>⟨l,hl,rfl,q⟩
   rw [el]
   by_cases KZ:l.1=a
   ·rw [decide_eq_true (oo (hL l hl).1 ha KZ),KZ]
    exact SeqAt.EqAt.same _
   ·refine SeqAt.EqAt.of_refs KZ λprog w E Q hq=>?_
    obtain⟨bs,r2⟩:=(hL l hl).1.dv.reads I.hok (show RelV (.ref l.1) (Value.ref l.1) from rfl);refine (eq_dataH (A:=X.A.in1) r2 r1 (cJ (hL l hl).2.all).2 (cJ hn.all).2 (by show X.A.units + 1 + 64 < cLine;omega) ?_:wpAny (model prog w) X.A.in1 (compareOp .Eq (.ref l.1) (.ref a)) Q E _);rw [jq];exact hq
  ·rw [Dj,List.any_toArray,Gb,decide_eq_true_iff]
   constructor
   ·rintro⟨y,hy,ey⟩
    obtain⟨m,hm,rfl⟩:=data y hy;obtain⟨l,hl,_,es⟩:=(ee _).mp ey;exact es ▸ Co hl
   ·intro hm
    obtain⟨l,hl,es⟩:=Cg.mp hm;obtain⟨i,hi⟩:=De hl;obtain⟨w',e2,Hl⟩:=r'.get (show (aw rs)[i]?=some (V.ref l.1) by rw [Cd,hi];rfl);cases Hl;exact⟨_,Cb e2,(ee _).mpr ⟨l,hl,rfl,es⟩⟩
 rcases hq with hq | hq
 ·obtain⟨Gm,r',pl,hz⟩:=I.list hq
  obtain⟨e,h1,h2⟩:=fin Gm r';refine SeqAt.in_listAt e pl.isList h1 ?_;rw [h2];exact⟨V.bl (decide (r∈rs.map (λz:Addr×Row=>z.2))),H,I,rfl,q⟩
 ·obtain⟨Gm,r',pl,hz⟩:=I.tuple hq
  obtain⟨e,h1,h2⟩:=fin Gm r';refine SeqAt.in_tupleAt e pl h1 ?_;rw [h2];exact⟨V.bl (decide (r∈rs.map (λz:Addr×Row=>z.2))),H,I,rfl,q⟩
variable {P:Program}{w:World}{K:zz7}{mg:Str->Option zz9}{base:Heap}{f:Addr}{fd:FuncData}
def JM (rs:List (Addr×Row)) (w:Row):List (Addr×Row):=rs.filter λr=>decide (r.2=w) || !decide (r.2.2.2=w.2.2)
def Jj (rs:List (Addr×Row)) (w:Row):List (Addr×Row):=rs.filter λr=>!decide (r.2=w)
theorem kD (rs:List (Addr×Row)) (w:Row):(JM rs w).map (·.2)=only (rs.map (·.2)) w:=by
 unfold JM only;rw [Et];rfl
theorem pj (rs:List (Addr×Row)) (w:Row):(Jj rs w).map (·.2)=wo (rs.map (·.2)) w:=by
 unfold Jj wo;rw [Et];rfl
def Ld (H:Hp) (a:Addr) (rs:List (Addr×Row)):Prop:=(H a=some (.lst (aw rs))\/H a=some (.tup (aw rs)))/\rs.length<=60/\∀q∈rs,bM H q.1 q.2/\RN q.2
theorem Ld.same {H H':Hp}{a:Addr}{rs:List (Addr×Row)} (h:Ld H a rs) (s:ag H H'):Ld H' a rs:=⟨h.1.imp (s _ _) (s _ _),h.2.1,λq hq=>⟨s _ _ (h.2.2 q hq).1,(h.2.2 q hq).2⟩⟩
def ju:Sp:=λvs H Q _=>∃(ra wa:Addr) (rs:List (Addr×Row)) (r:Row),vs=[.ref ra,.ref wa]/\Ld H ra rs/\bM H wa r/\RN r/\∀(q:Addr) (H':Hp),ag H H'->H q=none->Ld H' q (JM rs r)->Q (.ref q) H'
theorem Bw:aV ["rows","row"] ["rows","row"] (aH (top 37)):=⟨rfl,rfl,rfl,by decide +kernel,rfl,by decide +kernel,by decide +kernel⟩
theorem yn (F:Gy K "only" "only" (top 37) f fd):au P w K mg base GB 1 f fd ["rows","row"] ju:=by
 refine F.ok Bw (λvs H Q E h=>?_) (λ_ _ _ _ H vs Q E hr h=>?_)
 ·obtain⟨ra,wa,rs,r,rfl,_⟩:=h
  rfl
 ·obtain⟨ra,wa,rs,r,rfl,R,hw,hn,k⟩:=h
  refine⟨_,aq (aG (bS (N:=["one","row"]) (ix:=[none,some 1]) ⟨rfl,rfl,rfl,by decide⟩ rfl (iw (dr (pv 0)) (bW (pv 0))) (λ_ _ _ _=>bj 0 (by decide) rfl rfl)
   (λ_ _ _ _=>dU (PW.pt (cM (aU (ir hr) (pv 0) (pv 1) (aM _)) (cZ (aU cq (aA (b7 K) (pv 0) ai (λ_ _=>rfl)) (aA (b7 K) (pv 1) ai (λ_ _=>rfl)) (aM _)))))) (λ_ _ _ _=>pv 0))),?_⟩
  refine xK (K:=K) (Hb:=H) (a:=ra) (xs:=aw rs) (fits (by have:=R.2.1;simp;omega)) (λQ q=>⟨_,rfl,q⟩) R.1 (ag.refl _) (λi ys σ H2=>ys=aw (JM (rs.take i) r)/\H2=H/\∃g,σ=[g,some (.ref wa)]) ⟨rfl,rfl,_,rfl⟩
   (λi ys σ H2 hi z=>⟨by rw [z.1,B8];exact CB (CF _ _) (by simp;omega),by rw [z.2.1];exact ag.refl _⟩) ?_ ?_
  ·rintro i x ys σ H2 hx ⟨rfl,rfl,g,rfl⟩
   obtain⟨q,hq,rfl⟩:=cG hx;have hm:=Cb hq;obtain⟨q1,q2⟩:=R.2.2 q hm;have tf:=eU (λz:Addr×Row=>decide (z.2=r) || !decide (z.2.2.2=r.2.2)) rs i q hq;refine⟨_,rfl,_,rfl,_,_,q1.dv,hw.dv,(cJ q2.all).2,(cJ hn.all).2,_,rfl,?_⟩;rw [jq];refine bJ (λc=>?_) (λc=>?_)
   ·refine (if_pos rfl).mpr ⟨_,rfl,?_,rfl,_,rfl⟩
    unfold JM;rw [tf,c];simp
   ·refine⟨_,rfl,aE (j:=2) (.inr (Gp.of q1)) rfl rfl ⟨_,rfl,aE (j:=2) (.inr (Gp.of hw)) rfl rfl ⟨rfl,_,rfl,?_⟩⟩⟩
    have e:(!decide (V.str q.2.2.2=V.str r.2.2))=!decide (q.2.2.2=r.2.2):=by simp
    rw [e];have c':decide (q.2=r)=false:=by simpa using c
    refine bJ (λd=>⟨_,rfl,?_,rfl,_,rfl⟩) (λd=>⟨?_,rfl,_,rfl⟩)
    ·unfold JM
     rw [tf,c',d];simp
    ·simp only [DY] at d
     unfold JM;rw [tf,c',d];simp
  ·rintro ys σ H2 ⟨rfl,rfl,g,rfl⟩ p hp
   rw [take_all rs (by simp)];have s1:=ao (o:=.lst (aw (JM rs r))) (ag.refl H2) hp
   exact k p _ s1 hp ⟨.inl ak,CB (CF _ _) R.2.1,λq hq=>by
    obtain⟨q1,q2⟩:=R.2.2 q (Cr.mp hq).1
    exact⟨s1 _ _ q1,q2⟩⟩
end K85
namespace L2
open PySem
theorem nC {K:zz7}{tl:TE}{g:TG}{tt:TT}{te:TE}{ix:List (Option Nat)}{n:Nat}{D:Ends}{σ:St}{H Hb:Hp}{a:Addr}{xs:List V} (hn:xs.length < sizeLine) (KP:∀Q:VK,Q (.ref a) H->tl σ H Q) (hb:Hb a=some (.lst xs)\/Hb a=some (.tup xs)) (s0:ag Hb H) (Pv:Nat->List V->St->Hp->Prop) (h0:Pv 0 [] (Jf ix σ) H)
  (hl:∀i ys σ' H',i<=xs.length->Pv i ys σ' H'->ys.length<=i/\ag Hb H')
  (hs:∀i x ys σ H,xs[i]?=some x->Pv i ys σ H->g x σ H λσ2 H2=>tt σ2 H2 λb H3=>if b=true then te σ2 H3 (λv H4=>Pv (i + 1) (ys++[v]) σ2 H4) else Pv (i + 1) ys σ2 H3)
  (hd:∀ys σ' H,Pv xs.length ys σ' H->∀p,H p=none->D.nx (σ.set n (some (.ref p))) (upd H p (.lst ys))):qg n (P0 (jI K tl) (jN K tl)) g tt te ix D σ H:=by
 rcases hb with hb | hb
 ·exact .inl (KP _ ⟨a,rfl,⟨xs,Gq.of (s0 _ _ hb)⟩,i8 hn Pv h0 (λi ys σ H' hi p=>⟨(hl i ys σ H' hi p).1,Gq.of ((hl i ys σ H' hi p).2 _ _ hb)⟩) hs hd⟩)
 ·exact .inr (KP _ ⟨a,rfl,⟨xs,Gp.of (s0 _ _ hb)⟩,ig hn Pv h0 (λi ys σ H' hi p=>⟨(hl i ys σ H' hi p).1,Gp.of ((hl i ys σ H' hi p).2 _ _ hb)⟩) hs hd⟩)
end L2
namespace K85
open PySem L2
theorem zT {ps:List Str}{root:Str}{R C:List Row}{b:Int}:tn ps root [] R b C=C:=rfl
theorem ym {ps:List Str}{root:Str}{w:Row}{ws R C:List Row}{b:Int}:tn ps root (w::ws) R b C=if w∈R then (if b < cI ps root R w then tn ps root ws (only R w) b (C++[w]) else tn ps root ws (wo R w) (b - cI ps root R w) C) else tn ps root ws R b C:=rfl
variable {P:Program}{w:World}{K:zz7}{mg:Str->Option zz9}{base:Heap}{f:Addr}{fd:FuncData}
def j7:Sp:=λvs H Q _=>∃(pa ra wa:Addr) (root:Str) (ps:List Str) (rs:List (Addr×Row)) (r:Row),vs=[.ref pa,.str root,.ref ra,.ref wa]/\H pa=some (.tup (ps.map V.str))/\Ld H ra rs/\bM H wa r/\RN r /\
 ps.Nodup/\ps.length<=8/\Ir ps (rs.map (·.2))/\∀H',ag H H'->Q (.int (cI ps root (rs.map (·.2)) r)) H'
theorem BA:aV ["places","root","rows","row"] ["places","root","rows","row"] (aH (top 38)):=⟨rfl,rfl,rfl,by decide +kernel,rfl,by decide +kernel,by decide +kernel⟩
theorem ub (F:Gy K "count_by" "count_by" (top 38) f fd) (F1:Fn P w K mg base 3 "count_of" ["places","root","rows"] iP) (F2:Fn P w K mg base 1 "only" ["rows","row"] ju):au P w K mg base GB 4 f fd ["places","root","rows","row"] j7:=by
 refine F.ok BA (λvs H Q E h=>?_) (λ_ _ _ _ H vs Q E hr h=>?_)
 ·obtain⟨pa,ra,wa,root,ps,rs,r,rfl,_⟩:=h
  rfl
 ·obtain⟨pa,ra,wa,root,ps,rs,r,rfl,IU,R,hw,hn,GE,p8,Je,k⟩:=h
  have GP:aT 1 _:=hr.mono (by decide);refine⟨_,aq (aG (wI (aU dM (aA aF (pv 3) ai (λ_ _=>rfl)) (pv 1) (aM _)) ai (ar F1 hr (aa (pv 0) (aa (pv 1) (aa (ar F2 GP (aa (pv 2) (aa (pv 3) ae))) ae)))))),?_⟩;refine⟨_,rfl,aE (j:=2) (.inr (Gp.of hw)) rfl rfl ⟨_,rfl,rfl,_,rfl,?_⟩⟩;have e:decide (V.str r.2.2=V.str root)=decide (r.2.2=root):=by simp
  rw [e];refine bJ (λc=>?_) (λc=>?_)
  ·have:=k H (ag.refl _)
   rw [show cI ps root (rs.map (·.2)) r=0 by unfold cI;rw [if_pos (of_decide_eq_true c)]] at this;exact this
  ·refine⟨_,rfl,_,rfl,_,rfl,_,rfl,ra,wa,rs,r,rfl,R,hw,hn,λq H1 s1 hq R1=>?_⟩
   refine⟨pa,q,root,ps,JM rs r,rfl,s1 _ _ IU,R1.1,λz hz=>(R1.2.2 z hz).1,GE,p8,R1.2.1,λz hz=>Je z.2 (Co (Cr.mp hz).1),λH2 s2=>?_⟩;have:=k H2 (s1.trans s2);rw [show cI ps root (rs.map (·.2)) r=a9 ps root (only (rs.map (·.2)) r) by unfold cI;rw [if_neg (by simpa using c)],<- kD] at this;exact this
def lT:Sp:=λvs H Q _=>∃(v pa ra:Addr) (root:Str) (b:Int) (ps:List Str) (rs:List (Addr×Row)),vs=[.ref v,.str root,.int b]/\bc H v pa ra ps rs/\Good ps (rs.map (·.2))/\ps.length<=8/\0<=b/\b < a9 ps root (rs.map (·.2)) /\
 ∀(q:Addr) (H':Hp),ag H H'->H q=none->H' q=some (.tup ((cU (tn ps root (rs.map (·.2)) (rs.map (·.2)) b [])).map V.str))->Q (.ref q) H'
abbrev N39:List Str:=["web","root","number","places","rows","tree","behind","row","having"]
theorem eg:aV N39 ["web","root","number"] (aH (top 39)):=⟨rfl,rfl,rfl,by decide +kernel,rfl,by decide +kernel,by decide +kernel⟩
theorem Am (F:Gy K "tree_of_number" "tree_of_number" (top 39) f fd) (B:Bl mg) (F1:Fn P w K mg base 4 "count_by" ["places","root","rows","row"] j7) (F2:Fn P w K mg base 1 "only" ["rows","row"] ju):au P w K mg base GB 5 f fd ["web","root","number"] lT:=by
 refine F.ok eg (λvs H Q E h=>?_) (λ_ _ _ _ H vs Q E hr h=>?_)
 ·obtain⟨v,pa,ra,root,b,ps,rs,rfl,_⟩:=h
  rfl
 ·obtain⟨v,pa,ra,root,b,ps,rs,rfl,W,G,p8,VU,M8,k⟩:=h
  have GP:aT 1 _:=hr.mono (by decide)
  refine⟨_,aj (dX (pv 0) (dI rfl (n:=2) (bB (bt (i:=3) eg.nd rfl (Or.inl rfl)) (bB (bt (i:=4) eg.nd rfl (Or.inl rfl)) cX))))
   (aj (aJ (i:=5) eg.nd rfl (Or.inl rfl) (bD ae))
   (aj (aJ (i:=6) eg.nd rfl (Or.inl rfl) (pv 2))
   (aj (cY C6 rfl (bW (aA aF (pv 0) ai (λ_ _=>rfl))) (bt (i:=7) eg.nd rfl (Or.inr rfl))
    (aq (aQ (aU (qo hr) (pv 7) (pv 4) (by with_unfolding_all rfl))
     (aj (aJ (i:=8) eg.nd rfl (Or.inl rfl) (ar F1 hr (aa (pv 3) (aa (pv 1) (aa (pv 4) (aa (pv 7) ae))))))
     (aq (aQ (aU jF (pv 6) (pv 8) (aM _))
      (aj (bp (c8 CQ C7 C8 dR (pv 5) (aa (aA aF (pv 7) ai (λ_ _=>rfl)) ae)))
      (aq (aJ (i:=4) eg.nd rfl (Or.inl rfl) (ar F2 GP (aa (pv 4) (aa (pv 7) ae))))))
      (aj (lB (i:=6) eg.nd rfl (Or.inl rfl) (pv 8) qz)
      (aq (eJ (i:=4) (N:=["one","row"]) (ix:=[none,some 7]) eg.nd rfl (Or.inl rfl) ⟨rfl,rfl,rfl,by decide⟩ rfl (iw (dr (pv 4)) (bW (pv 4))) (λ_ _ _ _=>bj 0 (by decide) rfl rfl) (λ_ _ _ _=>dU (aU (cS hr) (pv 0) (pv 1) (aM _))) (λ_ _ _ _=>pv 0)))))))
     aS)))
   (aq (aG (cP fz rfl B.tuple cA (aa (pv 5) ae))))))),?_⟩
  have rz:rs.length<=60:=by have:=G.rz;simpa using this
  have GE:ps.Nodup:=cz G.so;have rn:∀r∈rs,RN r.2:=λr hr=>by
   obtain⟨h1,h2,h3,_⟩:=G.rn r.2 (Co hr);exact⟨h1,G.nm _ h2,G.nm _ h3⟩
  have MR:Ir ps (rs.map (·.2)):=λr hr=>by
   obtain⟨_,h2,h3,_⟩:=G.rn r hr;exact⟨h2,h3⟩
  refine⟨_,rfl,v,_,rfl,Gp.of W.tp,rfl,_,_,rfl,_,_,rfl,rfl,Cz _,λtk IJ=>?_⟩;have s1:=ao (o:=.lst []) (ag.refl H) IJ;have t1:upd H tk (.lst []) tk=some (.lst ((cU []).map V.str)):=ak;generalize upd H tk (.lst [])=H1 at s1 t1 ⊢
  refine⟨_,rfl,_,rfl,aE (j:=1) (.inr (Gp.of (s1 _ _ W.tp))) rfl rfl ⟨ra,rfl,⟨_,Gp.of (s1 _ _ W.rl)⟩,fH (K:=K) (a:=ra) (xs:=aw rs) (λi σ H3=>∃(rc:Addr) (cur:List (Addr×Row)) (C:List Row) (b':Int) (g1 g2:Option V),σ=[some (.ref v),some (.str root),some (.int b),some (.ref pa),some (.ref rc),some (.ref tk),some (.int b'),g1,g2]/\ag H H3/\H3 tk=some (.lst ((cU C).map V.str))/\Ld H3 rc cur/\rc≠tk/\(∀z∈cur,z∈rs)/\C.length<=i/\tn ps root (rs.map (·.2)) (rs.map (·.2)) b []=tn ps root ((rs.map (·.2)).drop i) (cur.map (·.2)) b' C)
   ⟨ra,rs,[],b,none,none,rfl,s1,t1,⟨.inr (s1 _ _ W.rl),rz,λq hq=>⟨s1 _ _ (W.rows q hq),rn q hq⟩⟩,(λz=>by have:=W.rl;rw [z,IJ] at this;cases this),λz hz=>hz,Cc _,rfl⟩
   (λi σ H3 _ p=>by obtain⟨_,_,_,_,_,_,_,s3,_⟩:=p;exact Gp.of (s3 _ _ W.rl)) ?_ ?_⟩⟩
  ·rintro i x σ H3 hx ⟨rc,cur,C,b',g1,g2,rfl,s3,t3,R3,RP,GH,hC,Hn⟩
   obtain⟨r,Gz,rfl⟩:=cG hx;have hm:=Cb Gz;have hi:i < rs.length:=(Ca.mp Gz).1;have GD:=s3 _ _ (W.rows r hm);have JZ:(rs.map (·.2)).drop i=r.2::(rs.map (·.2)).drop (i + 1):=by
    rw [FY (by simpa using hi)];simp [(Ca.mp Gz).2]
   rw [JZ,ym] at Hn;have TV:Ir ps (cur.map (·.2)):=MR.sub λq hq=>by
    obtain⟨z,hz,rfl⟩:=Cg.mp hq;exact Co (GH z hz)
   refine⟨_,rfl,_,rfl,r.1,rc,r.2,cur,rfl,rfl,GD,rn r hm,R3.1.imp Gq.of Gp.of,R3.2.2,_,rfl,?_⟩;refine bJ (λc=>?_) (λc=>?_)
   ·rw [if_pos (of_decide_eq_true c)] at Hn
    refine⟨_,rfl,_,rfl,_,rfl,_,rfl,pa,rc,r.1,root,ps,cur,r.2,rfl,s3 _ _ W.pl,R3,GD,rn r hm,GE,p8,TV,λH4 s4=>?_⟩;have Jl:=s3.trans s4;have R4:=R3.same s4;have t4:=s4 _ _ t3;have HH:=s4 _ _ GD;refine⟨_,rfl,_,rfl,_,_,rfl,rfl,_,rfl,?_⟩;refine bJ (λd=>?_) (λd=>?_)
    ·rw [if_pos (of_decide_eq_true d)] at Hn
     refine⟨_,rfl,.inl ⟨rfl,_,Gq.of t4⟩,_,rfl,aE (j:=0) (.inr (Gp.of HH)) rfl rfl ⟨tk,_,_,rfl,rfl,t4,fits (by simp;omega),?_⟩⟩;have Rq:=ag.upd0 (o:=.lst ((cU C).map V.str++[.str r.2.1])) Jl IJ;have t5:upd H4 tk (.lst ((cU C).map V.str++[.str r.2.1])) tk=some (.lst ((cU (C++[r.2])).map V.str)):=by rw [ak];simp
     have R5:Ld (upd H4 tk (.lst ((cU C).map V.str++[.str r.2.1]))) rc cur:=⟨by rw [av RP];exact R4.1,R4.2.1,λq hq=>⟨by
      unfold bM;rw [av (tup_ne (R4.2.2 q hq).1 t4)]
      exact (R4.2.2 q hq).1,(R4.2.2 q hq).2⟩⟩
     have LD:bM (upd H4 tk (.lst ((cU C).map V.str++[.str r.2.1]))) r.1 r.2:=by
      unfold bM;rw [av (tup_ne HH t4)];exact HH
     generalize upd H4 tk (.lst ((cU C).map V.str++[.str r.2.1]))=H5 at Rq t5 R5 LD ⊢;refine⟨_,rfl,_,rfl,rc,r.1,cur,r.2,rfl,R5,LD,rn r hm,λq H6 s6 hq R6=>?_⟩;refine⟨q,JM cur r.2,C++[r.2],b',_,_,rfl,Rq.trans s6,s6 _ _ t5,R6,(λz=>by rw [z,t5] at hq;cases hq),λz hz=>GH z (Cr.mp hz).1,by simp;omega,?_⟩;rw [kD];exact Hn
    ·rw [if_neg (by simpa using d)] at Hn
     refine⟨_,rfl,_,rfl,_,_,rfl,rfl,?_⟩;refine nC (K:=K) (Hb:=H4) (a:=rc) (xs:=aw cur) (fits (by have:=R4.2.1;simp;omega)) (λQ q=>⟨_,rfl,q⟩) R4.1 (ag.refl _) (λj ys σ H5=>ys=aw (Jj (cur.take j) r.2)/\H5=H4/\∃g,σ=[g,some (.ref r.1)]) ⟨rfl,rfl,_,rfl⟩
      (λj ys σ H5 hj z=>⟨by rw [z.1,B8];exact CB (CF _ _) (by simp;omega),by rw [z.2.1];exact ag.refl _⟩) ?_ ?_
     ·rintro j x ys σ H5 hx ⟨rfl,rfl,g,rfl⟩
      obtain⟨q,hq,rfl⟩:=cG hx;obtain⟨q1,q2⟩:=R4.2.2 q (Cb hq);have tf:=eU (λz:Addr×Row=>!decide (z.2=r.2)) cur j q hq;refine⟨_,rfl,_,rfl,_,_,q1.dv,bM.dv HH,(cJ q2.all).2,(cJ (rn r hm).all).2,_,rfl,?_⟩;rw [jq];refine bJ (λc=>⟨_,rfl,?_,rfl,_,rfl⟩) (λc=>⟨?_,rfl,_,rfl⟩)
      ·unfold Jj
       rw [tf,c];simp
      ·simp only [DY] at c
       unfold Jj;rw [tf,c];simp
     ·rintro ys σ H5 ⟨rfl,rfl,g,rfl⟩ q hq
      rw [take_all cur (by simp)];have s5:=ao (o:=.lst (aw (Jj cur r.2))) (ag.refl H5) hq
      refine⟨q,Jj cur r.2,C,b' - cI ps root (cur.map (·.2)) r.2,_,_,rfl,Jl.trans s5,s5 _ _ t4,⟨.inl ak,CB (CF _ _) R4.2.1,λz hz=>by
       obtain⟨z1,z2⟩:=R4.2.2 z (Cr.mp hz).1
       exact⟨s5 _ _ z1,z2⟩⟩,(λz=>by rw [z,t4] at hq;cases hq),λz hz=>GH z (Cr.mp hz).1,by omega,?_⟩
      rw [pj];exact Hn
   ·rw [if_neg (by simpa using c)] at Hn
    exact⟨rc,cur,C,b',_,_,rfl,s3,t3,R3,RP,GH,by omega,Hn⟩
  ·rintro σ H3 ⟨rc,cur,C,b',g1,g2,rfl,s3,t3,R3,RP,GH,hC,Hn⟩
   rw [List.drop_eq_nil_of_le (by simp),zT] at Hn;refine⟨_,rfl,tk,_,rfl,.inl ⟨Gq.of t3,λq hq=>?_⟩⟩;exact k q _ (ao s3 hq) (s3.free hq) (by rw [Hn];exact ak)
def rj (CT:Addr):Sp:=λvs H Q E=>∃(v pa ra:Addr) (root:Str) (ps:List Str) (rs:List (Addr×Row)),vs=[.ref v,.str root]/\bc H v pa ra ps rs/\Good ps (rs.map (·.2))/\ps.length<=8/\root∈ps /\
 (a9 ps root (rs.map (·.2))<=100->∀(q:Addr) (Iu:List (Addr×List Str)) (H':Hp),ag H H'->H q=none->H' q=some (.lst (jE Iu))->rW H' Iu->Iu.map (·.2)=(TL ps root (rs.map (·.2)) (rs.map (·.2)) []).map cU->Q (.ref q) H') /\
 (¬ a9 ps root (rs.map (·.2))<=100->∀H',ag H H'->E (.ref CT) none H')
abbrev N41:List Str:=["web","root","many"]
theorem jO:aV N41 ["web","root"] (aH (top 41)):=⟨rfl,rfl,rfl,by decide +kernel,rfl,by decide +kernel,by decide +kernel⟩
theorem ze {f CT:Addr}{fd:FuncData} (F:Gy K "all_trees" "all_trees" (top 41) f fd) (B:Bl mg) (hx:mg "TooMany"=some (.ref CT)) (hC:dC base CT) (F1:Fn P w K mg base 5 "count" ["web","root"] jh) (F2:Fn P w K mg base 5 "tree_of_number" ["web","root","number"] lT) :
  au P w K mg base (GX P w) 6 f fd ["web","root"] (rj CT):=by
 refine F.okX jO (λvs H Q E h=>?_) (λ_ _ _ _ H vs Q E hr h=>?_)
 ·obtain⟨v,pa,ra,root,ps,rs,rfl,_⟩:=h
  rfl
 ·obtain⟨v,pa,ra,root,ps,rs,rfl,W,G,p8,Gr,kq,ke⟩:=h
  obtain⟨tm,hm⟩:=B.most
  refine⟨_,aj (aJ (i:=2) jO.nd rfl (Or.inl rfl) (ar F1 hr (aa (pv 0) (aa (pv 1) ae))))
   (aj (aQ (aU jG (pv 2) (dS (v:=.int 100) rfl hm ⟨_,rfl⟩) (aM _)) (aq (fE (W:=λH=>E (.ref CT) none H) hx hC hr.hd (aa (aK fD (aK fD bq (cP jY rfl B.str fe (aa (dS (v:=.int 100) rfl hm ⟨_,rfl⟩) ae))) bq) ae) (λpins σ H s h' ea args I m hW=>fS I m hW))) aS)
   (aq (aG (bS (N:=["number","web","root"]) (ix:=[none,some 0,some 1]) ⟨rfl,rfl,rfl,by decide⟩ rfl (eF rfl B.range (aa (pv 2) ae)) (λ_ _ _ _=>bj 0 (by decide) rfl rfl) (λ_ _ _ _=>bR)
    (λ_ _ _ _=>ar F2 hr (aa (pv 1) (aa (pv 2) (aa (pv 0) ae)))))))),?_⟩
  have GE:ps.Nodup:=cz G.so;have MR:Ir ps (rs.map (·.2)):=λr hr=>by
   obtain⟨_,h2,h3,_⟩:=G.rn r hr;exact⟨h2,h3⟩
  have I0:=Iv.all (ps:=ps) (root:=root) (yG G.rso) MR;have Gs:=gB GE _ _ _ I0;have J1:=λb=>iA GE _ _ _ b I0;have hnn:=lI GE MR (root:=root);refine⟨_,rfl,_,rfl,v,pa,ra,root,ps,rs,rfl,W,G,p8,Gr,λH1 s1=>?_⟩;generalize hc:a9 ps root (rs.map (·.2))=c at *;refine⟨_,rfl,_,_,rfl,rfl,_,rfl,?_⟩;refine bJ (λd=>?_) (λd=>?_)
  ·have d':¬ c<=100:=by have:=of_decide_eq_true d;omega
   refine⟨100,rfl,by decide,_,_,rfl,rfl,by decide,_,_,rfl,rfl,by decide,by show 1<=sizeLine;decide,ke d' _ s1⟩
  ·have d':c<=100:=by have:=of_decide_eq_false (by simpa using d:decide ((100:Int) < c)=false);omega
   refine⟨_,rfl,c,rfl,by omega,by omega,fC (fits (by omega)) (λi ys σ H2=>(∃Iu:List (Addr×List Str),ys=jE Iu/\rW H2 Iu/\Iu.map (·.2)=((TL ps root (rs.map (·.2)) (rs.map (·.2)) []).take i).map cU)/\ag H H2/\∃g,σ=[g,some (.ref v),some (.str root)])
    ⟨⟨[],rfl,(λx hx=>nomatch hx),rfl⟩,s1,_,rfl⟩ (λi ys σ H2 hi z=>by
     obtain⟨⟨Iu,rfl,_,e⟩,_⟩:=z;have:=congrArg List.length e;simp at this;simp
     omega) ?_ ?_⟩
   ·rintro i ys σ H2 hi ⟨⟨Iu,rfl,hL,e⟩,s2,g,rfl⟩
    have hb:((i:Nat):Int) < c:=by omega
    have ht:=J1 (i:Int) (by omega) (by omega);rw [Du] at ht;refine⟨_,rfl,_,rfl,_,rfl,v,pa,ra,root,(0 + (i:Int)),ps,rs,rfl,W.same s2,G,p8,by omega,by omega,λq H3 s3 hq h3=>?_⟩;refine⟨⟨Iu++[(q,cU (tn ps root (rs.map (·.2)) (rs.map (·.2)) (0 + (i:Int)) []))],by simp [jE],λx hx=>?_,?_⟩,s2.trans s3,_,rfl⟩
    ·rcases Ck.mp hx with z | z
     ·exact s3 _ _ (hL x z)
     ·rw [Cw.mp z];exact h3
    ·rw [CA,e,Dd,ht,Int.zero_add]
     simp
   ·rintro ys σ H2 ⟨⟨Iu,rfl,hL,e⟩,s2,g,rfl⟩ q hq
    have s3:=ao (o:=.lst (jE Iu)) (ag.refl H2) hq;refine kq d' q Iu _ (s2.trans s3) (s2.free hq) ak (λx hx=>s3 _ _ (hL x hx)) ?_;rw [e,Df (by omega)]
def Ja:List Nat->Nat
 | []=>1
 | a::l=>a * Ja l
theorem md:∀a b c d:Fin 11,a.val + b.val + c.val + d.val<=10->a.val * (b.val * (c.val * d.val)) < 64:=by decide +kernel
theorem vO:∀l:List Nat,l.length<=4->l.sum<=10->Ja l < 64
 | [],_,_=>by decide
 | [a],_,h=>by simp [Ja] at h ⊢;omega
 | [a,b],_,h=>by
  simp at h;have:=md ⟨a,by omega⟩ ⟨b,by omega⟩ 0 0;have h2:4 * (a * b)<=(a + b) * (a + b):=by
   have:(0:Int)<=((a:Int) - b) * (a - b):=by
    rcases Int.le_total 0 ((a:Int) - b) with z | z
    ·exact Int.mul_nonneg z z
    ·exact Int.mul_nonneg_of_nonpos_of_nonpos z z
   have:(4 * (a * b):Int)<=(a + b) * (a + b):=by grind
   exact_mod_cast this
  have h3:=FF h h;simp [Ja];omega
 | [a,b,c],_,h=>by
  simp at h;have h1:=md ⟨a,by omega⟩ ⟨b,by omega⟩ ⟨c,by omega⟩ ⟨1,by omega⟩
  by_cases e:a + b + c<=9
  ·have:=h1 (by show a + b + c + 1<=10;omega)
   simpa [Ja] using this
  ·have h2:∀a b c:Fin 11,a.val + b.val + c.val<=10->a.val * (b.val * c.val) < 64:=by decide +kernel
   have:=h2 ⟨a,by omega⟩ ⟨b,by omega⟩ ⟨c,by omega⟩ (by show a + b + c<=10;omega);simpa [Ja] using this
 | [a,b,c,d],_,h=>by
  simp at h;have:=md ⟨a,by omega⟩ ⟨b,by omega⟩ ⟨c,by omega⟩ ⟨d,by omega⟩ (by show a + b + c + d<=10;omega);simpa [Ja] using this
 | _::_::_::_::_::_,h,_=>by simp at h
theorem oF:∀(l:List Nat) (a:Nat),Ja (l++[a])=a * Ja l
 | [],a=>rfl
 | b::l,a=>by
  show b * Ja (l++[a])=a * (b * Ja l);rw [oF l a,Nat.mul_left_comm]
abbrev f9 (rs:List Row) (O:List Str):List Nat:=O.map λx=>(rs.filter λr=>decide (r.2.2=x)).length
theorem yh (rs:List Row):∀O,(IW rs O).length=Ja (f9 rs O):=by
 refine snoc_ind rfl λO x ih=>?_;rw [iY,nN _ _ (IW rs O).length (λx _=>by simp),ih];show _=Ja ((O++[x]).map _);rw [CA];exact (oF _ _).symm
theorem mQ {α:Type} (p:α->Bool):∀l:List α,(l.filter p).length + (l.filter λx=>!p x).length=l.length
 | []=>rfl
 | a::l=>by
  have ih:=mQ p l;cases h:p a <;> simp [h] <;> omega
theorem oC:∀(O:List Str) (rs:List Row),O.Nodup->(f9 rs O).sum<=rs.length
 | [],rs,_=>Cz _
 | x::O,rs,nd=>by
  obtain⟨h1,h2⟩:=CG.mp nd;have ih:=oC O (rs.filter λr=>!decide (r.2.2=x)) h2;have e:f9 (rs.filter λr=>!decide (r.2.2=x)) O=f9 rs O:=by
   refine Dx λy hy=>?_;rw [Dm]
   congr 1
   refine Dw λr _=>?_
   by_cases z:r.2.2=y
   ·have:¬ r.2.2=x:=λq=>h1 (by rw [<- q,z];exact hy)
    simp [z];exact λq=>this (z.trans q)
   ·simp [z]
  rw [e] at ih;have l:=mQ (λr:Row=>decide (r.2.2=x)) rs;have es:(f9 rs (x::O)).sum=(rs.filter λr=>decide (r.2.2=x)).length + (f9 rs O).sum:=by simp [f9]
  rw [es];omega
theorem Af {rs:List Row}{O:List Str} (nd:O.Nodup) (h4:O.length<=4) (Tr:rs.length<=10):(IW rs O).length < 64:=by
 rw [yh];exact vO _ (by simp;exact h4) (CB (oC O rs nd) Tr)
end K85
namespace PySem
open Sem (wp)
open AutoSeq1 (wpAny_loadPart')
section
variable {prog:Program}{w:World}{A:Around}{E:zz9->zz8->Prop}{s:zz8}
end
end PySem
namespace L2
open PySem PySem.Spec PyProof.Rows PySem.W PySem.Calls
section
variable {X:Cx}
end
end L2
namespace K85
open PySem L2 DT
variable {P:Program}{w:World}{K:zz7}{mg:Str->Option zz9}{base:Heap}{f:Addr}{fd:FuncData}
def AU (H:Hp) (ps:List Str) (root:Str) (rs:List Row) (Q:VK):Prop :=
 ∀(q:Addr) (Gn:List (Addr×List Int)) (H':Hp),ag H H'->H' q=some (.tup (aX Gn))->(∀r∈Gn,bZ H' false r)->Gn.length=(others ps root).length->(∀r∈Gn,r.2.length=(others ps root).length) ->
  (∀i j,i < (others ps root).length->j < (others ps root).length->at2 (Gn.map (·.2)) i j=tab (Hu (others ps root) root rs) i j)->Q (.ref q) H'
def oY:Sp:=λvs H Q _=>∃(v pa ra:Addr) (root:Str) (ps:List Str) (rs:List (Addr×Row)),vs=[.ref v,.str root]/\bc H v pa ra ps rs/\Good ps (rs.map (·.2))/\ps.length<=8/\root∈ps/\AU H ps root (rs.map (·.2)) Q
theorem sS:aV ["web","root"] ["web","root"] (aH (top 28)):=⟨rfl,rfl,rfl,by decide +kernel,rfl,by decide +kernel,by decide +kernel⟩
theorem vI (F:Gy K "table" "table" (top 28) f fd) (F1:Fn P w K mg base 4 "need_web" ["thing"] (fg .non)) (F2:Fn P w K mg base 2 "need_place" ["web","thing"] gi) (F3:Fn P w K mg base 1 "table_of" ["places","root","rows"] lN):au P w K mg base GB 5 f fd ["web","root"] oY:=by
 refine F.ok sS (λvs H Q E h=>?_) (λ_ _ _ _ H vs Q E hr h=>?_)
 ·obtain⟨v,pa,ra,root,ps,rs,rfl,_⟩:=h
  rfl
 ·obtain⟨v,pa,ra,root,ps,rs,rfl,W,G,p8,Gr,k⟩:=h
  have Hd:aT 2 _:=hr.mono (by decide);have GP:aT 1 _:=hr.mono (by decide);refine⟨_,aj (bp (ar F1 hr (aa (pv 0) ae))) (aj (bp (ar F2 Hd (aa (pv 0) (aa (pv 1) ae)))) (aq (aG (ar F3 GP (aa (aA aF (pv 0) ai (λ_ _=>rfl)) (aa (pv 1) (aa (aA aF (pv 0) ai (λ_ _=>rfl)) ae))))))),?_⟩;refine⟨_,rfl,v,pa,ra,ps,rs,rfl,W,G,λH1 s1=>⟨_,rfl,_,rfl,v,pa,ra,ps,rs,root,rfl,W.same s1,Gr,?_⟩⟩;have W1:=W.same s1;refine⟨_,rfl,aE (j:=0) (.inr (Gp.of W1.tp)) rfl rfl ⟨_,rfl,_,rfl,aE (j:=1) (.inr (Gp.of W1.tp)) rfl rfl ⟨pa,ra,root,ps,rs,rfl,W1.pl,.inr W1.rl,W1.rows,cz G.so,p8,by have:=G.rz;simpa using this,λr hr=>?_,λq Gn H2 s2=>k q Gn H2 (s1.trans s2)⟩⟩⟩;obtain⟨_,h2,h3,_⟩:=G.rn r.2 (Cg.mpr ⟨r,hr,rfl⟩);exact⟨h2,h3⟩
end K85
namespace K85
open PySem L2
theorem iz {c A B:Prop} [Decidable c] (hc:¬ c) (h:A):if (!decide c)=true then A else B:=by
 rw [decide_eq_false hc];exact aB h
def UL (s:Str):Prop:=s.length<=100/\s.cps.all (· < 128)=true
inductive Gw:PyData->Prop
 | non:Gw .none
 | bl (b:Bool):Gw (.bool b)
 | int (i:Int):Gw (.int i)
 | str (s:Str) (h:UL s):Gw (.str s)
 | tup (ds:List PyData) (hl:ds.length<=60) (h:∀d∈ds,Gw d):Gw (.tuple ds)
 | lst (ds:List PyData) (hl:ds.length<=60) (h:∀d∈ds,Gw d) (hn:∀i j,ds≠[.int i,.int j]):Gw (.list ds)
mutual
theorem DV.same {H H':Hp} (s:ag H H'):∀{x:V}{d:PyData},DV H x d->DV H' x d
 | _,_,.non=>.non
 | _,_,.bl b=>.bl b
 | _,_,.int i=>.int i
 | _,_,.str x=>.str x
 | _,_,.tup e q=>.tup (s _ _ e) (Gv.same s q)
 | _,_,.lst e q=>.lst (s _ _ e) (Gv.same s q)
theorem Gv.same {H H':Hp} (s:ag H H'):∀{xs:List V}{ds:List PyData},Gv H xs ds->Gv H' xs ds
 | _,_,.nil=>.nil
 | _,_,.cons a b=>.cons (DV.same s a) (Gv.same s b)
end
theorem Gv.len {H:Hp}:∀{xs:List V}{ds:List PyData},Gv H xs ds->xs.length=ds.length
 | _,_,.nil=>rfl
 | _,_,.cons _ b=>by rw [C5,C5,Gv.len b]
theorem Gv.at {H:Hp}:∀{xs:List V}{ds:List PyData},Gv H xs ds->∀{i:Nat}{x:V},xs[i]?=some x->∃d,ds[i]?=some d/\DV H x d
 | _,_,.nil,i,x,h=>by simp at h
 | _,_,.cons a b,0,x,h=>by cases h;exact⟨_,rfl,a⟩
 | _,_,.cons a b,i + 1,x,h=>Gv.at b (i:=i) (by simpa using h)
theorem Gv.txt {H:Hp}:∀{xs:List V}{ss:List Str},Gv H xs (ss.map PyData.str)->xs=ss.map V.str
 | _,[],.nil=>rfl
 | _,s::r,.cons a b=>by cases a;rw [Gv.txt b];rfl
def az (c:Nat):Bool:=decide (97<=c) && decide (c<=122)
def dY (s:Str):Bool:=decide (1<=s.length) && decide (s.length<=8) && s.cps.toList.all az
theorem gT {s:Str}:dY s=true ↔ ba s:=by
 unfold dY az;constructor
 ·intro h
  simp only [CK,decide_eq_true_eq,CY] at h;exact⟨h.1.1,h.1.2,h.2⟩
 ·intro h
  simp only [CK,decide_eq_true_eq,CY];exact⟨⟨h.lo,h.hi⟩,h.az⟩
def bA:PyData->Bool
 | .str s=>dY s
 | _=>false
theorem mM {d:PyData} (h:bA d=true):∃s,d=.str s/\ba s:=by
 cases d with
 | str s=>exact⟨s,rfl,gT.mp h⟩
 | _=>cases h
theorem nj {ds:List PyData}:ds.all bA=true->∃ss:List Str,ds=ss.map PyData.str/\∀x∈ss,ba x:=by
 induction ds with
 | nil=>intro _;exact⟨[],rfl,by simp⟩
 | cons d r ih =>
  intro h;rw [List.all_cons,CK] at h;obtain⟨s,rfl,hs⟩:=mM h.1;obtain⟨ss,rfl,Qg⟩:=ih h.2
  exact⟨s::ss,rfl,λx hx=>by
   rcases Ci.mp hx with e | e
   ·rw [e];exact hs
   ·exact Qg x e⟩
variable {P:Program}{w:World}{K:zz7}{mg:Str->Option zz9}{base:Heap}{f:Addr}{fd:FuncData}
def kJ:Sp:=λvs H Q _=>∃(x:V) (d:PyData),vs=[x]/\DV H x d/\Gw d/\∀H',ag H H'->Q (.bl (bA d)) H'
theorem wg (F:Gy K "is_name" "is_name" (top 10) f fd) (B:Bl mg):au P w K mg base GB 1 f fd ["thing"] kJ:=by
 refine F.ok sO (λvs H Q E h=>?_) (λ_ _ _ _ H vs Q E hr h=>?_)
 ·obtain⟨x,d,rfl,_⟩:=h
  rfl
 ·obtain⟨x,d,rfl,hx,hd,k⟩:=h
  obtain⟨tl,hl⟩:=B.lng
  refine⟨_,aj (aQ (PW.pt (cM (bz (bG (aD (cf (T:="str")) rfl B.isinstance bK (aa (pv 0) (aa (b8 (v:=.ty "str") rfl B.str fe rfl) ae)))))
    (cZ (bz (je fh fh ai (aD mn rfl B.len Ct (aa (pv 0) ae)) (dS (v:=.int 8) rfl hl ⟨_,rfl⟩)))))) (aq (aG cb)) aS)
   (aq (aG (aD (eV rfl) rfl B.all fc (aa (bS (N:=["letter"]) (ix:=[none]) ⟨rfl,rfl,rfl,by decide⟩ rfl (qa (pv 0)) (λ_ _ _ _=>bj 0 (by decide) rfl rfl) (λ_ _ _ _=>bR)
    (λ_ _ _ _=>oz iV iV bq (pv 0) bq)) ae)))),?_⟩
  have kF:bA d=false->Q (.bl false) H:=λe=>by have:=k H (ag.refl _);rw [e] at this;exact this
  cases hx with
  | non=>exact⟨_,rfl,_,_,false,rfl,.non,rfl,false,rfl,aB (aB (kF rfl))⟩
  | int i=>exact⟨_,rfl,_,_,false,rfl,.int i,rfl,false,rfl,aB (aB (kF rfl))⟩
  | bl b=>exact⟨_,rfl,_,_,false,rfl,.bl b,rfl,false,rfl,aB (aB (kF rfl))⟩
  | tup e _=>exact⟨_,rfl,_,_,false,rfl,.tup e,rfl,false,rfl,aB (aB (kF rfl))⟩
  | lst e _=>exact⟨_,rfl,_,_,false,rfl,.lst e,rfl,false,rfl,aB (aB (kF rfl))⟩
  | str x =>
   obtain⟨hx1,YZ⟩:UL x:=by cases hd with | str _ h=>exact h
   refine⟨_,rfl,_,_,true,rfl,.str x,?kit,true,rfl,aL ?_⟩
   case kit=>rfl
   refine⟨_,rfl,x,rfl,CO (fits (by omega)),_,_,rfl,rfl,_,rfl,?_⟩
   by_cases c1:1<=x.length
   ·refine gM (by omega) ⟨_,_,rfl,rfl,_,rfl,?_⟩
    by_cases c2:x.length<=8
    ·refine d9 (by omega) ?_
     refine⟨_,rfl,x,rfl,YZ,nJ (fits (by omega)) (λi ys σ H1=>ys=(x.cps.toList.take i).map (λc=>V.bl (az c))/\ag H H1/\∃v,σ=[v]) ⟨rfl,ag.refl _,_,rfl⟩ (λi ys σ H1 hi q=>by rw [q.1];simp;omega) ?_ ?_⟩
     ·rintro i c ys σ H1 hc ⟨rfl,hs,v,rfl⟩
      have KW:x.cps.toList[i]?=some c:=by simpa using hc
      have en:(x.cps.toList.take (i + 1)).map (λc=>V.bl (az c))=(x.cps.toList.take i).map (λc=>V.bl (az c))++[V.bl (az c)]:=(dE _ _ _ _ KW)
      refine⟨_,rfl,_,_,rfl,rfl,_,rfl,?_⟩;show if (!decide ([c] < [97]))=true then _ else _
      by_cases d1:97<=c
      ·refine iz (by rw [MW];omega) ⟨_,_,rfl,rfl,?_,hs,_,rfl⟩
       show _++[V.bl (!decide ([122] < [c]))]=_;rw [en];have:(!decide ([122] < [c]))=az c:=by
        unfold az;rw [decide_eq_true d1]
        by_cases d2:c<=122
        ·rw [decide_eq_false (by rw [MW];omega),decide_eq_true d2];rfl
        ·rw [decide_eq_true (by rw [MW];omega),decide_eq_false d2];rfl
       rw [this]
      ·refine d9 (by rw [MW];omega) ⟨?_,hs,_,rfl⟩
       rw [en];have:az c=false:=by unfold az;rw [decide_eq_false d1];rfl
       rw [this]
     ·rintro ys σ H1 ⟨rfl,hs,v,rfl⟩ p hp
      have ea:(x.cps.toList.take x.length).map (λc=>V.bl (az c))=(x.cps.toList.map az).map V.bl:=by
       rw [Df (by simp [Str.length]),CH];rfl
      rw [ea];refine⟨p,x.cps.toList.map az,rfl,Gq.of ak,?_⟩;have e:(x.cps.toList.map az).all id=dY x:=by
       unfold dY;rw [decide_eq_true c1,decide_eq_true c2,EO];rfl
      rw [e];exact k _ (ao hs hp)
    ·refine iz (by omega) ?_
     have e:dY x=false:=by unfold dY;rw [decide_eq_false c2];simp
     exact kF e
   ·refine jH (by omega) ?_
    have e:dY x=false:=by unfold dY;rw [decide_eq_false c1];rfl
    exact⟨_,rfl,aB (kF e)⟩
theorem au.or {P:Program}{w:World}{K:zz7}{mg:Str->Option zz9}{base:Heap}{CX:Ht}{k:Nat}{f:Addr}{fd:FuncData}{ps:List Str}{sp NY:Sp} (F:au P w K mg base CX k f fd ps sp) (G:au P w K mg base CX k f fd ps NY) :
  au P w K mg base CX k f fd ps (λvs H Q E=>sp vs H Q E\/NY vs H Q E) :=
 ⟨λvs H Q E h=>h.elim (F.len vs H Q E) (G.len vs H Q E),λA outer s H args us vs Q E hr he hb hv hs=>hs.elim (F.run A outer s H args us vs Q E hr he hb hv) (G.run A outer s H args us vs Q E hr he hb hv)⟩
theorem zz {ss:List Str} (h:∀i (hi:i + 1 < ss.length),GM ss[i] ss[i + 1]):ss.Pairwise GM:=by
 rw [CL];have key:∀(k i:Nat) (hk:i + k + 1 < ss.length),GM ss[i] (ss[i + k + 1]'hk):=by
  intro k
  induction k with
  | zero=>intro i hk;exact h i hk
  | succ k ih =>
   intro i hk;have h1:=ih i (by omega);have h2:=h (i + k + 1) (by omega);exact Ff h1 h2
 intro i j hi hj Hw;have:=key (j - i - 1) i (by omega);have e:i + (j - i - 1) + 1=j:=by omega
 simpa [e] using this
def vN (K:zz7):Sp:=λvs H Q _=>∃(p:Addr) (ss:List Str),vs=[.ref p]/\Sq K H p (ss.map V.str)/\¬ ss.Pairwise GM/\ss.length<=1000/\∀H',ag H H'->Q (.bl false) H'
theorem tI (F:Gy K "is_rising" "is_rising" (top 12) f fd) (B:Bl mg):au P w K mg base GB 1 f fd ["names"] (vN K):=by
 refine F.ok sP (λvs H Q E h=>?_) (λ_ _ _ _ H vs Q E hr h=>?_)
 ·obtain⟨p,ss,rfl,_⟩:=h
  rfl
 ·obtain⟨p,ss,rfl,hq,hp,hz,k⟩:=h
  refine⟨_,aq (aG (aD (eV rfl) rfl B.all fc (aa (bS (N:=["at","names"]) (ix:=[none,some 0]) ⟨rfl,rfl,rfl,by decide⟩ rfl
   (nk rfl B.range (aa ai (aa (aD bu rfl B.len Ct (aa (pv 0) ae)) ae))) (λ_ _ _ _=>bj 0 (by decide) rfl rfl) (λ_ _ _ _=>bR)
   (λ_ _ _ _=>du mZ (aA (b7 K) (pv 1) (aK fN (pv 0) ai) (λ_ _=>rfl)) (aA (b7 K) (pv 1) (pv 0) (λ_ _=>rfl)) (aM _))) ae))),?_⟩
  have Qe:(ss.map V.str).length<=1000:=by simpa using hz
  let at':Nat->Bool:=λj=>decide ((ss.getD j default).cps.toList < (ss.getD (j + 1) default).cps.toList)
  refine⟨_,rfl,p,ss.map V.str,rfl,hq,1,_,rfl,⟨by decide,by decide,by omega,by omega⟩,fC (fits (by omega)) (λi ys σ H1=>ys=((List.range i).map at').map V.bl/\ag H H1/\∃v,σ=[v,some (.ref p)])
   ⟨rfl,ag.refl _,_,rfl⟩ (λi ys σ H1 _ q=>by rw [q.1];simp) ?_ ?_⟩
  ·rintro i ys σ H1 hi ⟨rfl,hs,v,rfl⟩
   have hl:i + 1 < ss.length:=by rw [B8] at hi;omega
   refine⟨_,rfl,_,rfl,_,_,rfl,rfl,aE (j:=i) (hq.same hs) (by omega) (strAt (by omega)) ⟨_,rfl,_,rfl,aE (j:=i + 1) (hq.same hs) (by push_cast;omega) (strAt hl) ⟨_,_,rfl,rfl,?_,hs,_,rfl⟩⟩⟩;have e1:ss.getD i default=ss[i]:=by rw [C1,B7 (by omega)];rfl
   have e2:ss.getD (i + 1) default=ss[i + 1]:=by rw [C1,B7 hl];rfl
   show _++[V.bl (decide (ss[i].cps.toList < ss[i + 1].cps.toList))]=_;rw [List.range_succ,CA,CA];show _=_++[V.bl (decide ((ss.getD i default).cps.toList < (ss.getD (i + 1) default).cps.toList))];rw [e1,e2]
  ·rintro ys σ H1 ⟨rfl,hs,v,rfl⟩ q KR
   refine⟨q,_,rfl,Gq.of ak,?_⟩;have e:(((List.range (((ss.map V.str).length:Int) - 1).toNat).map at').all id)=false:=by
    cases c:(((List.range (((ss.map V.str).length:Int) - 1).toNat).map at').all id) with
    | false=>rfl
    | true =>
     refine absurd (zz λi hi=>?_) hp;have:=CY.mp c (at' i) (Cg.mpr ⟨i,DC.mpr (by rw [B8];omega),rfl⟩);have h2:(ss.getD i default).cps.toList < (ss.getD (i + 1) default).cps.toList:=of_decide_eq_true this;have e1:ss.getD i default=ss[i]:=by rw [C1,B7 (by omega)];rfl
     have e2:ss.getD (i + 1) default=ss[i + 1]:=by rw [C1,B7 hi];rfl
     rw [e1,e2] at h2;exact h2
   rw [e];exact k _ (ao hs KR)
def dD (ss:List Str):Bool:=@decide (ss.Pairwise GM) (Classical.propDecidable _)
theorem k7 {ss:List Str}:dD ss=true ↔ ss.Pairwise GM:=@decide_eq_true_iff _ (Classical.propDecidable _)
theorem lu {ss:List Str} (h:¬ ss.Pairwise GM):dD ss=false:=@decide_eq_false _ (Classical.propDecidable _) h
def j6 (K:zz7):Sp:=λvs H Q _=>∃(p:Addr) (ss:List Str),vs=[.ref p]/\Sq K H p (ss.map V.str)/\ss.length<=1000/\∀H',ag H H'->Q (.bl (dD ss)) H'
theorem ux (F:Gy K "is_rising" "is_rising" (top 12) f fd) (B:Bl mg):au P w K mg base GB 1 f fd ["names"] (j6 K) :=
 (au.or (mq F B) (tI F B)).imp λvs H Q E h=>by
  obtain⟨p,ss,e,hq,hz,k⟩:=h
  by_cases c:ss.Pairwise GM
  ·exact .inl ⟨p,ss,e,hq,c,hz,λH' s=>by have:=k H' s;rw [k7.mpr c] at this;exact this⟩
  ·exact .inr ⟨p,ss,e,hq,c,hz,λH' s=>by have:=k H' s;rw [lu c] at this;exact this⟩
def dB (ds:List PyData):List Str:=ds.filterMap λ| .str s=>some s | _=>none
theorem gX (ss:List Str):dB (ss.map PyData.str)=ss:=by
 unfold dB
 induction ss with
 | nil=>rfl
 | cons s r ih=>rw [CD,Ej];simp only [ih]
def bU:PyData->Bool
 | .tuple ds=>ds.all bA && dD (dB ds)
 | _=>false
theorem mI {d:PyData} (h:bU d=true):∃ss:List Str,d=.tuple (ss.map PyData.str)/\(∀x∈ss,ba x)/\ss.Pairwise GM:=by
 cases d with
 | tuple ds =>
  unfold bU at h;rw [CK] at h;obtain⟨ss,rfl,hs⟩:=nj h.1;exact⟨ss,rfl,hs,by have:=k7.mp h.2;rwa [gX] at this⟩
 | _=>cases h
def j8:Sp:=λvs H Q _=>∃(x:V) (d:PyData),vs=[x]/\DV H x d/\Gw d/\∀H',ag H H'->Q (.bl (bU d)) H'
theorem mD (F:Gy K "is_sorted_names" "is_sorted_names" (top 13) f fd) (B:Bl mg) (F1:Fn P w K mg base 1 "is_name" ["thing"] kJ) (F2:Fn P w K mg base 1 "is_rising" ["names"] (j6 K)) :
  au P w K mg base GB 2 f fd ["thing"] j8:=by
 refine F.ok lZ (λvs H Q E h=>?_) (λ_ _ _ _ H vs Q E hr h=>?_)
 ·obtain⟨x,d,rfl,_⟩:=h
  rfl
 ·obtain⟨x,d,rfl,hx,hd,k⟩:=h
  refine⟨_,aj (aQ (bz (bG (aD (cf (T:="tuple")) rfl B.isinstance bK (aa (pv 0) (aa (b8 (v:=.ty "tuple") rfl B.tuple cA rfl) ae))))) (aq (aG cb)) aS)
   (aq (aG (cH (aD (eV rfl) rfl B.all fc (aa (bS (N:=["name"]) (ix:=[none]) ⟨rfl,rfl,rfl,by decide⟩ rfl (bW (pv 0)) (λ_ _ _ _=>bj 0 (by decide) rfl rfl) (λ_ _ _ _=>bR)
    (λ_ _ _ _=>ar F1 hr (aa (pv 0) ae))) ae)) (di (ar F2 hr (aa (pv 0) ae)))))),?_⟩
  have kF:bU d=false->Q (.bl false) H:=λe=>by have:=k H (ag.refl _);rw [e] at this;exact this
  cases hx with
  | non=>exact⟨_,rfl,_,_,false,rfl,.non,rfl,false,rfl,aB (kF rfl)⟩
  | int i=>exact⟨_,rfl,_,_,false,rfl,.int i,rfl,false,rfl,aB (kF rfl)⟩
  | bl b=>exact⟨_,rfl,_,_,false,rfl,.bl b,rfl,false,rfl,aB (kF rfl)⟩
  | str z=>exact⟨_,rfl,_,_,false,rfl,.str z,rfl,false,rfl,aB (kF rfl)⟩
  | lst e _=>exact⟨_,rfl,_,_,false,rfl,.lst e,rfl,false,rfl,aB (kF rfl)⟩
  | @tup p xs ds hp q =>
   obtain⟨hz,Io⟩:ds.length<=60/\∀d∈ds,Gw d:=by cases hd with | tup _ a b=>exact⟨a,b⟩
   have KO:=Gv.len q;refine⟨_,rfl,_,_,true,rfl,.tup hp,rfl,true,rfl,aL ?_⟩
   refine⟨_,rfl,p,rfl,⟨_,Gp.of hp⟩,eX (xs:=xs) (fits (by omega)) (λi ys σ H1=>ys=(ds.take i).map (λd=>V.bl (bA d))/\ag H H1/\∃v,σ=[v]) ⟨rfl,ag.refl _,_,rfl⟩
    (λi ys σ H1 _ q=>⟨by rw [q.1];simp;omega,eG q.2.1 (Gp.of hp)⟩) ?_ ?_⟩
   ·rintro i x ys σ H1 hx ⟨rfl,LA,v,rfl⟩
    obtain⟨d',Ie,dv⟩:=Gv.at q hx;exact⟨_,rfl,x,d',rfl,DV.same LA dv,Io d' (Cb Ie),λH2 Hq=>⟨(dE _ _ _ _ Ie).symm,LA.trans Hq,_,rfl⟩⟩
   ·rintro ys σ H1 ⟨rfl,LA,v,rfl⟩ r Gz
    have ea:(ds.take xs.length).map (λd=>V.bl (bA d))=(ds.map bA).map V.bl:=by rw [KO,Dg,CH];rfl
    rw [ea];have Hq:=ao (o:=.lst ((ds.map bA).map V.bl)) LA Gz;refine⟨r,ds.map bA,rfl,Gq.of ak,_,rfl,?_⟩;have e2:(ds.map bA).all id=ds.all bA:=by rw [EO];rfl
    rw [e2];cases c:ds.all bA with
    | false =>
     have:=k _ Hq;have e:bU (.tuple ds)=false:=by show (ds.all bA && _)=false;rw [c];rfl
     rw [e] at this;exact aL this
    | true =>
     obtain⟨ss,rfl,Qg⟩:=nj c;have ex:=Gv.txt q;subst ex;refine aB ⟨_,rfl,p,ss,rfl,.inr (eG Hq (Gp.of hp)),by simp at hz;omega,λH3 Sx=>?_⟩;have:=k _ (Hq.trans Sx);have e:bU (.tuple (ss.map PyData.str))=dD ss:=by show ((ss.map PyData.str).all bA && dD (dB _))=_;rw [c,gX];rfl
     rw [e] at this;exact this
def bV (d:PyData) (ss:List Str):Bool:=match d with | .str s=>decide (s∈ss) | _=>false
def nR (K:zz7):Sp:=λvs H Q _=>∃(x:V) (d:PyData) (p:Addr) (ss:List Str),vs=[x,.ref p]/\DV H x d/\Sq K H p (ss.map V.str)/\Q (.bl (bV d ss)) H
theorem vA (F:Gy K "is_among" "is_among" (top 14) f fd) (B:Bl mg):au P w K mg base GB 1 f fd ["thing","names"] (nR K):=by
 refine F.ok mh (λvs H Q E h=>?_) (λ_ _ _ _ H vs Q E hr h=>?_)
 ·obtain⟨x,d,p,ss,rfl,_⟩:=h
  rfl
 ·obtain⟨x,d,p,ss,rfl,hx,hp,k⟩:=h
  refine⟨_,aq (aG (cH (aD (cf (T:="str")) rfl B.isinstance bK (aa (pv 0) (aa (b8 (v:=.ty "str") rfl B.str fe rfl) ae)))
   (di (du gU (pv 0) (pv 1) (by with_unfolding_all rfl))))),?_⟩
  cases hx with
  | non=>exact⟨_,rfl,_,_,false,rfl,.non,rfl,false,rfl,aL k⟩
  | int i=>exact⟨_,rfl,_,_,false,rfl,.int i,rfl,false,rfl,aL k⟩
  | bl b=>exact⟨_,rfl,_,_,false,rfl,.bl b,rfl,false,rfl,aL k⟩
  | tup e _=>exact⟨_,rfl,_,_,false,rfl,.tup e,rfl,false,rfl,aL k⟩
  | lst e _=>exact⟨_,rfl,_,_,false,rfl,.lst e,rfl,false,rfl,aL k⟩
  | str x =>
   refine⟨_,rfl,_,_,true,rfl,.str x,rfl,true,rfl,aB ⟨_,rfl,_,rfl,p,ss.map V.str,rfl,hp,rfl,gk ss,?_⟩⟩;show Q (.bl (JQ (.str x) (ss.map V.str))) H;rw [gv];exact k
def b6 (ps:List Str):PyData->Bool
 | .tuple [a,.str s,.str t]=>bA a && (decide (s∈ps) && (decide (t∈ps) && !decide (s=t)))
 | _=>false
theorem zd {ps:List Str}{d:PyData} (h:b6 ps d=true):∃n s t:Str,d=.tuple [.str n,.str s,.str t]/\ba n/\s∈ps/\t∈ps/\s≠t:=by
 unfold b6 at h;split at h
 ·rename_i a s t
  simp only [CK,decide_eq_true_eq,FT,decide_eq_false_iff_not] at h;obtain⟨n,rfl,hn⟩:=mM h.1;exact⟨n,s,t,rfl,hn,h.2.1,h.2.2.1,h.2.2.2⟩
 ·cases h
theorem wD {ps:List Str}{ds:List PyData} (h:ds.length≠3):b6 ps (.tuple ds)=false:=by
 unfold b6;split
 ·rename_i e;cases e;exact absurd rfl h
 ·rfl
def PV:PyData->PyData->Bool
 | .str s,.str t=>!decide (s=t)
 | _,_=>false
theorem y0 {ps:List Str} (a b e:PyData):b6 ps (.tuple [a,b,e])=(bA a && (bV b ps && (bV e ps && PV b e))):=by
 cases b with
 | str s =>
  cases e with
  | str t=>rfl
  | _=>show false=(bA a && (decide (s∈ps) && (false && _)));simp
 | _=>show false=(bA a && (false && _));simp
def qF:Sp:=λvs H Q _=>∃(x:V) (d:PyData) (q:Addr) (ps:List Str),vs=[x,.ref q]/\DV H x d/\Gw d/\H q=some (.tup (ps.map V.str))/\∀H',ag H H'->Q (.bl (b6 ps d)) H'
theorem yM (F:Gy K "is_tie_row" "is_tie_row" (top 15) f fd) (B:Bl mg) (F1:Fn P w K mg base 1 "is_name" ["thing"] kJ) (F2:Fn P w K mg base 1 "is_among" ["thing","names"] (nR K)) :
  au P w K mg base GB 2 f fd ["thing","places"] qF:=by
 refine F.ok fm (λvs H Q E h=>?_) (λ_ _ _ _ H vs Q E hr h=>?_)
 ·obtain⟨x,d,q,ps,rfl,_⟩:=h
  rfl
 ·obtain⟨x,d,q,ps,rfl,hx,hd,hq,k⟩:=h
  refine⟨_,aj (aQ (PW.pt (cM (bz (bG (aD (cf (T:="tuple")) rfl B.isinstance bK (aa (pv 0) (aa (b8 (v:=.ty "tuple") rfl B.tuple cA rfl) ae)))))
    (cZ (aU cq (aD bu rfl B.len Ct (aa (pv 0) ae)) ai (aM _))))) (aq (aG cb)) aS)
   (aj (dX (pv 0) (dI rfl (n:=3) (bB (bt (i:=2) fm.nd rfl (Or.inl rfl)) (bB (bt (i:=3) fm.nd rfl (Or.inl rfl)) (bB (bt (i:=4) fm.nd rfl (Or.inl rfl)) cX)))))
   (aq (aG (cH (ar F1 hr (aa (pv 2) ae)) (cH (ar F2 hr (aa (pv 3) (aa (pv 1) ae))) (cH (ar F2 hr (aa (pv 4) (aa (pv 1) ae))) (di (du cq (pv 3) (pv 4) (aM _))))))))),?_⟩
  have kF:b6 ps d=false->∀H',ag H H'->Q (.bl false) H':=λe H' s=>by have:=k H' s;rw [e] at this;exact this
  cases hx with
  | non=>exact⟨_,rfl,_,_,false,rfl,.non,rfl,false,rfl,aB (aB (kF rfl H (ag.refl _)))⟩
  | int i=>exact⟨_,rfl,_,_,false,rfl,.int i,rfl,false,rfl,aB (aB (kF rfl H (ag.refl _)))⟩
  | bl b=>exact⟨_,rfl,_,_,false,rfl,.bl b,rfl,false,rfl,aB (aB (kF rfl H (ag.refl _)))⟩
  | str z=>exact⟨_,rfl,_,_,false,rfl,.str z,rfl,false,rfl,aB (aB (kF rfl H (ag.refl _)))⟩
  | lst e _=>exact⟨_,rfl,_,_,false,rfl,.lst e,rfl,false,rfl,aB (aB (kF rfl H (ag.refl _)))⟩
  | @tup p xs ds Ib qs =>
   have KO:=Gv.len qs;refine⟨_,rfl,_,_,true,rfl,.tup Ib,rfl,true,rfl,aL ⟨_,rfl,p,_,rfl,.inr (Gp.of Ib),rfl,_,rfl,?_⟩⟩
   by_cases c:ds.length=3
   ·obtain⟨a,b,e,rfl⟩:∃a b e,ds=[a,b,e]:=by
     match ds,c with
     | [a,b,e],_=>exact⟨a,b,e,rfl⟩
    cases qs with
    | @cons x1 _ _ _ d1 r =>
     cases r with
     | @cons x2 _ _ _ d2 r =>
      cases r with
      | @cons x3 _ _ _ d3 r =>
       cases r;obtain⟨k1,k2,k3⟩:Gw a/\Gw b/\Gw e:=by cases hd with | tup _ _ z=>exact⟨z _ (by simp),z _ (by simp),z _ (by simp)⟩
       refine d9 rfl ?_;refine⟨_,rfl,p,_,rfl,Gp.of Ib,rfl,_,_,rfl,_,_,rfl,_,_,rfl,rfl,?_⟩;rw [y0] at k;refine⟨_,rfl,x1,a,rfl,d1,k1,λH1 s1=>⟨bA a,rfl,?_⟩⟩;cases n1:bA a with
       | false=>rw [n1] at k;exact aL (k H1 s1)
       | true =>
        rw [n1] at k;refine aB ⟨_,rfl,_,rfl,x2,b,q,ps,rfl,DV.same s1 d2,.inr (eG s1 (Gp.of hq)),bV b ps,rfl,?_⟩;cases n2:bV b ps with
        | false=>rw [n2] at k;exact aL (k H1 s1)
        | true =>
         rw [n2] at k;refine aB ⟨_,rfl,_,rfl,x3,e,q,ps,rfl,DV.same s1 d3,.inr (eG s1 (Gp.of hq)),bV e ps,rfl,?_⟩;cases n3:bV e ps with
         | false=>rw [n3] at k;exact aL (k H1 s1)
         | true =>
          rw [n3] at k;refine aB ?_;cases d2 with
          | str s' =>
           cases d3 with
           | str t' =>
            refine⟨_,rfl,_,rfl,rfl,?_⟩;have e:(!decide (V.str s'=V.str t'))=PV (PyData.str s') (PyData.str t'):=by
             show _=!decide (s'=t')
             by_cases z:s'=t'
             ·subst z;simp
             ·rw [decide_eq_false (λw=>z (V.str.inj w)),decide_eq_false z]
            rw [e];exact k H1 s1
           | _=>cases n3
          | _=>cases n2
   ·refine iz (λz=>c ?_) (kF (wD c) H (ag.refl _))
    have:=V.int.inj z;rw [KO] at this;omega
def cF:PyData->List PyData
 | .tuple ds=>ds
 | _=>[]
def gy:PyData->Bool
 | .tuple _=>true
 | _=>false
def ed:PyData->Str
 | .tuple (.str n::_)=>n
 | _=>""
def c9:PyData->Bool
 | .tuple [a,b]=>bU a && (!(cF a).isEmpty && (gy b && ((cF b).all (b6 (dB (cF a))) && dD ((cF b).map ed))))
 | _=>false
theorem gY {ds:List PyData} (h:ds.length≠2):c9 (.tuple ds)=false:=by
 unfold c9;split
 ·rename_i e;cases e;exact absurd rfl h
 ·rfl
theorem zQ {H:Hp}{ps:List Str}:∀{xs:List V}{ds:List PyData},Gv H xs ds->ds.all (b6 ps)=true->∀{i:Nat}{x:V},xs[i]?=some x->∃(d:PyData) (a:Addr) (ys:List V),ds[i]?=some d/\x=.ref a/\H a=some (.tup (V.str (ed d)::ys)):=by
 intro xs ds q h i x hx;obtain⟨d,hd,dv⟩:=Gv.at q hx;obtain⟨n,s,t,rfl,hn,_⟩:=zd (CY.mp h d (Cb hd));cases dv with
 | @tup a ys _ e r =>
  cases r with
  | cons r1 r2 =>
   cases r1;exact⟨_,a,_,hd,rfl,e⟩
def rg:Sp:=λvs H Q _=>(∃(x:V) (d:PyData),vs=[x]/\DV H x d/\Gw d/\∀H',ag H H'->Q (.bl (c9 d)) H')\/∃a:Addr,vs=[.ref a]/\H a=some (.dK [])/\Q (.bl false) H
theorem xS (F:Gy K "is_web" "is_web" (top 16) f fd) (B:Bl mg) (F1:Fn P w K mg base 2 "is_sorted_names" ["thing"] j8) (F2:Fn P w K mg base 2 "is_tie_row" ["thing","places"] qF)
  (F3:Fn P w K mg base 1 "is_rising" ["names"] (j6 K)):au P w K mg base GB 3 f fd ["thing"] rg:=by
 refine F.ok gO (λvs H Q E h=>?_) (λ_ _ _ _ H vs Q E hr h=>?_)
 ·rcases h with ⟨x,d,rfl,_⟩ | ⟨a,rfl,_⟩ <;> rfl
 ·have GP:aT 1 _:=hr.mono (by decide)
  refine⟨_,aj (aQ (PW.pt (cM (bz (bG (aD (cf (T:="tuple")) rfl B.isinstance bK (aa (pv 0) (aa (b8 (v:=.ty "tuple") rfl B.tuple cA rfl) ae)))))
    (cZ (aU cq (aD bu rfl B.len Ct (aa (pv 0) ae)) ai (aM _))))) (aq (aG cb)) aS)
   (aj (dX (pv 0) (dI rfl (n:=2) (bB (bt (i:=1) gO.nd rfl (Or.inr rfl)) (bB (bt (i:=2) gO.nd rfl (Or.inl rfl)) cX))))
   (aj (aQ (PW.pt (cM (bz (bG (ar F1 hr (aa (pv 1) ae)))) (cM (aU dM (aD bu rfl B.len Ct (aa (pv 1) ae)) ai (aM _))
    (cZ (bz (bG (aD (cf (T:="tuple")) rfl B.isinstance bK (aa (pv 2) (aa (b8 (v:=.ty "tuple") rfl B.tuple cA rfl) ae))))))))) (aq (aG cb)) aS)
   (aq (aG (cH (aD (eV rfl) rfl B.all fc (aa (bS (N:=["row","places"]) (ix:=[none,some 1]) ⟨rfl,rfl,rfl,by decide⟩ rfl (bW (pv 2)) (λ_ _ _ _=>bj 0 (by decide) rfl rfl) (λ_ _ _ _=>bR)
    (λ_ _ _ _=>ar F2 hr (aa (pv 0) (aa (pv 1) ae)))) ae))
    (di (ar F3 GP (aa (bS (N:=["row"]) (ix:=[none]) ⟨rfl,rfl,rfl,by decide⟩ rfl (bW (pv 2)) (λ_ _ _ _=>bj 0 (by decide) rfl rfl) (λ_ _ _ _=>bR)
     (λ_ _ _ _=>aA (b7 K) (pv 0) ai (λ_ _=>rfl))) ae)))))))),?_⟩
  rcases h with ⟨x,d,rfl,hx,hd,k⟩ | ⟨a,rfl,ha,k⟩
  rotate_left
  ·exact⟨_,rfl,_,_,false,rfl,.dK ha,rfl,false,rfl,aB (aB k)⟩
  have kF:c9 d=false->∀H',ag H H'->Q (.bl false) H':=λe H' s=>by have:=k H' s;rw [e] at this;exact this
  cases hx with
  | non=>exact⟨_,rfl,_,_,false,rfl,.non,rfl,false,rfl,aB (aB (kF rfl H (ag.refl _)))⟩
  | int i=>exact⟨_,rfl,_,_,false,rfl,.int i,rfl,false,rfl,aB (aB (kF rfl H (ag.refl _)))⟩
  | bl b=>exact⟨_,rfl,_,_,false,rfl,.bl b,rfl,false,rfl,aB (aB (kF rfl H (ag.refl _)))⟩
  | str z=>exact⟨_,rfl,_,_,false,rfl,.str z,rfl,false,rfl,aB (aB (kF rfl H (ag.refl _)))⟩
  | lst e _=>exact⟨_,rfl,_,_,false,rfl,.lst e,rfl,false,rfl,aB (aB (kF rfl H (ag.refl _)))⟩
  | @tup v xs ds hv qs =>
   have KO:=Gv.len qs;refine⟨_,rfl,_,_,true,rfl,.tup hv,rfl,true,rfl,aL ⟨_,rfl,v,_,rfl,.inr (Gp.of hv),rfl,_,rfl,?_⟩⟩
   by_cases c:ds.length=2
   rotate_left
   ·refine iz (λz=>c ?_) (kF (gY c) H (ag.refl _))
    have:=V.int.inj z;rw [KO] at this;omega
   obtain⟨a,b,rfl⟩:∃a b,ds=[a,b]:=by
    match ds,c with
    | [a,b],_=>exact⟨a,b,rfl⟩
   cases qs with
   | @cons x1 _ _ _ d1 r =>
    cases r with
    | @cons x2 _ _ _ d2 r =>
     cases r;obtain⟨ka,kb⟩:Gw a/\Gw b:=by cases hd with | tup _ _ z=>exact⟨z _ (by simp),z _ (by simp)⟩
     refine d9 rfl ?_;refine⟨_,rfl,v,_,rfl,Gp.of hv,rfl,_,_,rfl,_,_,rfl,rfl,?_⟩;have ew:c9 (.tuple [a,b])=(bU a && (!(cF a).isEmpty && (gy b && ((cF b).all (b6 (dB (cF a))) && dD ((cF b).map ed))))):=rfl;refine⟨_,rfl,x1,a,rfl,d1,ka,λH1 s1=>⟨bU a,rfl,?_⟩⟩;cases ca:bU a with
     | false=>exact aB (aB (kF (by rw [ew,ca];rfl) H1 s1))
     | true =>
      obtain⟨ps,rfl,Ob,pso⟩:=mI ca;cases d1 with
      | @tup pa ys _ IU qp =>
       have ex:=Gv.txt qp;subst ex;have Zf:ps.length<=60:=by cases ka with | tup _ z _=>simpa using z
       refine aL ⟨_,rfl,pa,_,rfl,.inr (Gp.of (s1 _ _ IU)),rfl,_,rfl,?_⟩;have et:dB (cF (.tuple (ps.map PyData.str)))=ps:=gX ps;cases ps with
       | nil=>exact aB (aB (kF (by rw [ew,ca];rfl) H1 s1))
       | cons p0 pr =>
        generalize Jt:p0::pr=ps at *;refine jH (λz=>?_) ?_
        ·have z':=V.int.inj z
         rw [B8,<- Jt] at z';simp at z';omega
        have en:(!(cF (.tuple (ps.map PyData.str))).isEmpty)=true:=by rw [<- Jt];rfl
        rw [ca,en,et] at ew;cases d2 with
        | non=>exact⟨_,rfl,_,_,false,rfl,.non,rfl,false,rfl,aB (kF (by rw [ew];rfl) H1 s1)⟩
        | int i=>exact⟨_,rfl,_,_,false,rfl,.int i,rfl,false,rfl,aB (kF (by rw [ew];rfl) H1 s1)⟩
        | bl b=>exact⟨_,rfl,_,_,false,rfl,.bl b,rfl,false,rfl,aB (kF (by rw [ew];rfl) H1 s1)⟩
        | str z=>exact⟨_,rfl,_,_,false,rfl,.str z,rfl,false,rfl,aB (kF (by rw [ew];rfl) H1 s1)⟩
        | lst e _=>exact⟨_,rfl,_,_,false,rfl,.lst (s1 _ _ e),rfl,false,rfl,aB (kF (by rw [ew];rfl) H1 s1)⟩
        | @tup ra zs rs HV qr =>
         have Vf:=Gv.len qr;obtain⟨Sz,Vn⟩:rs.length<=60/\∀d∈rs,Gw d:=by cases kb with | tup _ y z=>exact⟨y,z⟩
         have Tx:c9 (.tuple [.tuple (ps.map PyData.str),.tuple rs])=(rs.all (b6 ps) && dD (rs.map ed)):=by rw [ew];rfl
         refine⟨_,rfl,_,_,true,rfl,.tup (s1 _ _ HV),rfl,true,rfl,aL ?_⟩
         refine⟨_,rfl,ra,rfl,⟨_,Gp.of (s1 _ _ HV)⟩,eX (xs:=zs) (fits (by omega)) (λi ys σ H2=>ys=(rs.take i).map (λd=>V.bl (b6 ps d))/\ag H H2/\∃x,σ=[x,some (.ref pa)]) ⟨rfl,s1,_,rfl⟩
          (λi ys σ H2 _ q=>⟨by rw [q.1];simp;omega,Gp.of (q.2.1 _ _ HV)⟩) ?_ ?_⟩
         ·rintro i x ys σ H2 hx ⟨rfl,s2,y,rfl⟩
          obtain⟨d',Ie,dv⟩:=Gv.at qr hx;exact⟨_,rfl,_,rfl,x,d',pa,ps,rfl,DV.same s2 dv,Vn d' (Cb Ie),s2 _ _ IU,λH3 s3=>⟨(dE _ _ _ _ Ie).symm,s2.trans s3,_,rfl⟩⟩
         ·rintro ys σ H2 ⟨rfl,s2,y,rfl⟩ q KR
          have ea:(rs.take zs.length).map (λd=>V.bl (b6 ps d))=(rs.map (b6 ps)).map V.bl:=by rw [Vf,Dg,CH];rfl
          rw [ea];have s3:=ao (o:=.lst ((rs.map (b6 ps)).map V.bl)) s2 KR;refine⟨q,rs.map (b6 ps),rfl,Gq.of ak,_,rfl,?_⟩;have e2:(rs.map (b6 ps)).all id=rs.all (b6 ps):=by rw [EO];rfl
          rw [e2];cases cr:rs.all (b6 ps) with
          | false=>exact aL (kF (by rw [Tx,cr];rfl) _ s3)
          | true =>
           rw [cr] at Tx
           refine aB ⟨_,rfl,ra,rfl,⟨_,Gp.of (s3 _ _ HV)⟩,eX (xs:=zs) (fits (by omega)) (λi ys σ H4=>ys=(rs.take i).map (λd=>V.str (ed d))/\ag H H4/\∃x,σ=[x]) ⟨rfl,s3,_,rfl⟩
            (λi ys σ H4 _ q=>⟨by rw [q.1];simp;omega,Gp.of (q.2.1 _ _ HV)⟩) ?_ ?_⟩
           ·rintro i x ys σ H4 hx ⟨rfl,s4,z,rfl⟩
            obtain⟨d',a',Kk,Ie,rfl,M9⟩:=zQ qr cr hx;exact⟨_,rfl,aE (j:=0) (.inr (Gp.of (s4 _ _ M9))) rfl rfl ⟨(dE _ _ _ _ Ie).symm,s4,_,rfl⟩⟩
           ·rintro ys σ H4 ⟨rfl,s4,z,rfl⟩ q2 He
            have eb:(rs.take zs.length).map (λd=>V.str (ed d))=(rs.map ed).map V.str:=by rw [Vf,Dg,CH];rfl
            rw [eb];refine⟨q2,rs.map ed,rfl,.inl (Gq.of ak),by simp;omega,λH5 s5=>?_⟩;have:=k H5 ((ao s4 He).trans s5);rw [Tx] at this;exact this
abbrev de (a b:Sp):Sp:=λvs H Q E=>a vs H Q E\/b vs H Q E
def bE (x:V) (H:Hp):Prop:=(∃d,DV H x d/\Gw d/\c9 d=false)\/∃a,x=.ref a/\H a=some (.dK [])
def bX (ps:List Str) (x:V) (H:Hp):Prop:=(∃d,DV H x d/\Gw d/\bV d ps=false)\/∃a,x=.ref a/\H a=some (.dK [])
theorem bE.same {x:V}{H H':Hp} (h:bE x H) (s:ag H H'):bE x H':=by
 rcases h with ⟨d,a,b⟩ | ⟨a,e,ha⟩
 ·exact .inl ⟨d,DV.same s a,b⟩
 ·exact .inr ⟨a,e,s _ _ ha⟩
theorem bX.same {ps:List Str}{x:V}{H H':Hp} (h:bX ps x H) (s:ag H H'):bX ps x H':=by
 rcases h with ⟨d,a,b⟩ | ⟨a,e,ha⟩
 ·exact .inl ⟨d,DV.same s a,b⟩
 ·exact .inr ⟨a,e,s _ _ ha⟩
def kj (K:zz7):Sp:=λvs H Q _=>∃(x:V) (p:Addr) (ss:List Str),vs=[x,.ref p]/\bX ss x H/\Sq K H p (ss.map V.str)/\Q (.bl false) H
theorem vH (F:Gy K "is_among" "is_among" (top 14) f fd) (B:Bl mg):au P w K mg base GB 1 f fd ["thing","names"] (kj K):=by
 refine F.ok mh (λvs H Q E h=>?_) (λ_ _ _ _ H vs Q E hr h=>?_)
 ·obtain⟨x,p,ss,rfl,_⟩:=h
  rfl
 ·obtain⟨x,p,ss,rfl,hx,hp,k⟩:=h
  refine⟨_,aq (aG (cH (aD (cf (T:="str")) rfl B.isinstance bK (aa (pv 0) (aa (b8 (v:=.ty "str") rfl B.str fe rfl) ae)))
   (di (du gU (pv 0) (pv 1) (by with_unfolding_all rfl))))),?_⟩
  rcases hx with ⟨d,dv,_,hd⟩ | ⟨a,rfl,ha⟩
  ·cases dv with
   | non=>exact⟨_,rfl,_,_,false,rfl,.non,rfl,false,rfl,aL k⟩
   | int i=>exact⟨_,rfl,_,_,false,rfl,.int i,rfl,false,rfl,aL k⟩
   | bl b=>exact⟨_,rfl,_,_,false,rfl,.bl b,rfl,false,rfl,aL k⟩
   | tup e _=>exact⟨_,rfl,_,_,false,rfl,.tup e,rfl,false,rfl,aL k⟩
   | lst e _=>exact⟨_,rfl,_,_,false,rfl,.lst e,rfl,false,rfl,aL k⟩
   | str z =>
    refine⟨_,rfl,_,_,true,rfl,.str z,?kit,true,rfl,aB ⟨_,rfl,_,rfl,?_⟩⟩
    case kit=>rfl
    refine⟨p,_,rfl,hp,rfl,gk _,?_⟩;have:decide (z∈ss)=false:=hd;rw [gv,this];exact k
  ·exact⟨_,rfl,_,_,false,rfl,.dK ha,rfl,false,rfl,aL k⟩
def p7 (C:Addr):Sp:=λvs H _ E=>∃x:V,vs=[x]/\bE x H/\∀H',ag H H'->E (.ref C) none H'
theorem tN {f C:Addr}{fd:FuncData} (F:Gy K "need_web" "need_web" (top 19) f fd) (hx:mg "NoWeb"=some (.ref C)) (hC:dC base C) (F1:Fn P w K mg base 3 "is_web" ["thing"] rg):au P w K mg base (GX P w) 4 f fd ["thing"] (p7 C):=by
 refine F.okX sJ (λvs H Q E h=>?_) (λ_ _ _ _ H vs Q E hr h=>?_)
 ·obtain⟨x,rfl,_⟩:=h
  rfl
 ·obtain⟨x,rfl,Jo,k⟩:=h
  refine⟨_,aq (aQ (bz (bG (ar F1 hr (aa (pv 0) ae)))) (aq (fE (W:=λH=>E (.ref C) none H) hx hC hr.hd (aa bq ae) (λpins σ H s h' ea args I m hW=>fS I m hW))) aS),?_⟩
  rcases Jo with ⟨d,dv,hd,hw⟩ | ⟨a,rfl,ha⟩
  ·refine⟨_,rfl,.inl ⟨x,d,rfl,dv,hd,λH1 s1=>⟨_,rfl,?_⟩⟩⟩
   rw [hw];exact aB ⟨by show 1<=sizeLine;decide,k H1 s1⟩
  ·exact⟨_,rfl,.inr ⟨a,rfl,ha,_,rfl,aB ⟨by show 1<=sizeLine;decide,k H (ag.refl _)⟩⟩⟩
def nO (C:Addr):Sp:=λvs H _ E=>∃(v pa ra:Addr) (ps:List Str) (rs:List (Addr×Row)) (x:V),vs=[.ref v,x]/\bc H v pa ra ps rs/\bX ps x H/\E (.ref C) none H
theorem tE {f C:Addr}{fd:FuncData} (F:Gy K "need_place" "need_place" (top 21) f fd) (hx:mg "NoPlace"=some (.ref C)) (hC:dC base C) (F1:Fn P w K mg base 1 "is_among" ["thing","names"] (kj K)):au P w K mg base (GX P w) 2 f fd ["web","thing"] (nO C):=by
 refine F.okX sD (λvs H Q E h=>?_) (λ_ _ _ _ H vs Q E hr h=>?_)
 ·obtain⟨v,pa,ra,ps,rs,x,rfl,_⟩:=h
  rfl
 ·obtain⟨v,pa,ra,ps,rs,x,rfl,W,Jo,k⟩:=h
  refine⟨_,aq (aQ (bz (bG (ar F1 hr (aa (pv 1) (aa (aA aF (pv 0) ai (λ_ _=>rfl)) ae))))) (aq (fE (W:=λH=>E (.ref C) none H) hx hC hr.hd (aa bq ae) (λpins σ H s h' ea args I m hW=>fS I m hW))) aS),?_⟩;exact⟨_,rfl,_,rfl,aE (j:=0) (.inr (Gp.of W.tp)) rfl rfl ⟨x,pa,ps,rfl,Jo,.inr (Gp.of W.pl),_,rfl,aB ⟨by show 1<=sizeLine;decide,k⟩⟩⟩
theorem wJ {K:zz7}{H:Hp}{a b:Addr}{xs ys:List V}{Q:VK} (ha:H a=some (.tup xs)) (hb:H b=some (.tup ys)) (hz:xs.length + ys.length<=sizeLine) (h:∀p H',ag H H'->H' p=some (.tup (xs++ys))->Q (.ref p) H'):lL K (.ref a) (.ref b) H Q :=
 ⟨a,b,xs,ys,rfl,rfl,Gp.of ha,Gp.of hb,hz,λe=>h b H (ag.refl _) (by subst e;exact hb),λe=>h a H (ag.refl _) (by subst e;rw [Eo];exact ha),λp hp=>h p _ (ao (ag.refl _) hp) ak⟩
def Yd (t:TE) (σ:St) (H:Hp) (f:V->Hp->Prop):Prop:=∀H',ag H H'->∀Q:VK,(∀x H2,ag H' H2->f x H2->Q x H2)->t σ H' Q
def Ya (f:V->Hp->Prop) (t:TA) (σ:St) (H:Hp) (n:Nat):Prop:=∀H',ag H H'->∀Q:List V->Hp->Prop,(∀xs H2,ag H' H2->(∀x∈xs,f x H2)->xs.length=n->Q xs H2)->t σ H' Q
abbrev Keeps (f:V->Hp->Prop):Prop:=∀x H H',f x H->ag H H'->f x H'
theorem Yd.imp {t:TE}{σ:St}{H:Hp}{f g:V->Hp->Prop} (h:Yd t σ H f) (i:∀x H',f x H'->g x H'):Yd t σ H g:=λH' s Q k=>h H' s Q λx H2 s2 hx=>k x H2 s2 (i x H2 hx)
theorem Yd.var {σ:St}{i:Nat}{v:V}{H:Hp}{f:V->Hp->Prop} (h:σ[i]?=some (some v)) (hf:∀H',ag H H'->f v H'):Yd (bv i) σ H f:=λH' s Q k=>⟨v,h,k v H' (ag.refl _) (hf H' s)⟩
theorem Yd.con {σ:St}{H:Hp}{v:V}{f:V->Hp->Prop} (h:∀H',f v H'):Yd (tC v) σ H f:=λH' s Q k=>k _ _ (ag.refl _) (h _)
theorem Gv.drop {H:Hp}:∀(n:Nat) {xs:List V}{ds:List PyData},Gv H xs ds->Gv H (xs.drop n) (ds.drop n)
 | 0,_,_,h=>h
 | n + 1,_,_,.nil=>by simpa using Gv.nil
 | n + 1,_,_,.cons a b=>by simpa using Gv.drop n b
theorem Gv.take {H:Hp}:∀(n:Nat) {xs:List V}{ds:List PyData},Gv H xs ds->Gv H (xs.take n) (ds.take n)
 | 0,_,_,h=>by simpa using Gv.nil
 | n + 1,_,_,.nil=>by simpa using Gv.nil
 | n + 1,_,_,.cons a b=>by simpa using Gv.cons a (Gv.take n b)
theorem Gv.append {H:Hp}:∀{xs ys:List V}{ds es:List PyData},Gv H xs ds->Gv H ys es->Gv H (xs++ys) (ds++es)
 | _,_,_,_,.nil,h=>h
 | _,_,_,_,.cons a b,h=>.cons a (Gv.append b h)
theorem Gv.rev {H:Hp}:∀{xs:List V}{ds:List PyData},Gv H xs ds->Gv H xs.reverse ds.reverse
 | _,_,.nil=>.nil
 | _,_,.cons a b=>by rw [E1,E1];exact Gv.append (Gv.rev b) (.cons a .nil)
theorem Ya.nil {f:V->Hp->Prop}{σ:St}{H:Hp}:Ya f bY σ H 0:=λH' s Q k=>k _ _ (ag.refl _) (λx hx=>(by cases hx)) rfl
theorem Ya.cons {f:V->Hp->Prop} (kf:Keeps f) {te:TE}{t:TA}{σ:St}{H:Hp}{n:Nat} (h:Yd te σ H f) (hs:Ya f t σ H n):Ya f (bN te t) σ H (n + 1):=λH' s Q k=>h H' s _ λx H1 s1 hx=>hs H1 (s.trans s1) _ λxs H2 s2 Oy hl=>k _ _ (s1.trans s2) (λy hy=>by
 rcases Ci.mp hy with e | e
 ·subst e;exact kf _ _ _ hx s2
 ·exact Oy y e) (by simp [hl])
theorem lr {f:V->Hp->Prop} (kf:Keeps f) {t:TA}{g:TG}{u:TS}{D:Ends}{σ:St}{H:Hp}{n:Nat} (h:Ya f t σ H n) (hn:n<=900) (k:∀(p:Addr) (xs:List V) (H':Hp),ag H H'->H' p=some (.lst xs)->(∀x∈xs,f x H')->xs.length=n->H p=none->g (.ref p) σ H' (u D)):eh (fq (eB t) g) u D σ H :=
 h H (ag.refl _) _ λxs H2 s2 hx hl=>⟨CO (fits (by omega)),λp hp=>k p xs _ (ao s2 hp) ak (λx hm=>kf _ _ _ (hx x hm) (ao (ag.refl _) hp)) hl (by
  cases hc:H p with
  | none=>rfl
  | some o=>have:=s2 _ _ hc;rw [hp] at this;cases this)⟩
theorem gz {f:V->Hp->Prop} (kf:Keeps f) {t:TA}{g:TG}{u:TS}{D:Ends}{σ:St}{H:Hp}{n i:Nat}{q:Addr}{ys:List V} (hi:σ[i]?=some (some (.ref q))) (hq:H q=some (.lst ys)) (hy:∀x∈ys,f x H) (h:Ya f t σ H n) (hn:ys.length + n<=900)
  (k:∀(p:Addr) (xs:List V) (H':Hp),ag H H'->H' p=some (.lst xs)->(∀x∈xs,f x H')->xs.length=ys.length + n->H p=none->g (.ref p) σ H' (u D)):eh (fq (HZ jT (bv i) (eB t)) g) u D σ H :=
 ⟨_,hi,h H (ag.refl _) _ λxs H2 s2 hx hl=>⟨CO (fits (by omega)),λp hp=>by
  have s3:=ao (o:=.lst xs) s2 hp;have h3:upd H2 p (.lst xs) p=some (.lst xs):=ak;have x3:∀x∈xs,f x (upd H2 p (.lst xs)):=λx hm=>kf _ _ _ (hx x hm) (ao (ag.refl _) hp);generalize upd H2 p (.lst xs)=H3 at s3 h3 x3 ⊢;refine⟨q,p,_,_,rfl,rfl,s3 _ _ hq,h3,CO (fits (by omega)),λr hr=>?_⟩;have s4:=ao (o:=.lst (ys++xs)) (ag.refl H3) hr;refine k r (ys++xs) _ (s3.trans s4) ak (λx hm=>?_) (by simp [hl]) ?_
  ·rcases Ck.mp hm with z | z
   ·exact kf _ _ _ (hy x z) (s3.trans s4)
   ·exact kf _ _ _ (x3 x z) s4
  ·cases hc:H r with
   | none=>rfl
   | some o=>have:=s3 _ _ hc;rw [hr] at this;cases this⟩⟩
theorem GF.same {H H':Hp}{p:Addr} (h:GF H p) (s:ag H H'):GF H' p:=h.keep λo e=>s _ _ e
mutual
theorem DV.kp {H H':Hp}{p:Addr} (k:Kp [p] H H') (hp:GF H p):∀{x:V}{d:PyData},DV H x d->Gw d->DV H' x d
 | _,_,.non,_=>.non
 | _,_,.bl b,_=>.bl b
 | _,_,.int i,_=>.int i
 | _,_,.str x,_=>.str x
 | _,_,.tup (a:=a) (xs:=xs) e q,hd=>.tup (k _ _ e λz=>by
   have z:a=p:=by simpa using z
   subst z;obtain⟨i,j,q,_⟩:=hp
   rw [e] at q;cases q) (Gv.kp k hp q (by cases hd with | tup _ _ h=>exact h))
 | _,_,.lst (a:=a) (xs:=xs) e q,hd=>.lst (k _ _ e λz=>by
   have z:a=p:=by simpa using z
   subst z;obtain⟨i,j,q',_⟩:=hp;rw [e] at q';cases q';cases hd with
   | lst _ _ _ hn =>
    cases q with
    | cons r1 r =>
     cases r with
     | cons r2 r3 =>
      cases r3;cases r1;cases r2
      exact hn _ _ rfl) (Gv.kp k hp q (by cases hd with | lst _ _ h _=>exact h))
theorem Gv.kp {H H':Hp}{p:Addr} (k:Kp [p] H H') (hp:GF H p):∀{xs:List V}{ds:List PyData},Gv H xs ds->(∀d∈ds,Gw d)->Gv H' xs ds
 | _,_,.nil,_=>.nil
 | _,_,.cons a b,h=>.cons (DV.kp k hp a (h _ Cf)) (Gv.kp k hp b λd hd=>h d (Cj _ hd))
end
theorem jX {c:Const}{k:Nat}{p:Pos}{es:List Expr}{env:Env}:starEach (.Constant c k p::es) env=(false,eval (.Constant c k p) env)::starEach es env:=rfl
theorem Bp {xs:List Expr}{k:Nat}{p:Pos}{es:List Expr}{env:Env}:starEach (.Tuple xs k p::es) env=(false,eval (.Tuple xs k p) env)::starEach es env:=rfl
theorem AW {xs:List Expr}{p:Pos}{es:List Expr}{env:Env}:starEach (.List xs p::es) env=(false,eval (.List xs p) env)::starEach es env:=rfl
theorem sN {xs:List (Option Expr)}{ys:List Expr}{p:Pos}{es:List Expr}{env:Env}:starEach (.Dict xs ys p::es) env=(false,eval (.Dict xs ys p) env)::starEach es env:=rfl
abbrev Dv (d:PyData) (x:V) (H:Hp):Prop:=DV H x d
def Lb (t:TA) (σ:St) (H:Hp) (ds:List PyData):Prop:=∀H',ag H H'->∀Q:List V->Hp->Prop,(∀xs H2,ag H' H2->Gv H2 xs ds->Q xs H2)->t σ H' Q
theorem Lb.nil {σ:St}{H:Hp}:Lb bY σ H []:=λH' s Q k=>k _ _ (ag.refl _) .nil
theorem Lb.cons {te:TE}{t:TA}{σ:St}{H:Hp}{d:PyData}{ds:List PyData} (h:Yd te σ H (Dv d)) (hs:Lb t σ H ds):Lb (bN te t) σ H (d::ds):=λH' s Q k=>h H' s _ λx H1 s1 hx=>hs H1 (s.trans s1) _ λxs H2 s2 Oy=>k _ _ (s1.trans s2) (.cons (DV.same s2 hx) Oy)
theorem Yd.tupD {t:TA}{σ:St}{H:Hp}{ds:List PyData} (h:Lb t σ H ds) (hn:ds.length<=60):Yd (jP t) σ H (Dv (.tuple ds)):=λH' s Q k=>h H' s _ λxs H1 s1 hx=>by
 have:=Gv.len hx;refine⟨CO (fits (by omega)),λp hp=>?_⟩;have s2:=ao (o:=.tup xs) (ag.refl H1) hp;exact k _ _ (s1.trans s2) (.tup ak (Gv.same s2 hx))
theorem Yd.lsD {t:TA}{σ:St}{H:Hp}{ds:List PyData} (h:Lb t σ H ds) (hn:ds.length<=60):Yd (eB t) σ H (Dv (.list ds)):=λH' s Q k=>h H' s _ λxs H1 s1 hx=>by
 have:=Gv.len hx;refine⟨CO (fits (by omega)),λp hp=>?_⟩;have s2:=ao (o:=.lst xs) (ag.refl H1) hp;exact k _ _ (s1.trans s2) (.lst ak (Gv.same s2 hx))
theorem jd {H H':Hp}{p a:Addr} (k:Kp [p] H H') (hp:GF H p) (h:H a=some (.dK [])):H' a=some (.dK []):=k a _ h λz=>by
 have z:a=p:=by simpa using z
 subst z;obtain⟨i,j,q,_⟩:=hp;rw [h] at q;cases q
theorem bE.kp {x:V}{H H':Hp}{p:Addr} (h:bE x H) (k:Kp [p] H H') (hp:GF H p):bE x H':=by
 rcases h with ⟨d,a,b,c⟩ | ⟨a,e,ha⟩
 ·exact .inl ⟨d,DV.kp k hp a b,b,c⟩
 ·exact .inr ⟨a,e,jd k hp ha⟩
theorem bX.kp {ps:List Str}{x:V}{H H':Hp}{p:Addr} (h:bX ps x H) (k:Kp [p] H H') (hp:GF H p):bX ps x H':=by
 rcases h with ⟨d,a,b,c⟩ | ⟨a,e,ha⟩
 ·exact .inl ⟨d,DV.kp k hp a b,b,c⟩
 ·exact .inr ⟨a,e,jd k hp ha⟩
theorem zb {t:TE}{σ:St}{H:Hp}{d:PyData} (h:Yd t σ H (Dv d)) (ok:Gw d) (n:c9 d=false):Yd t σ H bE:=h.imp λx H' z=>.inl ⟨d,z,ok,n⟩
theorem Al {ps:List Str}{t:TE}{σ:St}{H:Hp}{d:PyData} (h:Yd t σ H (Dv d)) (ok:Gw d) (n:bV d ps=false):Yd t σ H (bX ps):=h.imp λx H' z=>.inl ⟨d,z,ok,n⟩
theorem gZ {σ:St}{H:Hp}{f:V->Hp->Prop} (h:∀p H',H' p=some (.dK [])->f (.ref p) H'):Yd lA σ H f:=λH' s Q k p hp=>k _ _ (ao (ag.refl _) hp) (h _ _ ak)
theorem Yd.i {σ:St}{H:Hp} (i:Int):Yd (tC (.int i)) σ H (Dv (.int i)):=Yd.con λ_=>.int i
theorem Yd.s {σ:St}{H:Hp} (x:Str):Yd (tC (.str x)) σ H (Dv (.str x)):=Yd.con λ_=>.str x
theorem Yd.b {σ:St}{H:Hp} (b:Bool):Yd (tC (.bl b)) σ H (Dv (.bool b)):=Yd.con λ_=>.bl b
theorem Yd.n {σ:St}{H:Hp}:Yd (tC .non) σ H (Dv .none):=Yd.con λ_=>.non
theorem BC {op:UnaryOp}{a:Expr}{p:Pos}{es:List Expr}{env:Env}:starEach (.UnaryOp op a p::es) env=(false,eval (.UnaryOp op a p) env)::starEach es env:=rfl
theorem AS {a:Expr}{op:Operator}{b:Expr}{p:Pos}{es:List Expr}{env:Env}:starEach (.BinOp a op b p::es) env=(false,eval (.BinOp a op b p) env)::starEach es env:=rfl
theorem BG {a b:Expr}{p:Pos}{es:List Expr}{env:Env}:starEach (.Subscript a b p::es) env=(false,eval (.Subscript a b p) env)::starEach es env:=rfl
theorem Bf {x:Str}{p:Pos}{es:List Expr}{env:Env}:starEach (.Name x p::es) env=(false,eval (.Name x p) env)::starEach es env:=rfl
theorem Yd.neg {t:TE}{σ:St}{H:Hp}{i:Int} (h:Yd t σ H (Dv (.int i))):Yd (NR (rU λi=>.int (-i)) t) σ H (Dv (.int (-i))):=λH' s Q k=>h H' s _ λx H1 s1 hx=>by
 cases hx;exact⟨i,rfl,k _ _ s1 (.int _)⟩
theorem bX.keeps {ps:List Str}:Keeps (bX ps):=λx H H' h s=>h.same s
theorem bE.keeps:Keeps bE:=λx H H' h s=>h.same s
abbrev cL (r:Addr×Row):PyData:=.tuple [.str r.2.1,.str r.2.2.1,.str r.2.2.2]
abbrev fj (ps:List Str) (rs:List (Addr×Row)):PyData:=.tuple [.tuple (ps.map PyData.str),.tuple (rs.map cL)]
theorem kK {H:Hp}:∀{rs:List (Addr×Row)},(∀r∈rs,bM H r.1 r.2)->Gv H (aw rs) (rs.map cL)
 | [],_=>.nil
 | r::t,h=>.cons (.tup (h r Cf) (.cons (.str _) (.cons (.str _) (.cons (.str _) .nil)))) (kK λx hx=>h x (Cj _ hx))
theorem bc.dv {H:Hp}{v pa ra:Addr}{ps:List Str}{rs:List (Addr×Row)} (W:bc H v pa ra ps rs):DV H (.ref v) (fj ps rs):=.tup W.tp (.cons (.tup W.pl (Gv.strs _)) (.cons (.tup W.rl (kK W.rows)) .nil))
theorem cV {x:Str} (h:ba x):Gw (.str x):=.str x ⟨by have:=h.hi;omega,h.ascii⟩
theorem iR {ps:List Str} (h:∀x∈ps,ba x) (hl:ps.length<=60):Gw (.tuple (ps.map PyData.str)):=.tup _ (by simpa using hl) λd hd=>by
 obtain⟨x,hx,rfl⟩:=Cg.mp hd;exact cV (h x hx)
theorem kg {ps:List Str}{rs:List (Addr×Row)} (G:Good ps (rs.map (·.2))):∀d∈rs.map cL,Gw d:=λd hd=>by
 obtain⟨r,hr,rfl⟩:=Cg.mp hd;obtain⟨h1,h2,h3,_⟩:=G.rn r.2 (Co hr);refine .tup _ (by simp) λd hd=>?_;simp only [Ci,C2,or_false] at hd
 rcases hd with rfl | rfl | rfl
 ·exact cV h1
 ·exact cV (G.nm _ h2)
 ·exact cV (G.nm _ h3)
theorem ip {ps:List Str}{x:Str} (G:∀y∈ps,ba y) (h:¬ ba x):bV (.str x) ps=false:=decide_eq_false λz=>h (G x z)
theorem Yd.addS {t:TE}{σ:St}{H:Hp}{x:Str} (h:Yd t σ H (Dv (.str x))) (y:Str) (hl:x.length + y.length<=1000):Yd (HZ (λx y H Q=>∃i j,x=V.str i/\y=V.str j/\i.length + j.length<=sizeLine/\Q (V.str (i++j)) H) t (tC (.str y))) σ H (Dv (.str (x++y))):=λH' s Q k=>h H' s _ λz H1 s1 hz=>by
 cases hz;exact⟨x,y,rfl,rfl,CO (fits hl),k _ _ s1 (.str _)⟩
theorem Ll {a b:PyData} (h:bU a=false):c9 (.tuple [a,b])=false:=by
 show (bU a && _)=false;rw [h];rfl
theorem WN {a b:PyData} (h:(cF a).isEmpty=true):c9 (.tuple [a,b])=false:=by
 show (bU a && (!(cF a).isEmpty && _))=false;rw [h];simp
theorem Ur {a b:PyData} (h:gy b=false):c9 (.tuple [a,b])=false:=by
 show (bU a && (!(cF a).isEmpty && (gy b && _)))=false;rw [h];simp
theorem MQ {a:PyData}{ds:List PyData}{d:PyData} (hd:d∈ds) (h:b6 (dB (cF a)) d=false):c9 (.tuple [a,.tuple ds])=false:=by
 show (bU a && (!(cF a).isEmpty && (gy (.tuple ds) && (ds.all (b6 (dB (cF a))) && _))))=false;have:ds.all (b6 (dB (cF a)))=false:=by
  rw [E4];exact⟨d,hd,by rw [h];simp⟩
 rw [this];simp
theorem Uq {a:PyData}{ds:List PyData} (h:¬ (ds.map ed).Pairwise GM):c9 (.tuple [a,.tuple ds])=false:=by
 show (bU a && (!(cF a).isEmpty && (gy (.tuple ds) && (_ && dD (ds.map ed)))))=false;rw [lu h];simp
theorem PD {ds:List PyData}{d:PyData} (hd:d∈ds) (h:bA d=false):bU (.tuple ds)=false:=by
 show (ds.all bA && _)=false;have:ds.all bA=false:=by
  rw [E4];exact⟨d,hd,by rw [h];simp⟩
 rw [this];rfl
theorem NZ {ss:List Str} (h:¬ ss.Pairwise GM):bU (.tuple (ss.map PyData.str))=false:=by
 show ((ss.map PyData.str).all bA && dD (dB (ss.map PyData.str)))=false;rw [gX,lu h];simp
theorem jS:Gw (.tuple []):=.tup _ (by simp) (by simp)
theorem dN {a:PyData} (h:Gw a):Gw (.tuple [a]):=.tup _ (by simp) (by simpa using h)
theorem eD {a b:PyData} (h:Gw a) (g:Gw b):Gw (.tuple [a,b]):=.tup _ (by simp) (by simp;exact⟨h,g⟩)
theorem sL {a b c:PyData} (h:Gw a) (g:Gw b) (i:Gw c):Gw (.tuple [a,b,c]):=.tup _ (by simp) (by simp;exact⟨h,g,i⟩)
theorem sU {x:Str} (h1:x.length<=100) (h2:x.cps.all (· < 128)=true):Gw (.str x):=.str x ⟨h1,h2⟩
theorem ye {ps:List Str} (h:ps.Pairwise GM) (h2:1 < ps.length):¬ ps.reverse.Pairwise GM:=λz=>by
 rw [List.pairwise_reverse] at z
 match ps,h2 with
 | a::b::r,_ =>
  have h3:=(DA.mp h).1 b (by simp);have h4:=(DA.mp z).1 b (by simp);exact EV _ (Ff (show a.cps.toList < b.cps.toList from h3) h4)
theorem wY {ps:List Str}{x:Str} (h:x∈ps):¬ (ps++[x]).Pairwise GM:=λz=>by
 have:=(EB.mp z).2.2 x h x (by simp);exact EV _ (show x.cps.toList < x.cps.toList from this)
structure Cn (σ:St) (H:Hp) (pa ra:Addr) (ps:List Str) (rs:List (Addr×Row)) (p0:Str):Prop where
 s2:σ[2]?=some (some (.ref pa))
 s3:σ[3]?=some (some (.ref ra))
 s4:σ[4]?=some (some (.str p0))
 h2:H pa=some (.tup (ps.map V.str))
 h3:H ra=some (.tup (aw rs))
 rw:∀r∈rs,bM H r.1 r.2
section
variable {σ:St}{H:Hp}{pa ra:Addr}{ps:List Str}{rs:List (Addr×Row)}{p0:Str}
theorem Yd.lsO {K:zz7}{te:TE}{ds:List PyData} (h:Yd te σ H (Dv (.tuple ds))):Yd (NS (λxs H Q=>∃p ys,xs=[.ref p]/\(Gq K H p ys\/Gp K H p ys)/\∀l,H l=none->Q (.ref l) (upd H l (.lst ys))) (bN te bY)) σ H (Dv (.list ds)):=λH' s Q k=>h H' s _ λx H1 s1 hx=>by
 cases hx with
 | @tup a xs _ e q =>
  refine⟨a,_,rfl,.inr (Gp.of e),λl hl=>?_⟩;have s2:=ao (o:=.lst xs) (ag.refl H1) hl;exact k _ _ (s1.trans s2) (.lst ak (Gv.same s2 q))
theorem Yd.catD {K:zz7}{ta tb:TE}{ds es:List PyData} (ha:Yd ta σ H (Dv (.tuple ds))) (hb:Yd tb σ H (Dv (.tuple es))) (hz:ds.length + es.length<=900):Yd (HZ (lL K) ta tb) σ H (Dv (.tuple (ds++es))):=λH' s Q k=>ha H' s _ λx H1 s1 hx=>hb H1 (s.trans s1) _ λy H2 s2 hy=>by
 cases hx with
 | @tup a xs _ e q =>
  cases hy with
  | @tup b ys _ e' q' =>
   have l1:=Gv.len q;have l2:=Gv.len q';exact wJ (s2 _ _ e) e' (CO (fits (by omega))) λr H3 s3 hr=>k _ _ (s1.trans (s2.trans s3)) (.tup hr (Gv.append (Gv.same (s2.trans s3) q) (Gv.same s3 q')))
end
theorem Br {f:Expr}{as:List Expr}{ks:List Keyword}{p:Pos}{es:List Expr}{env:Env}:starEach (.Call f as ks p::es) env=(false,eval (.Call f as ks p) env)::starEach es env:=rfl
theorem Yd.revD {K:zz7}{te:TE}{σ:St}{H:Hp}{ds:List PyData} (h:Yd te σ H (Dv (.tuple ds))):Yd (rG K te (dz (NR (rU λi=>.int (-i)) (tC (.int 1))))) σ H (Dv (.tuple ds.reverse)):=λH' s Q k=>h H' s _ λx H1 s1 hx=>by
 cases hx with
 | @tup a xs _ e q =>
  refine⟨1,rfl,_,rfl,rfl,a,_,rfl,Gp.of e,λp hp=>?_⟩;have s2:=ao (o:=.tup xs.reverse) (ag.refl H1) hp;exact k _ _ (s1.trans s2) (.tup ak (Gv.same s2 (Gv.rev q)))
end K85
namespace L2
open PySem
end L2
namespace K85
open PySem L2
variable {P:Program}{w:World}{K:zz7}{mg:Str->Option zz9}{base:Heap}{f:Addr}{fd:FuncData}
def kW:Sp:=λvs H Q _=>∃z:Int,vs=[.int z]/\Q (.bl true) H
theorem su:aV ["thing"] ["thing"] (aH (top 11)):=⟨rfl,rfl,rfl,by decide +kernel,rfl,by decide +kernel,by decide +kernel⟩
theorem my (F:Gy K "is_whole" "is_whole" (top 11) f fd) (B:Bl mg):au P w K mg base GB 1 f fd ["thing"] kW:=by
 refine F.ok su (λvs H Q E h=>?_) (λ_ _ _ _ H vs Q E hr h=>?_)
 ·obtain⟨z,rfl,_⟩:=h
  rfl
 ·obtain⟨z,rfl,k⟩:=h
  refine⟨_,aq (aG (cH (aD (cf (T:="int")) rfl B.isinstance bK (aa (pv 0) (aa (b8 (v:=.ty "int") rfl B.int rP rfl) ae)))
   (di (qd (aD (cf (T:="bool")) rfl B.isinstance bK (aa (pv 0) (aa (b8 (v:=.ty "bool") rfl B.bool pZ rfl) ae))))))),?_⟩
  exact⟨_,rfl,_,_,true,rfl,.int z,rfl,true,rfl,aB ⟨_,rfl,_,_,false,rfl,.int z,rfl,false,rfl,k⟩⟩
def ku:Sp:=λvs H Q _=>∃z lo hi:Int,vs=[.int z,.int lo,.int hi]/\lo<=z/\z<=hi/\Q .non H
theorem sC:aV ["thing","low","high"] ["thing","low","high"] (aH (top 20)):=⟨rfl,rfl,rfl,by decide +kernel,rfl,by decide +kernel,by decide +kernel⟩
theorem mi (F:Gy K "need_number" "need_number" (top 20) f fd) (F1:Fn P w K mg base 1 "is_whole" ["thing"] kW):au P w K mg base GB 2 f fd ["thing","low","high"] ku:=by
 refine F.ok sC (λvs H Q E h=>?_) (λ_ _ _ _ H vs Q E hr h=>?_)
 ·obtain⟨z,lo,hi,rfl,_⟩:=h
  rfl
 ·obtain⟨z,lo,hi,rfl,h1,h2,k⟩:=h
  refine⟨_,aq (aQ (PW.pt (cM (bz (bG (ar F1 hr (aa (pv 0) ae)))) (cZ (bz (je fh fh (pv 1) (pv 0) (pv 2)))))) bO aS),?_⟩;exact⟨_,rfl,z,rfl,true,rfl,aL ⟨_,rfl,_,rfl,_,_,rfl,rfl,_,rfl,gM h1 ⟨_,rfl,_,_,rfl,rfl,_,rfl,d9 h2 k⟩⟩⟩
def cg (lo hi:Int) (x:V) (H:Hp):Prop:=(∃d,DV H x d/\Gw d/\∀i,d=.int i->¬ (lo<=i/\i<=hi))\/∃a,x=.ref a/\H a=some (.dK [])
theorem cg.same {lo hi:Int}{x:V}{H H':Hp} (h:cg lo hi x H) (s:ag H H'):cg lo hi x H':=by
 rcases h with ⟨d,a,b⟩ | ⟨a,e,ha⟩
 ·exact .inl ⟨d,DV.same s a,b⟩
 ·exact .inr ⟨a,e,s _ _ ha⟩
def nM:Sp:=λvs H Q _=>∃x:V,vs=[x]/\((∃d,DV H x d/\∀i,d≠.int i)\/∃a,x=.ref a/\H a=some (.dK []))/\Q (.bl false) H
theorem uK (F:Gy K "is_whole" "is_whole" (top 11) f fd) (B:Bl mg):au P w K mg base GB 1 f fd ["thing"] nM:=by
 refine F.ok su (λvs H Q E h=>?_) (λ_ _ _ _ H vs Q E hr h=>?_)
 ·obtain⟨x,rfl,_⟩:=h
  rfl
 ·obtain⟨x,rfl,hx,k⟩:=h
  refine⟨_,aq (aG (cH (aD (cf (T:="int")) rfl B.isinstance bK (aa (pv 0) (aa (b8 (v:=.ty "int") rfl B.int rP rfl) ae)))
   (di (qd (aD (cf (T:="bool")) rfl B.isinstance bK (aa (pv 0) (aa (b8 (v:=.ty "bool") rfl B.bool pZ rfl) ae))))))),?_⟩
  rcases hx with ⟨d,dv,hd⟩ | ⟨a,rfl,ha⟩
  ·cases dv with
   | non=>exact⟨_,rfl,_,_,false,rfl,.non,rfl,false,rfl,aL k⟩
   | int i=>exact absurd rfl (hd i)
   | bl b=>exact⟨_,rfl,_,_,true,rfl,.bl b,rfl,true,rfl,aB ⟨_,rfl,_,_,true,rfl,.bl b,rfl,true,rfl,k⟩⟩
   | tup e _=>exact⟨_,rfl,_,_,false,rfl,.tup e,rfl,false,rfl,aL k⟩
   | lst e _=>exact⟨_,rfl,_,_,false,rfl,.lst e,rfl,false,rfl,aL k⟩
   | str z=>exact⟨_,rfl,_,_,false,rfl,.str z,rfl,false,rfl,aL k⟩
  ·exact⟨_,rfl,_,_,false,rfl,.dK ha,rfl,false,rfl,aL k⟩
def nu (C:Addr):Sp:=λvs H _ E=>∃(x:V) (lo hi:Int),vs=[x,.int lo,.int hi]/\cg lo hi x H/\lo.natAbs.log2 < 1920/\hi.natAbs.log2 < 1920/\(Str.ofString (toString lo)).length<=100/\(Str.ofString (toString hi)).length<=100/\E (.ref C) none H
theorem tj {f C:Addr}{fd:FuncData} (F:Gy K "need_number" "need_number" (top 20) f fd) (B:Bl mg) (hx:mg "NoNumber"=some (.ref C)) (hC:dC base C) (F1:Fn P w K mg base 1 "is_whole" ["thing"] (de kW nM)):au P w K mg base (GX P w) 2 f fd ["thing","low","high"] (nu C):=by
 refine F.okX sC (λvs H Q E h=>?_) (λ_ _ _ _ H vs Q E hr h=>?_)
 ·obtain⟨x,lo,hi,rfl,_⟩:=h
  rfl
 ·obtain⟨x,lo,hi,rfl,Jo,h1,h2,h3,h4,k⟩:=h
  refine⟨_,aq (aQ (PW.pt (cM (bz (bG (ar F1 hr (aa (pv 0) ae)))) (cZ (bz (je fh fh (pv 1) (pv 0) (pv 2))))))
   (aq (fE (W:=λH=>E (.ref C) none H) hx hC hr.hd (aa (aK fD (aK fD (aK fD bq (cP jY rfl B.str fe (aa (pv 1) ae))) bq) (cP jY rfl B.str fe (aa (pv 2) ae))) ae) (λpins σ H s h' ea args I m hW=>fS I m hW))) aS),?_⟩
  have sz:∀n:Nat,n<=1000->n<=sizeLine:=λn h=>CO (fits h);have l1:(Str.ofString "this is no number from ").length=23:=by decide +kernel
  have l2:(Str.ofString " to ").length=4:=by decide +kernel
  have e1:(Str.ofString "this is no number from "++Str.ofString (toString lo)).length=23 + (Str.ofString (toString lo)).length:=by rw [FW,l1]
  have e2:(Str.ofString "this is no number from "++Str.ofString (toString lo)++Str.ofString " to ").length=23 + (Str.ofString (toString lo)).length + 4:=by rw [FW,e1,l2]
  have raise:∀H1:Hp,H1=H->∀D:Ends,qm (bN
    (HZ (λx y H Q=>∃i j,x=V.str i/\y=V.str j/\i.length + j.length<=sizeLine/\Q (V.str (i++j)) H)
     (HZ (λx y H Q=>∃i j,x=V.str i/\y=V.str j/\i.length + j.length<=sizeLine/\Q (V.str (i++j)) H)
      (HZ (λx y H Q=>∃i j,x=V.str i/\y=V.str j/\i.length + j.length<=sizeLine/\Q (V.str (i++j)) H)
       (tC (V.str (Str.ofString "this is no number from ")))
       (NS (λxs H Q=>∃i,xs=[V.int i]/\i.natAbs.log2 < 1920/\Q (V.str (Str.ofString (toString i))) H) (bN (bv 1) bY)))
      (tC (V.str (Str.ofString " to "))))
     (NS (λxs H Q=>∃i,xs=[V.int i]/\i.natAbs.log2 < 1920/\Q (V.str (Str.ofString (toString i))) H) (bN (bv 2) bY)))
    bY) (λH=>E (Value.ref C) none H) D (L2.start [Str.ofString "thing",Str.ofString "low",Str.ofString "high"] [x,V.int lo,V.int hi]) H1:=λH1 e D=>by
   subst e;refine⟨_,rfl,lo,rfl,h1,_,_,rfl,rfl,sz _ (by rw [l1];omega),_,_,rfl,rfl,sz _ (by rw [e1,l2];omega),_,rfl,hi,rfl,h2,_,_,rfl,rfl,sz _ (by rw [e2];omega),by show 1<=sizeLine;decide,k⟩
  rcases Jo with ⟨d,dv,_,hd⟩ | z
  ·by_cases c:∃i,d=.int i
   ·obtain⟨i,rfl⟩:=c
    cases dv;have hn:=hd i rfl;refine⟨_,rfl,.inl ⟨i,rfl,true,rfl,aL ⟨_,rfl,_,rfl,_,_,rfl,rfl,_,rfl,?_⟩⟩⟩
    by_cases c1:lo<=i
    ·refine gM c1 ⟨_,rfl,_,_,rfl,rfl,_,rfl,?_⟩
     have c2:¬ i<=hi:=λz=>hn ⟨c1,z⟩;exact iz c2 (raise H rfl _)
    ·refine jH c1 ⟨_,rfl,?_⟩
     exact aB (raise H rfl _)
   ·exact⟨_,rfl,.inr ⟨x,rfl,.inl ⟨d,dv,λi e=>c ⟨i,e⟩⟩,false,rfl,aB (aB (raise H rfl _))⟩⟩
  ·exact⟨_,rfl,.inr ⟨x,rfl,.inr z,false,rfl,aB (aB (raise H rfl _))⟩⟩
def lb:Sp:=λvs H Q _=>∃(v pa ra:Addr) (ps:List Str) (rs:List (Addr×Row)),vs=[.ref v]/\bc H v pa ra ps rs/\rs.length<=100/\∀q,H q=none->Q (.ref q) (upd H q (.lst ((GA rs).map V.str)))
theorem Bg:aV ["web"] ["web"] (aH (top 17)):=⟨rfl,rfl,rfl,by decide +kernel,rfl,by decide +kernel,by decide +kernel⟩
theorem tL (F:Gy K "tie_names" "tie_names" (top 17) f fd):au P w K mg base GB 1 f fd ["web"] lb:=by
 refine F.ok Bg (λvs H Q E h=>?_) (λ_ _ _ _ H vs Q E hr h=>?_)
 ·obtain⟨v,pa,ra,ps,rs,rfl,_⟩:=h
  rfl
 ·obtain⟨v,pa,ra,ps,rs,rfl,W,hz,k⟩:=h
  refine⟨_,aq (aG (bS (N:=["row"]) (ix:=[none]) ⟨rfl,rfl,rfl,by decide⟩ rfl (bW (aA aF (pv 0) ai (λ_ _=>rfl))) (λ_ _ _ _=>bj 0 (by decide) rfl rfl) (λ_ _ _ _=>bR)
   (λ_ _ _ _=>aA (b7 K) (pv 0) ai (λ_ _=>rfl)))),?_⟩
  refine⟨_,rfl,aE (j:=1) (.inr (Gp.of W.tp)) rfl rfl ⟨ra,rfl,⟨_,Gp.of W.rl⟩,eX (xs:=aw rs) (fits (by simp;omega)) (λi ys σ H1=>ys=((rs.take i).map λr=>V.str r.2.1)/\H1=H/\∃x,σ=[x]) ⟨rfl,rfl,_,rfl⟩
    (λi ys σ H1 _ q=>⟨by rw [q.1];simp;omega,by rw [q.2.1];exact Gp.of W.rl⟩) ?_ ?_⟩⟩
  ·rintro i x ys σ H1 hx ⟨rfl,rfl,z,rfl⟩
   obtain⟨r,Gz,rfl⟩:=cG hx;have hm:=Cb Gz;exact⟨_,rfl,aE (j:=0) (.inr (Gp.of (W.rows r hm))) rfl rfl ⟨(dE _ _ _ _ Gz).symm,rfl,_,rfl⟩⟩
  ·rintro ys σ H1 ⟨rfl,rfl,z,rfl⟩ q hq
   have e:((rs.take (aw rs).length).map λr=>V.str r.2.1)=(GA rs).map V.str:=by
    rw [take_all rs (by simp),CH];rfl
   rw [e];exact k q hq
def i6 (K:zz7):Sp:=λvs H Q _=>∃(v n pa ra:Addr) (ps:List Str) (rs:List (Addr×Row)) (ss:List Str),vs=[.ref v,.ref n]/\bc H v pa ra ps rs/\rs.length<=100/\Sq K H n (ss.map V.str) /\
 ∀q,H q=none->Q (.ref q) (upd H q (.lst (aw (rs.filter λr=>decide (r.2.1∈ss)))))
theorem BE:aV ["web","names"] ["web","names"] (aH (top 18)):=⟨rfl,rfl,rfl,by decide +kernel,rfl,by decide +kernel,by decide +kernel⟩
theorem ui (F:Gy K "rows_of" "rows_of" (top 18) f fd):au P w K mg base GB 1 f fd ["web","names"] (i6 K):=by
 refine F.ok BE (λvs H Q E h=>?_) (λ_ _ _ _ H vs Q E hr h=>?_)
 ·obtain⟨v,n,pa,ra,ps,rs,ss,rfl,_⟩:=h
  rfl
 ·obtain⟨v,n,pa,ra,ps,rs,ss,rfl,W,hz,hn,k⟩:=h
  refine⟨_,aq (aG (bS (N:=["row","names"]) (ix:=[none,some 1]) ⟨rfl,rfl,rfl,by decide⟩ rfl (bW (aA aF (pv 0) ai (λ_ _=>rfl))) (λ_ _ _ _=>bj 0 (by decide) rfl rfl)
   (λ_ _ _ _=>dU (aU (yA K) (aA (b7 K) (pv 0) ai (λ_ _=>rfl)) (pv 1) (by with_unfolding_all rfl))) (λ_ _ _ _=>pv 0))),?_⟩
  refine⟨_,rfl,aE (j:=1) (.inr (Gp.of W.tp)) rfl rfl ⟨ra,rfl,⟨_,Gp.of W.rl⟩,jf (xs:=aw rs) (fits (by simp;omega)) (λi ys σ H1=>ys=aw ((rs.take i).filter λr=>decide (r.2.1∈ss))/\H1=H/\∃x,σ=[x,some (.ref n)]) ⟨rfl,rfl,_,rfl⟩
    (λi ys σ H1 _ q=>⟨by rw [q.1];simp only [aw,B8];exact CB (CF _ _) (by simp;omega),by rw [q.2.1];exact Gp.of W.rl⟩) ?_ ?_⟩⟩
  ·rintro i x ys σ H1 hx ⟨rfl,rfl,z,rfl⟩
   obtain⟨r,Gz,rfl⟩:=cG hx;have hm:=Cb Gz;refine⟨_,rfl,aE (j:=0) (.inr (Gp.of (W.rows r hm))) rfl rfl ⟨_,rfl,n,ss.map V.str,rfl,hn,rfl,gk ss,_,rfl,?_⟩⟩;show if JQ (.str r.2.1) (ss.map V.str)=true then _ else _;rw [gv];have tf:=eU (λr:Addr×Row=>decide (r.2.1∈ss)) rs i r Gz;refine bJ (λc=>⟨_,rfl,?_,rfl,_,rfl⟩) (λc=>⟨?_,rfl,_,rfl⟩)
   ·rw [tf,c];simp [aw]
   ·rw [tf];simp at c;simp [aw,c]
  ·rintro ys σ H1 ⟨rfl,rfl,z,rfl⟩ q hq
   rw [take_all rs (by simp)];exact k q hq
abbrev T:=Addr×Row
structure Tree (root:Str) (ps:List Str) (R:List Row):Prop where
 nd:(root::R.map (·.2.2)).Nodup
 all:∀x∈ps,x∈root::R.map (·.2.2)
 rk:∃d:Str->Nat,d root=0/\∀r∈R,d r.2.2=d r.2.1 + 1
abbrev bF (rs:List (Addr×Row)) (ss:List Str):List (Addr×Row):=rs.filter λr=>decide (r.2.1∈ss)
structure eL (root:Str) (ps:List Str) (rs:List (Addr×Row)) (ss:List Str):Prop where
 so:ss.Pairwise GM
 nm:∀x∈ss,x∈GA rs
 tr:Tree root ps ((bF rs ss).map (·.2))
inductive Walk (R:List Row) (a:Str):Nat->Str->Prop
 | nil:Walk R a 0 a
 | snoc {n:Nat}{r:Row}:Walk R a n r.2.1->r∈R->Walk R a (n + 1) r.2.2
def bw (R:List Row) (a:Str) (n:Nat) (x:Str):Prop:=Walk R a n x/\∀m,Walk R a m x->n<=m
section
variable {R:List Row}{a x:Str}{n m:Nat}
theorem bw.uniq (h:bw R a n x) (h':bw R a m x):n=m:=Nat.le_antisymm (h.2 m h'.1) (h'.2 n h.1)
theorem bw.zero:bw R a 0 a:=⟨.nil,λ_ _=>Cz _⟩
theorem Walk.z (h:Walk R a 0 x):x=a:=by cases h;rfl
theorem Walk.dist:∀{n:Nat}{x:Str},Walk R a n x->∃m,m<=n/\bw R a m x:=by
 intro n
 induction n using Nat.strongRecOn with
 | ind n ih =>
  intro x h
  by_cases c:∃m,m < n/\Walk R a m x
  ·obtain⟨m,h1,h2⟩:=c
   obtain⟨k,h3,h4⟩:=ih m h1 h2;exact⟨k,by omega,h4⟩
  ·refine⟨n,Cc _,h,λm hm=>?_⟩
   rcases Ei m n with q | q
   ·exact absurd ⟨m,q,hm⟩ c
   ·exact q
theorem bw.pred (h:bw R a (n + 1) x):∃r∈R,r.2.2=x/\bw R a n r.2.1:=by
 obtain⟨hw,hm⟩:=h;generalize hn:n + 1=k at hw hm;cases hw with
 | nil=>omega
 | @snoc n' r Sh hr =>
  have e:n'=n:=by omega
  subst e;refine⟨r,hr,rfl,Sh,λm h=>?_⟩;have:=hm (m + 1) (.snoc h hr);omega
theorem bw.step {r:Row} (h:bw R a n r.2.1) (hr:r∈R) (hn:∀m,m<=n->¬ bw R a m r.2.2):bw R a (n + 1) r.2.2:=by
 refine⟨.snoc h.1 hr,λm hm=>?_⟩;obtain⟨k,h1,h2⟩:=hm.dist
 rcases Ei n k with q | q
 ·omega
 ·exact absurd h2 (hn k q)
end
def bH (a x:Str) (tk:List T) (r:T):List T:=if r.2.2.1=x/\r.2.2.2∉a::tk.map (·.2.2.2) then tk++[r] else tk
def GS (rs:List T) (a:Str):Nat->List T
 | 0=>[]
 | k + 1=>match (a::(GS rs a k).map (·.2.2.2))[k]? with
  | some x=>rs.foldl (bH a x) (GS rs a k)
  | none=>GS rs a k
structure HK (rs:List T) (a:Str) (fd:List (Str×Nat)) (tk:List T) (q:Nat):Prop where
 fst:fd.map (·.1)=a::tk.map (·.2.2.2)
 dist:∀p∈fd,bw (rs.map (·.2)) a p.2 p.1
 nd:(fd.map (·.1)).Nodup
 so:fd.Pairwise (λp p'=>p.2<=p'.2)
 sub:∀t∈tk,t∈rs
 par:∀t∈tk,t.2.2.1∈fd.map (·.1)/\∃n,bw (rs.map (·.2)) a n t.2.2.1/\bw (rs.map (·.2)) a (n + 1) t.2.2.2
 done:∀i p,i < q->fd[i]?=some p->∀r∈rs,r.2.2.1=p.1->r.2.2.2∈fd.map (·.1)
 near:∀p,fd[q]?=some p->(∀p'∈fd,p'.2<=p.2 + 1)/\∀z m,bw (rs.map (·.2)) a m z->m<=p.2->z∈fd.map (·.1)
 ql:q<=fd.length
theorem HK.start (rs:List T) (a:Str):HK rs a [(a,0)] [] 0 where
 fst:=rfl
 dist:=λp hp=>by have e:p=(a,0):=(by simpa using hp);subst e;exact bw.zero
 nd:=by simp
 so:=by simp
 sub:=by simp
 par:=by simp
 done:=λi p hi=>absurd hi (Gh _)
 near:=λp hp=>by
  have e:p=(a,0):=by simpa using hp.symm
  subst e;refine⟨by simp,λz m h hm=>?_⟩;have e:m=0:=Nat.le_zero.mp hm;subst e;simpa using h.1.z
 ql:=Cz _
theorem uk {α:Type}{l:List α}{x:α} (h:l.Nodup) (hx:x∉l):(l++[x]).Nodup:=by
 rw [E5];refine⟨h,by simp,λa ha b hb=>?_⟩;have e:b=x:=by simpa using hb
 subst e;exact λz=>hx (z ▸ ha)
section
variable {rs:List T}{a:Str}{fd:List (Str×Nat)}{tk:List T}{q:Nat}
theorem HK.row (B:HK rs a fd tk q) {x:Str}{n:Nat} (hq:fd[q]?=some (x,n)) {r:T} (hr:r∈rs) :
  ∃more,fd <+: fd++more/\HK rs a (fd++more) (bH a x tk r) q/\(r.2.2.1=x->r.2.2.2∈(fd++more).map (·.1)):=by
 have MY:q < fd.length:=(Ca.mp hq).1;have VC:(x,n)∈fd:=Cb hq
 by_cases c:r.2.2.1=x/\r.2.2.2∉a::tk.map (·.2.2.2)
 ·have hy:r.2.2.2∉fd.map (·.1):=by rw [B.fst];exact c.2
  obtain⟨n1,n2⟩:=B.near _ hq;have hd:bw (rs.map (·.2)) a n r.2.2.1:=by rw [c.1];exact B.dist _ VC
  have Ie:bw (rs.map (·.2)) a (n + 1) r.2.2.2:=hd.step (Co hr) λm hm h=>hy (n2 _ m h hm);have e:bH a x tk r=tk++[r]:=by unfold bH;rw [if_pos c]
  rw [e];refine⟨[(r.2.2.2,n + 1)],List.prefix_append _ _,⟨?_,?_,?_,?_,?_,?_,?_,?_,?_⟩,λ_=>by simp⟩
  ·simp [B.fst]
  ·intro p hp
   rcases Ck.mp hp with z | z
   ·exact B.dist p z
   ·have e:p=(r.2.2.2,n + 1):=by simpa using z
    subst e;exact Ie
  ·rw [CA];exact uk B.nd hy
  ·rw [EB]
   refine⟨B.so,by simp,λp hp p' Ib=>?_⟩;have e:p'=(r.2.2.2,n + 1):=by simpa using Ib
   subst e;exact n1 p hp
  ·intro t ht
   rcases Ck.mp ht with z | z
   ·exact B.sub t z
   ·have e:t=r:=by simpa using z
    subst e;exact hr
  ·intro t ht
   rcases Ck.mp ht with z | z
   ·obtain⟨y1,y2⟩:=B.par t z
    exact⟨by rw [CA];exact CM _ y1,y2⟩
   ·have e:t=r:=by simpa using z
    subst e;exact⟨by rw [CA];exact CM _ (by rw [c.1];exact Co (f:=(·.1)) VC),n,hd,Ie⟩
  ·intro i p hi hp r' Gz e
   rw [CV (by omega)] at hp;rw [CA];exact CM _ (B.done i p hi hp r' Gz e)
  ·intro p hp
   rw [CV MY,hq] at hp;cases hp;refine⟨λp' Ib=>?_,λz m h hm=>by rw [CA];exact CM _ (n2 z m h hm)⟩
   rcases Ck.mp Ib with z | z
   ·exact n1 p' z
   ·have e:p'=(r.2.2.2,n + 1):=by simpa using z
    subst e;exact Cc _
  ·have:=B.ql;simp;omega
 ·have e:bH a x tk r=tk:=by unfold bH;rw [if_neg c]
  rw [e];refine⟨[],by simp,by simpa using B,λh=>?_⟩;rw [Eo,B.fst];exact Decidable.byContradiction λz=>c ⟨h,z⟩
theorem HK.rows {x:Str}{n:Nat}:∀(HS:List T) (fd:List (Str×Nat)) (tk:List T),(∀r∈HS,r∈rs)->HK rs a fd tk q->fd[q]?=some (x,n) ->
  ∃more,HK rs a (fd++more) (HS.foldl (bH a x) tk) q/\∀r∈HS,r.2.2.1=x->r.2.2.2∈(fd++more).map (·.1)
 | [],fd,tk,_,B,_=>⟨[],by simpa using B,by simp⟩
 | r::HS,fd,tk,hs,B,hq=>by
  obtain⟨m1,_,B1,h1⟩:=B.row hq (hs r Cf);have MY:q < fd.length:=(Ca.mp hq).1;obtain⟨m2,B2,h2⟩:=HK.rows HS (fd++m1) _ (λr' Gz=>hs r' (Cj _ Gz)) B1 (by rw [CV MY];exact hq);refine⟨m1++m2,by rw [<- E2];exact B2,λr' Gz e=>?_⟩;rw [<- E2]
  rcases Ci.mp Gz with z | z
  ·subst z
   rw [CA];exact CM _ (h1 e)
  ·exact h2 r' z e
theorem HK.next (B:HK rs a fd tk q) {x:Str}{n:Nat} (hq:fd[q]?=some (x,n)):∃Tw,HK rs a Tw (rs.foldl (bH a x) tk) (q + 1):=by
 obtain⟨more,B',h⟩:=HK.rows rs fd tk (λ_ z=>z) B hq;have MY:q < fd.length:=(Ca.mp hq).1;have Iy:(fd++more)[q]?=some (x,n):=by rw [CV MY];exact hq
 refine⟨fd++more,B'.fst,B'.dist,B'.nd,B'.so,B'.sub,B'.par,λi p hi hp r hr e=>?_,λp hp=>?_,by simp;omega⟩
 ·rcases Ei i q with z | z
  ·exact B'.done i p z hp r hr e
  ·have ei:i=q:=by omega
   subst ei;rw [Iy] at hp;cases hp;exact h r hr e
 ·obtain⟨n1,n2⟩:=B'.near _ Iy
  have Hf:=Cb hp;obtain⟨l1,g1⟩:=Ca.mp Iy;obtain⟨l2,g2⟩:=Ca.mp hp;have HW:n<=p.2:=by
   have:=CL.mp B'.so q (q + 1) l1 l2 (by omega);rw [g1,g2] at this;exact this
  have SR:=n1 p Hf
  dsimp only at SR n1
  refine⟨λp' Ib=>by have:=n1 p' Ib;omega,λz m hz hm=>?_⟩
  rcases Ei n m with y | y
  ·have em:m=n + 1:=by omega
   subst em;obtain⟨r,hr,rfl,hd⟩:=hz.pred;obtain⟨t,ht,rfl⟩:=Cg.mp hr;have hf:=n2 _ n hd (Cc _);obtain⟨p0,LF,e0⟩:=Cg.mp hf;have en:p0.2=n:=(B'.dist p0 LF).uniq (by rw [e0];exact hd);obtain⟨i,hi⟩:=De LF;obtain⟨l3,g3⟩:=Ca.mp hi;have hiq:i < q + 1:=by
    rcases Ei i (q + 1) with w | w
    ·exact w
    ·exfalso
     rcases Ei (q + 1) i with v | v
     ·have:=CL.mp B'.so (q + 1) i l2 l3 v
      rw [g2,g3] at this;omega
     ·have ei:i=q + 1:=by omega
      subst ei;rw [hp] at hi;cases hi;omega
   rcases Ei i q with w | w
   ·exact B'.done i p0 w hi t ht e0.symm
   ·have ei:i=q:=by omega
    subst ei;rw [Iy] at hi;cases hi;exact h t ht e0.symm
  ·exact n2 z m hz y
end
theorem gm {α:Type}:∀{l m:List α},l.Nodup->(∀x∈l,x∈m)->l.length<=m.length
 | [],_,_,_=>Cz _
 | x::l,m,h,hs=>by
  obtain⟨h1,h2⟩:=CG.mp h;obtain⟨u,v,rfl⟩:=List.append_of_mem (hs x Cf);have:=gm (m:=u++v) h2 λy hy=>by
   have q:=hs y (Cj _ hy)
   rcases Ck.mp q with z | z
   ·exact CM _ z
   ·rcases Ci.mp z with e | z
    ·subst e;exact absurd hy h1
    ·exact Cv _ z
  simp at this ⊢;omega
abbrev G2 (a:Str) (tk:List T):List Str:=a::tk.map (·.2.2.2)
structure iK (rs:List T) (a:Str) (tk:List T):Prop where
 mem:∀z∈G2 a tk,∃n,bw (rs.map (·.2)) a n z
 nd:(G2 a tk).Nodup
 sub:∀t∈tk,t∈rs
 par:∀t∈tk,t.2.2.1∈G2 a tk/\∃n,bw (rs.map (·.2)) a n t.2.2.1/\bw (rs.map (·.2)) a (n + 1) t.2.2.2
 cl:∀n z,Walk (rs.map (·.2)) a n z->z∈G2 a tk
theorem HK.full {rs:List T}{a:Str}{fd:List (Str×Nat)}{tk:List T}{q:Nat} (B:HK rs a fd tk q) (hq:fd.length<=q):iK rs a tk:=by
 have hf:G2 a tk=fd.map (·.1):=B.fst.symm;refine⟨λz hz=>?_,by rw [hf];exact B.nd,B.sub,λt ht=>by rw [hf];exact B.par t ht,λn z h=>?_⟩
 ·rw [hf] at hz
  obtain⟨p,hp,rfl⟩:=Cg.mp hz;exact⟨_,B.dist p hp⟩
 ·rw [hf]
  induction h with
  | nil=>rw [<- hf];exact Cf
  | @snoc n r h hr ih =>
   obtain⟨p,hp,e⟩:=Cg.mp ih;obtain⟨i,hi⟩:=De hp;obtain⟨t,ht,rfl⟩:=Cg.mp hr;exact B.done i p (CC (Ca.mp hi).1 hq) hi t ht e.symm
theorem jt {R:List Row}{a:Str}{ps:List Str} (ha:a∈ps) (h:∀r∈R,r.2.2∈ps):∀{n:Nat}{z:Str},Walk R a n z->z∈ps:=by
 intro n z hw;cases hw with
 | nil=>exact ha
 | snoc _ hr=>exact h _ hr
theorem HK.bound {rs:List T}{a:Str}{fd:List (Str×Nat)}{tk:List T}{q:Nat} (B:HK rs a fd tk q) {ps:List Str} (ha:a∈ps) (h:∀r∈rs,r.2.2.2∈ps):fd.length<=ps.length:=by
 have:=gm B.nd (m:=ps) λz hz=>by
  obtain⟨p,hp,rfl⟩:=Cg.mp hz;exact jt ha (λr hr=>by obtain⟨t,ht,rfl⟩:=Cg.mp hr;exact h t ht) (B.dist p hp).1
 simpa using this
theorem mB {rs:List T}{a:Str}{k:Nat} (h:(GS rs a k).length + 1<=k):∀j,GS rs a (k + j)=GS rs a k
 | 0=>rfl
 | j + 1=>by
  have ih:=mB h j;show (match (a::(GS rs a (k + j)).map (·.2.2.2))[k + j]? with | some x=>rs.foldl (bH a x) (GS rs a (k + j)) | none=>GS rs a (k + j))=_;rw [ih];have e:(a::(GS rs a k).map (·.2.2.2))[k + j]?=none:=by
   rw [List.getElem?_eq_none_iff];simp;omega
  rw [e]
theorem nY:∃f:List T->Str->List T,∀rs a,f rs a=GS rs a 200:=⟨_,λ_ _=>rfl⟩
def first (rs:List T) (a:Str):List T:=Classical.choose nY rs a
theorem xc (rs:List T) (a:Str):first rs a=GS rs a 200:=Classical.choose_spec nY rs a
theorem wA {rs:List T}{a:Str}{k:Nat} (h:(GS rs a k).length + 1<=k) (hk:k<=200):GS rs a k=first rs a:=by
 have:=mB h (200 - k);rw [show k + (200 - k)=200 by omega] at this;rw [xc];exact this.symm
def Bc (tk:List T) (a:Str):Nat->Str->List T
 | 0,_=>[]
 | f + 1,x=>if x=a then [] else match tk.find? (λt=>decide (t.2.2.2=x)) with
  | some t=>Bc tk a f t.2.2.1++[t]
  | none=>[]
def lst (a:Str) (w:List T):Str:=(a::w.map (·.2.2.2)).getLast (by simp)
structure BZ (rs:List T) (a:Str) (w:List T) (x:Str):Prop where
 at':∀i t,w[i]?=some t->t∈rs/\t.2.2.1=lst a (w.take i)/\bw (rs.map (·.2)) a (i + 1) t.2.2.2
 last:lst a w=x
theorem yz {R:List Row}{a:Str}{ps:List Str} (ha:a∈ps) (h:∀r∈R,r.2.2∈ps):∀{n:Nat}{z:Str},bw R a n z->n < ps.length:=by
 have key:∀(n:Nat) (z:Str),bw R a n z->∃l:List Str,l.length=n + 1/\l.Nodup/\(∀y∈l,y∈ps)/\∀y∈l,∃m,m<=n/\bw R a m y:=by
  intro n
  induction n with
  | zero=>intro z hz;exact⟨[z],rfl,by simp,by simpa using jt ha h hz.1,by simpa using hz⟩
  | succ n ih =>
   intro z hz;obtain⟨r,hr,rfl,hd⟩:=hz.pred;obtain⟨l,h1,h2,h3,h4⟩:=ih _ hd;refine⟨r.2.2::l,by simp [h1],CG.mpr ⟨λhm=>?_,h2⟩,λy hy=>?_,λy hy=>?_⟩
   ·obtain⟨m,h5,h6⟩:=h4 _ hm
    exact absurd (h6.uniq hz) (by omega)
   ·rcases Ci.mp hy with e | hy
    ·subst e;exact h _ hr
    ·exact h3 y hy
   ·rcases Ci.mp hy with e | hy
    ·subst e;exact⟨_,Cc _,hz⟩
    ·obtain⟨m,h5,h6⟩:=h4 y hy
     exact⟨m,by omega,h6⟩
 intro n z hz;obtain⟨l,h1,h2,h3,_⟩:=key n z hz;have:=gm h2 h3;omega
theorem v5 (a x:Str) (r:T) (tk:List T):∃more,bH a x tk r=tk++more/\more.length<=1:=by
 unfold bH;split
 ·exact⟨[r],rfl,by simp⟩
 ·exact⟨[],by simp,by simp⟩
theorem mU (a x:Str):∀(rs tk:List T),∃more,rs.foldl (bH a x) tk=tk++more/\more.length<=rs.length
 | [],tk=>⟨[],by simp,by simp⟩
 | r::rs,tk=>by
  obtain⟨m1,e1,h1⟩:=v5 a x r tk;obtain⟨m2,e2,h2⟩:=mU a x rs (bH a x tk r);refine⟨m1++m2,?_,by simp;omega⟩;rw [List.foldl_cons,e2,e1,E2]
theorem vK {a x:Str}{rs tk:List T}{i:Nat}{r:T} (h:rs[i]?=some r):(rs.take (i + 1)).foldl (bH a x) tk=bH a x ((rs.take i).foldl (bH a x) tk) r:=by
 rw [Dd,h,FV];rfl
structure fV (H:Hp) (rs:List T):Prop where
 e:∀r∈rs,bM H r.1 r.2
theorem fV.same {H H':Hp}{rs:List T} (h:fV H rs) (s:ag H H'):fV H' rs:=⟨λr hr=>s _ _ (h.e r hr)⟩
def pL:Sp:=λvs H Q _=>∃(ra:Addr) (a:Str) (rs:List T) (ps:List Str),vs=[.ref ra,.str a]/\H ra=some (.lst (aw rs))/\fV H rs/\a∈ps/\(∀r∈rs,r.2.2.2∈ps)/\ps.length<=100/\rs.length<=60 /\
 ∀(q:Addr) (H':Hp),ag H H'->H q=none->H' q=some (.lst (aw (first rs a)))->iK rs a (first rs a)->Q (.ref q) H'
abbrev N24:List Str:=["rows","start","found","taken","done","row"]
theorem gJ:aV N24 ["rows","start"] (aH (top 24)):=⟨rfl,rfl,rfl,by decide +kernel,rfl,by decide +kernel,by decide +kernel⟩
theorem tG (F:Gy K "first_rows" "first_rows" (top 24) f fd) (B:Bl mg):au P w K mg base GB 1 f fd ["rows","start"] pL:=by
 refine F.ok gJ (λvs H Q E h=>?_) (λ_ _ _ _ H vs Q E hr h=>?_)
 ·obtain⟨ra,a,rs,ps,rfl,_⟩:=h
  rfl
 ·obtain⟨ra,a,rs,ps,rfl,HV,IT,KY,Jt,hz,Sz,k⟩:=h
  refine⟨_,aj (aJ (i:=2) gJ.nd rfl (Or.inl rfl) (bD (aa (pv 1) ae)))
   (aj (aJ (i:=3) gJ.nd rfl (Or.inl rfl) (bD ae))
   (aj (aJ (i:=4) gJ.nd rfl (Or.inl rfl) ai)
   (aj (kz C6 (aU jF (pv 4) (aD bu rfl B.len Ct (aa (pv 2) ae)) (aM _))
    (aj (cY C6 rfl (dr (pv 0)) (bt (i:=5) gJ.nd rfl (Or.inl rfl))
     (aq (aQ (PW.pt (qu (aU dM (aA aF (pv 5) ai (λ_ _=>rfl)) (aA aF (pv 2) (pv 4) (λ_ _=>rfl)) (aM _))
       (oO (aU mm (aA aF (pv 5) ai (λ_ _=>rfl)) (pv 2) (by with_unfolding_all rfl)))))
      (aj (bp (c8 CQ C7 C8 dR (pv 2) (aa (aA aF (pv 5) ai (λ_ _=>rfl)) ae)))
      (aq (bp (c8 CQ C7 C8 dR (pv 3) (aa (pv 5) ae))))) aS)))
    (aq (lB (i:=4) gJ.nd rfl (Or.inl rfl) ai la))))
   (aq (aG (pv 3)))))),?_⟩
  refine⟨_,rfl,by show 1<=sizeLine;decide,λfo Im=>?_⟩;have s1:=ao (o:=.lst [.str a]) (ag.refl H) Im;have f1:upd H fo (.lst [.str a]) fo=some (.lst ((G2 a []).map V.str)):=ak;generalize upd H fo (.lst [.str a])=H1 at s1 f1 ⊢;refine⟨Cz _,λtk IJ=>?_⟩;have OB:=s1.free IJ;have RL:fo≠tk:=bh f1 IJ;have s2:=ao (o:=.lst []) s1 IJ;have f2:upd H1 tk (.lst []) fo=some (.lst ((G2 a []).map V.str)):=by rw [av RL];exact f1
  have t2:upd H1 tk (.lst []) tk=some (.lst (aw [])):=ak;generalize upd H1 tk (.lst [])=H2 at s2 f2 t2 ⊢
  refine⟨λm σ H3=>∃(q:Nat) (fd:List (Str×Nat)) (g:Option V),σ=[some (.ref ra),some (.str a),some (.ref fo),some (.ref tk),some (.int q),g]/\m=200 - q/\HK rs a fd (GS rs a q) q/\ag H H3/\H3 fo=some (.lst ((G2 a (GS rs a q)).map V.str))/\H3 tk=some (.lst (aw (GS rs a q))),
   ⟨_,0,_,none,rfl,rfl,HK.start rs a,s2,f2,t2⟩,?_⟩
  rintro m σ H3 ⟨q,fd,g,rfl,rfl,Bq,s3,f3,t3⟩;have Hh:(G2 a (GS rs a q)).length=fd.length:=by
   have:=congrArg List.length Bq.fst;rw [B8] at this;exact this.symm
  have hfb:=Bq.bound KY Jt;have MY:=Bq.ql;refine⟨_,rfl,_,rfl,fo,_,rfl,.inl (Gq.of f3),_,_,rfl,rfl,_,rfl,bJ (λc=>?_) (λc=>?_)⟩
  ·have GO:q < fd.length:=by
    have:=of_decide_eq_true c;rw [B8,Hh] at this;omega
   have Vq:fd[q]?=some (fd[q].1,fd[q].2):=B7 GO;obtain⟨Tw,B'⟩:=Bq.next Vq;have hx:(G2 a (GS rs a q))[q]?=some fd[q].1:=by
    show (a::(GS rs a q).map (·.2.2.2))[q]?=_;rw [<- Bq.fst,Cd,Vq];rfl
   have eb:GS rs a (q + 1)=rs.foldl (bH a fd[q].1) (GS rs a q):=by
    show (match (a::(GS rs a q).map (·.2.2.2))[q]? with | some x=>rs.foldl (bH a x) (GS rs a q) | none=>GS rs a q)=_;rw [show (a::(GS rs a q).map (·.2.2.2))[q]?=some fd[q].1 from hx]
   rw [<- eb] at B';generalize fd[q].1=x at hx eb;refine⟨λσ' H'=>∃m',m' < 200 - q/\∃(q:Nat) (fd:List (Str×Nat)) (g:Option V),σ'=[some (.ref ra),some (.str a),some (.ref fo),some (.ref tk),some (.int q),g]/\m'=200 - q/\HK rs a fd (GS rs a q) q/\ag H H'/\H' fo=some (.lst ((G2 a (GS rs a q)).map V.str))/\H' tk=some (.lst (aw (GS rs a q))),λσ' H' q=>q,?_⟩
   refine⟨_,rfl,ra,rfl,⟨_,Gq.of (s3 _ _ HV)⟩,i9 (K:=K) (a:=ra) (xs:=aw rs) (λi σ H4=>∃g,σ=[some (.ref ra),some (.str a),some (.ref fo),some (.ref tk),some (.int q),g]/\ag H H4/\H4 fo=some (.lst ((G2 a ((rs.take i).foldl (bH a x) (GS rs a q))).map V.str))/\H4 tk=some (.lst (aw ((rs.take i).foldl (bH a x) (GS rs a q)))))
    ⟨_,rfl,s3,f3,t3⟩ (λi σ H4 _ p=>by obtain⟨_,_,s4,_⟩:=p;exact Gq.of (s4 _ _ HV)) ?_ ?_⟩
   ·rintro i y σ H4 hy ⟨g,rfl,s4,f4,t4⟩
    obtain⟨r,Jr,rfl⟩:=cG hy;have IA:i < rs.length:=(Ca.mp Jr).1;have SB:=s4 _ _ (IT.e r (Cb Jr));obtain⟨more,em,VE⟩:=mU a x (rs.take i) (GS rs a q);have Gs:((rs.take i).foldl (bH a x) (GS rs a q)).length<=160:=by
     rw [em,Di];have h1:(GS rs a q).length + 1=fd.length:=by simpa using Hh
     have h2:(rs.take i).length<=60:=by rw [Dc];omega
     omega
    have Qf:(G2 a ((rs.take i).foldl (bH a x) (GS rs a q)))[q]?=some x:=by
     rw [em];show (a::(GS rs a q++more).map (·.2.2.2))[q]?=_
     rw [CA,<- Ga,CV (by
      have:=Hh;simp at this ⊢;omega)]
     exact hx
    have tf:=vK (a:=a) (x:=x) (tk:=GS rs a q) Jr;rw [tf];generalize (rs.take i).foldl (bH a x) (GS rs a q)=tl at f4 t4 Gs Qf ⊢;have Oy:((G2 a tl).map V.str)[q]?=some (.str x):=by rw [Cd,Qf];rfl
    refine⟨_,rfl,aE (j:=1) (.inr (Gp.of SB)) rfl rfl ⟨_,rfl,_,rfl,aE (j:=q) (.inl (Gq.of f4)) rfl Oy ⟨rfl,_,rfl,?_⟩⟩⟩
    by_cases c1:r.2.2.1=x
    ·rw [decide_eq_true (show V.str r.2.2.1=V.str x by rw [c1])]
     refine aB ⟨_,rfl,aE (j:=2) (.inr (Gp.of SB)) rfl rfl ⟨_,rfl,fo,_,rfl,.inl (Gq.of f4),rfl,gk _,_,rfl,?_⟩⟩;rw [gv]
     by_cases c2:r.2.2.2∈G2 a tl
     ·have es:bH a x tl r=tl:=by unfold bH;rw [if_neg (λz=>z.2 c2)]
      rw [es];show if (!decide (r.2.2.2∈G2 a tl))=true then _ else _;exact d9 c2 ⟨_,rfl,s4,f4,t4⟩
     ·have es:bH a x tl r=tl++[r]:=by unfold bH;rw [if_pos ⟨c1,c2⟩]
      rw [es];show if (!decide (r.2.2.2∈G2 a tl))=true then _ else _;refine rQ c2 ?_;refine⟨_,rfl,.inl ⟨rfl,_,Gq.of f4⟩,_,rfl,aE (j:=2) (.inr (Gp.of SB)) rfl rfl ⟨fo,_,_,rfl,rfl,f4,fits (by simp;omega),?_⟩⟩;have s5:=ag.upd0 s4 (o:=.lst ((G2 a tl).map V.str++[.str r.2.2.2])) (q:=fo) Im;have f5:upd H4 fo (.lst ((G2 a tl).map V.str++[.str r.2.2.2])) fo=some (.lst ((G2 a (tl++[r])).map V.str)):=by rw [ak];simp
      have t5:upd H4 fo (.lst ((G2 a tl).map V.str++[.str r.2.2.2])) tk=some (.lst (aw tl)):=by rw [av RL.symm];exact t4
      generalize upd H4 fo (.lst ((G2 a tl).map V.str++[.str r.2.2.2]))=H5 at s5 f5 t5 ⊢;refine⟨_,rfl,.inl ⟨rfl,_,Gq.of t5⟩,_,rfl,tk,_,_,rfl,rfl,t5,fits (by simp;omega),_,rfl,ag.upd0 s5 OB,by rw [av RL];exact f5,by rw [ak];simp [aw]⟩
    ·have es:bH a x tl r=tl:=by unfold bH;rw [if_neg (λz=>c1 z.1)]
     rw [es,decide_eq_false (λz=>c1 (V.str.inj z))];exact aL (aL ⟨_,rfl,s4,f4,t4⟩)
   ·rintro σ H4 ⟨g,rfl,s4,f4,t4⟩
    have et:rs.take (aw rs).length=rs:=take_all rs (by simp);rw [et,<- eb] at f4 t4;exact⟨_,rfl,_,_,rfl,rfl,_,by omega,q + 1,Tw,_,rfl,rfl,B',s4,f4,t4⟩
  ·have Zy:fd.length<=q:=by
    have:=of_decide_eq_false (Bool.eq_false_iff.mpr c);rw [B8,Hh] at this;omega
   have e1:GS rs a q=first rs a:=wA (by have:=Hh;simp at this;omega) (by omega);have Fu:=Bq.full Zy;rw [e1] at t3 Fu;exact⟨_,rfl,k tk H3 s3 OB t3 Fu⟩
def qV:Sp:=λvs H Q _=>∃(ra:Addr) (a:Str) (rs:List T) (ps:List Str),vs=[.ref ra,.str a]/\H ra=some (.lst (aw rs))/\fV H rs/\a∈ps/\(∀r∈rs,r.2.2.2∈ps)/\ps.length<=100/\rs.length<=60 /\
 ∀(q:Addr) (H':Hp),ag H H'->H q=none->H' q=some (.lst ((G2 a (first rs a)).map V.str))->iK rs a (first rs a)->Q (.ref q) H'
theorem kB {rs tk:List T}{a:Str}{ps:List Str} (F:iK rs a tk) (ha:a∈ps) (h:∀r∈rs,r.2.2.2∈ps):tk.length + 1<=ps.length:=by
 have:=gm F.nd (m:=ps) λz hz=>by
  obtain⟨n,hd⟩:=F.mem z hz;exact jt ha (λr hr=>by obtain⟨t,ht,rfl⟩:=Cg.mp hr;exact h t ht) hd.1
 simpa using this
theorem Bk:aV ["rows","start"] ["rows","start"] (aH (top 25)):=⟨rfl,rfl,rfl,by decide +kernel,rfl,by decide +kernel,by decide +kernel⟩
theorem uE (F:Gy K "come_to" "come_to" (top 25) f fd) (F1:Fn P w K mg base 1 "first_rows" ["rows","start"] pL):au P w K mg base GB 2 f fd ["rows","start"] qV:=by
 refine F.ok Bk (λvs H Q E h=>?_) (λ_ _ _ _ H vs Q E hr h=>?_)
 ·obtain⟨ra,a,rs,ps,rfl,_⟩:=h
  rfl
 ·obtain⟨ra,a,rs,ps,rfl,HV,IT,KY,Jt,hz,Sz,k⟩:=h
  refine⟨_,aq (aG (aK dH (bD (aa (pv 1) ae)) (bS (N:=["row"]) (ix:=[none]) ⟨rfl,rfl,rfl,by decide⟩ rfl (dr (ar F1 hr (aa (pv 0) (aa (pv 1) ae)))) (λ_ _ _ _=>bj 0 (by decide) rfl rfl) (λ_ _ _ _=>bR)
   (λ_ _ _ _=>aA (b7 K) (pv 0) ai (λ_ _=>rfl))))),?_⟩
  refine⟨_,rfl,by show 1<=sizeLine;decide,λl hl=>?_⟩;have s1:=ao (o:=.lst [.str a]) (ag.refl H) hl;have l1:upd H l (.lst [.str a]) l=some (.lst [.str a]):=ak;generalize upd H l (.lst [.str a])=H1 at s1 l1 ⊢;refine⟨_,rfl,_,rfl,ra,a,rs,ps,rfl,s1 _ _ HV,IT.same s1,KY,Jt,hz,Sz,λq H2 s2 He q2 Fu=>?_⟩;have Gs:=kB Fu KY Jt;have r2:fV H2 (first rs a):=⟨λr hr=>s2 _ _ (s1 _ _ (IT.e r (Fu.sub r hr)))⟩
  refine⟨q,rfl,⟨_,Gq.of q2⟩,iX (xs:=aw (first rs a)) (fits (by simp;omega)) (λi ys σ H3=>ys=((first rs a).take i).map (λt=>V.str t.2.2.2)/\ag H2 H3/\∃v,σ=[v]) ⟨rfl,ag.refl _,_,rfl⟩
   (λi ys σ H3 _ p=>⟨by rw [p.1];simp;omega,Gq.of (p.2.1 _ _ q2)⟩) ?_ ?_⟩
  ·rintro i x ys σ H3 hx ⟨rfl,s3,v,rfl⟩
   obtain⟨r,Jr,rfl⟩:=cG hx;exact⟨_,rfl,aE (j:=2) (.inr (Gp.of (s3 _ _ (r2.e r (Cb Jr))))) rfl rfl ⟨(dE _ _ _ _ Jr).symm,s3,_,rfl⟩⟩
  ·rintro ys σ H3 ⟨rfl,s3,v,rfl⟩ c hc
   rw [take_all (first rs a) (by simp)];have s4:=ao (o:=.lst ((first rs a).map λt=>V.str t.2.2.2)) s3 hc;have c4:upd H3 c (.lst ((first rs a).map λt=>V.str t.2.2.2)) c=some (.lst ((first rs a).map λt=>V.str t.2.2.2)):=ak;generalize upd H3 c (.lst ((first rs a).map λt=>V.str t.2.2.2))=H4 at s4 c4 ⊢;have Jl:=s1.trans (s2.trans s4);refine⟨l,c,_,_,rfl,rfl,s4 _ _ (s2 _ _ l1),c4,CO (fits (by simp;omega)),λp hp=>k p _ (ao Jl hp) (Jl.free hp) (by rw [ak];simp [CH]) Fu⟩
structure cm (root:Str) (ps:List Str) (tk:List T):Prop where
 tr:Tree root ps (tk.map (·.2))
 st:∀t∈tk,t.2.2.1∈ps/\t.2.2.2∈ps
 rt:root∈ps
section
variable {root:Str}{ps:List Str}{tk:List T}
theorem cm.goals (W:cm root ps tk):(tk.map (·.2.2.2)).Nodup:=by
 have:=W.tr.nd;rw [CH] at this;exact (CG.mp this).2
theorem cm.nroot (W:cm root ps tk) {t:T} (h:t∈tk):t.2.2.2≠root:=by
 have:=W.tr.nd;rw [CH] at this;exact λe=>(CG.mp this).1 (e ▸ Co (f:=λt:T=>t.2.2.2) h)
theorem cm.inn (W:cm root ps tk) {x:Str} (h:x∈ps):x∈G2 root tk:=by
 have:=W.tr.all x h;rw [CH] at this;exact this
theorem cm.out (W:cm root ps tk) {x:Str} (h:x∈G2 root tk):x∈ps:=by
 rcases Ci.mp h with e | h
 ·rw [e];exact W.rt
 ·obtain⟨t,ht,rfl⟩:=Cg.mp h
  exact (W.st t ht).2
theorem uY {d:Str->Nat} (hd:∀r∈tk.map (·.2),d r.2.2=d r.2.1 + 1) {a x:Str}{n:Nat} (h:Walk (tk.map (·.2)) a n x):d x=d a + n:=by
 induction h with
 | nil=>rfl
 | @snoc n r h hr ih=>rw [hd r hr,ih];omega
theorem cm.walk (W:cm root ps tk) {d:Str->Nat} (h0:d root=0) (hd:∀r∈tk.map (·.2),d r.2.2=d r.2.1 + 1):∀(k:Nat) (x:Str),d x<=k->x∈ps->Walk (tk.map (·.2)) root (d x) x:=by
 intro k
 induction k with
 | zero =>
  intro x hx hp
  rcases Ci.mp (W.inn hp) with e | h
  ·subst e;rw [h0];exact .nil
  ·obtain⟨t,ht,rfl⟩:=Cg.mp h
   have:=hd t.2 (Co ht);omega
 | succ k ih =>
  intro x hx hp
  rcases Ci.mp (W.inn hp) with e | h
  ·subst e;rw [h0];exact .nil
  ·obtain⟨t,ht,rfl⟩:=Cg.mp h
   have e:=hd t.2 (Co ht);have:=ih t.2.2.1 (by omega) (W.st t ht).1;rw [e];exact .snoc this (Co ht)
theorem cm.dist (W:cm root ps tk):∃d:Str->Nat,d root=0/\(∀r∈tk.map (·.2),d r.2.2=d r.2.1 + 1)/\∀x∈ps,bw (tk.map (·.2)) root (d x) x/\d x < ps.length:=by
 obtain⟨d,h0,hd⟩:=W.tr.rk;have D:∀x∈ps,bw (tk.map (·.2)) root (d x) x:=λx hx=>⟨W.walk h0 hd _ x (Cc _) hx,λm hm=>by have:=uY hd hm;omega⟩
 exact⟨d,h0,hd,λx hx=>⟨D x hx,yz W.rt (λr hr=>by obtain⟨t,ht,rfl⟩:=Cg.mp hr;exact (W.st t ht).2) (D x hx)⟩⟩
theorem cm.full (W:cm root ps tk):iK tk root tk:=by
 obtain⟨d,h0,hd,D⟩:=W.dist;refine⟨λz hz=>⟨_,(D z (W.out hz)).1⟩,?_,λt h=>h,λt ht=>⟨W.inn (W.st t ht).1,d t.2.2.1,(D _ (W.st t ht).1).1,?_⟩,λn z h=>W.inn (jt W.rt (λr hr=>by obtain⟨t,ht,rfl⟩:=Cg.mp hr;exact (W.st t ht).2) h)⟩
 ·have:=W.tr.nd
  rw [CH] at this;exact this
 ·rw [<- hd t.2 (Co ht)];exact (D _ (W.st t ht).2).1
end
structure TP (H:Hp) (v pa ra th:Addr) (ps:List Str) (rs:List T) (root:Str) (ss:List Str):Prop where
 W:bc H v pa ra ps rs
 G:Good ps (rs.map (·.2))
 pz:ps.length<=8
 rz:rs.length<=40
 rt:root∈ps
 th:H th=some (.tup (ss.map V.str))
 tr:eL root ps rs ss
theorem TP.same {H H':Hp}{v pa ra th:Addr}{ps:List Str}{rs:List T}{root:Str}{ss:List Str} (t:TP H v pa ra th ps rs root ss) (s:ag H H'):TP H' v pa ra th ps rs root ss:=⟨t.W.same s,t.G,t.pz,t.rz,t.rt,s _ _ t.th,t.tr⟩
theorem eL.treeW {ps:List Str}{rs:List T}{root:Str}{ss:List Str} (t:eL root ps rs ss) (G:Good ps (rs.map (·.2))) (rt:root∈ps):cm root ps (bF rs ss) :=
 ⟨t.tr,λr hr=>by have:=G.rn r.2 (Co (Cr.mp hr).1);exact⟨this.2.1,this.2.2.1⟩,rt⟩
theorem Good.names {ps:List Str}{rs:List T} (G:Good ps (rs.map (·.2))):(GA rs).Pairwise GM:=by
 have:=G.rso;rw [CH] at this;exact this
theorem eL.names {ps:List Str}{rs:List T}{root:Str}{ss:List Str} (t:eL root ps rs ss) (G:Good ps (rs.map (·.2))):(bF rs ss).map (·.2.1)=ss:=by
 refine iQ (G.names.sublist (El.map _)) t.so λx=>⟨λh=>?_,λh=>?_⟩
 ·obtain⟨r,hr,rfl⟩:=Cg.mp h
  exact of_decide_eq_true (Cr.mp hr).2
 ·obtain⟨r,hr,e⟩:=Cg.mp (t.nm x h)
  exact Cg.mpr ⟨r,Cr.mpr ⟨hr,decide_eq_true (by rw [e];exact h)⟩,e⟩
theorem eL.nameP {ps:List Str}{rs:List T}{root:Str}{ss:List Str} (t:eL root ps rs ss) (G:Good ps (rs.map (·.2))):∀x∈ss,ba x:=λx hx=>by
 obtain⟨r,hr,e⟩:=Cg.mp (t.nm x hx);have:=(G.rn r.2 (Co hr)).1;rw [<- e];exact this
theorem cm.len {root:Str}{ps:List Str}{tk:List T} (W:cm root ps tk):tk.length + 1<=ps.length:=by
 have:=kB W.full W.rt (λr hr=>(W.st r hr).2);exact this
theorem cm.others {root:Str}{ps ss:List Str}{tk:List T} (W:cm root ps tk) (so:ps.Pairwise GM) (hp:ss.Perm (tk.map (·.2.2.2))) (hs:PyProof.Rows.sortedS ss=true):ss=ps.filter λy=>!decide (y=root):=by
 refine iQ (j3 hs (hp.nodup_iff.mpr W.goals)) (so.sublist El) λx=>?_;rw [hp.mem_iff,Cr];constructor
 ·intro h
  obtain⟨t,ht,rfl⟩:=Cg.mp h;exact⟨(W.st t ht).2,by simpa using W.nroot ht⟩
 ·rintro⟨h1,h2⟩
  exact (Ci.mp (W.inn h1)).resolve_left (by simpa using h2)
def pF (r:V):Sp:=λvs H Q _=>∃(v pa ra th:Addr) (ps:List Str) (rs:List T) (root:Str) (ss:List Str),vs=[.ref v,.str root,.ref th]/\TP H v pa ra th ps rs root ss/\∀H',ag H H'->Q r H'
abbrev N32:List Str:=["web","root","thing","rows","others"]
theorem gK:aV N32 ["web","root","thing"] (aH (top 32)):=⟨rfl,rfl,rfl,by decide +kernel,rfl,by decide +kernel,by decide +kernel⟩
theorem wU (F:Gy K "spans" "spans" (top 32) f fd) (B:Bl mg) (F1:Fn P w K mg base 2 "is_sorted_names" ["thing"] km) (F2:Fn P w K mg base 1 "rows_of" ["web","names"] (i6 K)) (F3:Fn P w K mg base 2 "come_to" ["rows","start"] qV):au P w K mg base GB 3 f fd ["web","root","thing"] (pF (.bl true)):=by
 refine F.ok gK (λvs H Q E h=>?_) (λ_ _ _ _ H vs Q E hr h=>?_)
 ·obtain⟨v,pa,ra,th,ps,rs,root,ss,rfl,_⟩:=h
  rfl
 ·obtain⟨v,pa,ra,th,ps,rs,root,ss,rfl,t,k⟩:=h
  have GP:aT 1 _:=hr.mono (by decide)
  refine⟨_,aj (aQ (bz (bG (ar F1 hr (aa (pv 2) ae)))) bO aS)
   (aj (aJ (i:=3) gK.nd rfl (Or.inl rfl) (ar F2 GP (aa (pv 0) (aa (pv 2) ae))))
   (aj (aQ (aU cq (aD bu rfl B.len Ct (aa (pv 3) ae)) (aD bu rfl B.len Ct (aa (pv 2) ae)) (aM _)) bO aS)
   (aj (eJ (i:=4) (N:=["place","root"]) (ix:=[none,some 1]) gK.nd rfl (Or.inl rfl) ⟨rfl,rfl,rfl,by decide⟩ rfl (bW (aA aF (pv 0) ai (λ_ _=>rfl))) (λ_ _ _ _=>bj 0 (by decide) rfl rfl) (λ_ _ _ _=>dU (aU cq (pv 0) (pv 1) (aM _))) (λ_ _ _ _=>pv 0))
   (aj (aQ (aU (cS hr) (aD iL rfl B.sorted hX (aa (bS (N:=["row"]) (ix:=[none]) ⟨rfl,rfl,rfl,by decide⟩ rfl (dr (pv 3)) (λ_ _ _ _=>bj 0 (by decide) rfl rfl) (λ_ _ _ _=>bR) (λ_ _ _ _=>aA (b7 K) (pv 0) ai (λ_ _=>rfl))) ae)) (pv 4) (aM _)) bO aS)
   (aq (aG (du dM (aD bu rfl B.len Ct (aa (ar F3 hr (aa (pv 3) (aa (pv 1) ae))) ae)) (aD bu rfl B.len Ct (aa (aA aF (pv 0) ai (λ_ _=>rfl)) ae)) (aM _)))))))),?_⟩
  have TW:=t.tr.treeW t.G t.rt;have Vz:=t.tr.names t.G;have JS:ss.length=(bF rs ss).length:=by rw [<- Vz,B8];rw [Vz]
  have KP:=TW.len;have Zf:=t.pz;refine⟨_,rfl,th,ss,rfl,t.th,t.tr.nameP t.G,t.tr.so,by omega,λH1 s1=>⟨true,rfl,aL ?_⟩⟩;have t1:=t.same s1;refine⟨_,rfl,_,rfl,v,th,pa,ra,ps,rs,ss,rfl,t1.W,by have:=t.rz;omega,.inr (Gp.of t1.th),λq hq=>?_⟩;have s2:=ao (o:=.lst (aw (bF rs ss))) s1 hq;have q2:upd H1 q (.lst (aw (bF rs ss))) q=some (.lst (aw (bF rs ss))):=ak
  have Jp:fV (upd H1 q (.lst (aw (bF rs ss)))) (bF rs ss):=⟨λr hr=>by
   have:=t.W.rows r (Cr.mp hr).1
   exact s2 _ _ this⟩
  have t2:=t.same s2;show eh _ _ _ _ (upd H1 q (.lst (aw (bF rs ss))));generalize upd H1 q (.lst (aw (bF rs ss)))=H2 at s2 q2 t2 Jp ⊢;generalize IJ:bF rs ss=tk at *;refine⟨_,rfl,q,_,rfl,.inl (Gq.of q2),_,rfl,th,_,rfl,.inr (Gp.of t2.th),rfl,_,rfl,?_⟩;have en:(!decide (V.int ((aw tk).length:Int)=V.int ((ss.map V.str).length:Int)))=false:=by
   rw [B8,B8,JS];simp
  rw [en];refine aL ?_
  refine⟨_,rfl,aE (j:=0) (.inr (Gp.of t2.W.tp)) rfl rfl ⟨pa,rfl,⟨_,Gp.of t2.W.pl⟩,jf (xs:=ps.map V.str) (fits (by simp;omega)) (λi ys σ H3=>ys=((ps.take i).filter λy=>!decide (y=root)).map V.str/\H3=H2/\∃v,σ=[v,some (.str root)]) ⟨rfl,rfl,_,rfl⟩
   (λi ys σ H3 _ q=>⟨by rw [q.1,B8];exact CB (CF _ _) (by simp;omega),by rw [q.2.1];exact Gp.of t2.W.pl⟩) ?_ ?_⟩⟩
  ·rintro i y ys σ H3 hy ⟨rfl,rfl,v,rfl⟩
   rw [Cd] at hy;cases hc:ps[i]? with
   | none=>rw [hc] at hy;cases hy
   | some z =>
    rw [hc] at hy;cases hy;have tf:=eU (λz:Str=>!decide (z=root)) ps i z hc;refine⟨_,rfl,_,rfl,rfl,_,rfl,?_⟩;have e:(!decide (V.str z=V.str root))=!decide (z=root):=by simp
    rw [e];refine bJ (λc=>⟨_,rfl,?_,rfl,_,rfl⟩) (λc=>⟨?_,rfl,_,rfl⟩)
    ·rw [tf,c];simp
    ·rw [tf];simp only [DY] at c;rw [c];simp
  rintro ys σ H3 ⟨rfl,rfl,v,rfl⟩ l hl;rw [take_all ps (by simp)];have s4:=ao (o:=.lst ((ps.filter λy=>!decide (y=root)).map V.str)) (ag.refl H3) hl;have l4:upd H3 l (.lst ((ps.filter λy=>!decide (y=root)).map V.str)) l=some (.lst ((ps.filter λy=>!decide (y=root)).map V.str)):=ak;generalize upd H3 l (.lst ((ps.filter λy=>!decide (y=root)).map V.str))=H4 at s4 l4 ⊢
  refine⟨_,rfl,q,rfl,⟨_,Gq.of (s4 _ _ q2)⟩,iX (xs:=aw tk) (fits (by simp;omega)) (λi ys σ H5=>ys=(tk.take i).map (λt=>V.str t.2.2.2)/\H5=H4/\∃v,σ=[v]) ⟨rfl,rfl,_,rfl⟩
   (λi ys σ H5 _ p=>⟨by rw [p.1];simp;omega,by rw [p.2.1];exact Gq.of (s4 _ _ q2)⟩) ?_ ?_⟩
  ·rintro i x ys σ H5 hx ⟨rfl,rfl,v,rfl⟩
   obtain⟨r,Jr,rfl⟩:=cG hx;exact⟨_,rfl,aE (j:=2) (.inr (Gp.of (s4 _ _ (Jp.e r (Cb Jr))))) rfl rfl ⟨(dE _ _ _ _ Jr).symm,rfl,_,rfl⟩⟩
  rintro ys σ H5 ⟨rfl,rfl,v,rfl⟩ c hc;rw [take_all tk (by simp)];have ec:(tk.map λt=>V.str t.2.2.2)=(tk.map (·.2.2.2)).map V.str:=by rw [CH];rfl
  rw [ec];have s6:=ao (o:=.lst ((tk.map (·.2.2.2)).map V.str)) s4 hc;refine⟨c,_,rfl,Gq.of ak,by simp;omega,λso q' Hf Lw Iy=>?_⟩;have s7:=ao (o:=.lst (so.map V.str)) s6 Iy;have q7:upd (upd H5 c (.lst ((tk.map (·.2.2.2)).map V.str))) q' (.lst (so.map V.str)) q'=some (.lst (so.map V.str)):=ak;have l7:upd (upd H5 c (.lst ((tk.map (·.2.2.2)).map V.str))) q' (.lst (so.map V.str)) l=some (.lst ((ps.filter λy=>!decide (y=root)).map V.str)):=by rw [av (λz=>by rw [<- z,av (bh l4 hc),l4] at Iy;cases Iy),av (bh l4 hc)];exact l4
  generalize upd (upd H5 c (.lst ((tk.map (·.2.2.2)).map V.str))) q' (.lst (so.map V.str))=H7 at s7 q7 l7 ⊢;have eo:=TW.others t.G.so Hf Lw;rw [<- eo] at l7;have PR:∀x∈so,ba x:=λx hx=>t.G.nm x (by rw [eo] at hx;exact (Cr.mp hx).1);refine⟨_,rfl,.list (so.map PyData.str),.list (so.map PyData.str),.lst q7 (Gv.strs so),.lst l7 (Gv.strs so),(cJ PR).1,(cJ PR).1,_,rfl,?_⟩;have ev:PyData.eqv (.list (so.map PyData.str)) (.list (so.map PyData.str))=true:=(fB so so).trans (by simp);rw [ev];refine aL ?_;have Rp:=s2.trans s7;have t7:=t.same Rp;refine⟨_,rfl,_,rfl,q,root,tk,ps,rfl,s7 _ _ q2,Jp.same s7,t.rt,λr hr=>(TW.st r hr).2,by omega,by omega,λq8 H8 s8 hq8 XH Fu=>?_⟩;have t8:=t.same (Rp.trans s8);refine⟨q8,_,rfl,.inl (Gq.of XH),_,rfl,aE (j:=0) (.inr (Gp.of t8.W.tp)) rfl rfl ⟨pa,_,rfl,.inr (Gp.of t8.W.pl),rfl,?_⟩⟩;have Gs:(G2 root (first tk root)).length=ps.length:=by
   refine Nat.le_antisymm ?_ ?_
   ·have:=kB Fu t.rt λr hr=>(TW.st r hr).2
    simpa using this
   ·obtain⟨d,h0,hd,D⟩:=TW.dist
    exact gm (cz t.G.so) λx hx=>Fu.cl _ _ (D x hx).1.1
  have e8:decide (V.int (((G2 root (first tk root)).map V.str).length:Int)=V.int ((ps.map V.str).length:Int))=true:=by
   rw [B8,B8,Gs];simp
  rw [e8];exact k H8 (Rp.trans s8)
abbrev ends (tr:List T):List Str:=tr.map λr=>r.2.2.2
structure IY (root:Str) (ps:List Str) (tr:List T):Prop where
 nd:(root::ends tr).Nodup
 sub:∀x∈root::ends tr,x∈ps
 ord:∀i r,tr[i]?=some r->r.2.2.1∈root::ends (tr.take i)
theorem IY.start {root:Str}{ps:List Str} (h:root∈ps):IY root ps []:=⟨by simp,by simpa using h,λi r e=>by simp at e⟩
theorem IY.add {root:Str}{ps:List Str}{tr:List T}{r:T} (S:IY root ps tr) (h1:r.2.2.1∈root::ends tr) (h2:r.2.2.2∉root::ends tr) (h3:r.2.2.2∈ps):IY root ps (tr++[r]) where
 nd:=by
  have e:root::ends (tr++[r])=(root::ends tr)++[r.2.2.2]:=by simp [ends]
  rw [e]
  exact E5.mpr ⟨S.nd,by simp,λa ha b hb=>by
   have:b=r.2.2.2:=by simpa using hb
   rw [this]
   exact λz=>h2 (z ▸ ha)⟩
 sub:=λx hx=>by
  have e:root::ends (tr++[r])=(root::ends tr)++[r.2.2.2]:=by simp [ends]
  rw [e] at hx
  rcases Ck.mp hx with z | z
  ·exact S.sub x z
  ·have:x=r.2.2.2:=by simpa using z
   rw [this];exact h3
 ord:=λi q hq=>by
  by_cases hi:i < tr.length
  ·rw [CV hi] at hq
   rw [List.take_append_of_le_length (by omega)];exact S.ord i q hq
  ·rw [DJ (by omega)] at hq
   have hz:i - tr.length=0:=by
    cases hc:i - tr.length with
    | zero=>rfl
    | succ n=>rw [hc] at hq;simp at hq
   rw [hz] at hq;have e:q=r:=by simpa using hq.symm
   subst e;have:i=tr.length:=by omega
   subst this;rw [List.take_left']
   ·exact h1
   ·rfl
theorem fQ:∀{a b:List Str},a.Nodup->(∀x∈a,x∈b)->a.length<=b.length
 | [],_,_,_=>Cz _
 | x::a,b,hn,hs=>by
  obtain⟨h1,h2⟩:=CG.mp hn;have hx:=hs x Cf;have ih:=fQ (a:=a) (b:=b.erase x) h2 (λy hy=>(List.mem_erase_of_ne (a:=y) (b:=x) (λz:y=x=>h1 (z ▸ hy))).mpr (hs y (Cj _ hy)));rw [Gf hx] at ih;have:=E9 hx;simp;omega
theorem qe {a b:List Str} (hn:a.Nodup) (hs:∀x∈a,x∈b) (hb:b.Nodup) (hl:b.length<=a.length):∀x∈b,x∈a:=λx hx=>by
 by_cases c:x∈a
 ·exact c
 ·have:=fQ (a:=x::a) (b:=b) (CG.mpr ⟨c,hn⟩) (λy hy=>by
   rcases Ci.mp hy with z | z
   ·rw [z];exact hx
   ·exact hs y z)
  simp at this;omega
theorem yR {a b:List Str} (hb:b.Nodup) (hl:a.length < b.length):∃x∈b,x∉a:=by
 by_cases c:∃x∈b,x∉a
 ·exact c
 ·have:∀x∈b,x∈a:=λx hx=>by
   by_cases d:x∈a
   ·exact d
   ·exact absurd ⟨x,hx,d⟩ c
  have:=fQ hb this;omega
theorem oX {α β:Type}{f:α->β}{R:List α} (hn:(R.map f).Nodup):∀{r r':α},r∈R->r'∈R->f r=f r'->r=r':=by
 induction R with
 | nil=>intro r r' h;cases h
 | cons x t ih =>
  rw [CD,CG] at hn;intro r r' h h' e
  rcases Ci.mp h with h1 | h1 <;> rcases Ci.mp h' with h2 | h2
  ·rw [h1,h2]
  ·rw [h1] at e;exact absurd (e ▸ Co (f:=f) h2) hn.1
  ·rw [h2] at e;exact absurd (e ▸ Co (f:=f) h1) hn.1
  ·exact ih hn.2 h1 h2 e
theorem Tree.of_walk {root:Str}{ps:List Str}{R:List Row} (nd:(root::R.map (·.2.2)).Nodup) (all:∀x∈ps,x∈root::R.map (·.2.2)) (hw:∀r∈R,∃n,Walk R root n r.2.2):Tree root ps R:=by
 refine⟨nd,all,?_⟩;have X8:=(CG.mp nd).2;have Zj:=(CG.mp nd).1;have key:∀x,∃n,(∃m,bw R root m x)->bw R root n x:=λx=>by
  by_cases c:∃m,bw R root m x
  ·obtain⟨m,hm⟩:=c
   exact⟨m,λ_=>hm⟩
  ·exact⟨0,λz=>absurd z c⟩
 obtain⟨d,hd⟩:=Classical.axiomOfChoice key;refine⟨d,(hd root ⟨0,bw.zero⟩).uniq bw.zero,λr hr=>?_⟩;obtain⟨n,hn⟩:=hw r hr;obtain⟨m,_,hm⟩:=hn.dist;cases m with
 | zero=>exact absurd (hm.1.z ▸ Co (f:=λz:Row=>z.2.2) hr) Zj
 | succ k =>
  obtain⟨r',Gz,e,hk⟩:=hm.pred;have:=oX (f:=λz:Row=>z.2.2) X8 Gz hr e;subst this;rw [(hd _ ⟨_,hm⟩).uniq hm,(hd _ ⟨_,hk⟩).uniq hk]
theorem IY.walk {root:Str}{ps:List Str}{tr:List T} (S:IY root ps tr):∀(n i:Nat) (r:T),i<=n->tr[i]?=some r->∃k,Walk (tr.map (·.2)) root k r.2.2.2:=by
 intro n
 induction n with
 | zero =>
  intro i r hi Gz;have e:i=0:=by omega
  subst e;have o:=S.ord 0 r Gz;simp at o;refine⟨1,Walk.snoc (r:=r.2) ?_ (Co (f:=λz:T=>z.2) (Cb Gz))⟩;rw [o];exact Walk.nil
 | succ n ih =>
  intro i r hi Gz;have o:=S.ord i r Gz;have hm:=Co (f:=λz:T=>z.2) (Cb Gz)
  rcases Ci.mp o with z | z
  ·refine⟨1,Walk.snoc (r:=r.2) ?_ hm⟩
   rw [z];exact Walk.nil
  ·obtain⟨q,hq,e⟩:=Cg.mp z
   obtain⟨j,hj,ME⟩:=DR.mp hq;have HJ:j < i:=by rw [Dc] at hj;omega
   have SV:tr[j]?=some q:=by
    rw [List.getElem_take] at ME;rw [Ca];exact⟨by rw [Dc] at hj;omega,ME⟩
   obtain⟨k,wk⟩:=ih j q (by omega) SV;refine⟨k + 1,Walk.snoc (r:=r.2) ?_ hm⟩;rw [<- e];exact wk
theorem Walk.mono {R R':List Row}{a:Str} (h:∀r∈R,r∈R'):∀{n:Nat}{x:Str},Walk R a n x->Walk R' a n x
 | _,_,.nil=>.nil
 | _,_,.snoc w hr=>.snoc (Walk.mono h w) (h _ hr)
section
variable {O:List Str}{root:Str}{c:List Row}
theorem pB (KH:O.Nodup) (hO:root∉O) (hc:c.map (·.2.2)=O) {r:Row} (hr:r∈c):r.2.2∈O/\IZ O root (c.map (·.2.1)) r.2.2=r.2.1:=by
 obtain⟨k,hk⟩:=De hr;have h1:O[k]?=some r.2.2:=by rw [<- hc,Cd,hk];rfl
 have hm:r.2.2∈O:=Cb h1;refine⟨hm,?_⟩;unfold IZ;rw [if_neg (show ¬ r.2.2=root from λz=>hO (z ▸ hm)),hZ KH h1,Cd,hk];rfl
end
abbrev IH (ds:List Str):List (Key×V):=ds.map λx=>((Sum.inr x:Key),V.bl true)
theorem ij (x:Str):∀ds:List Str,bT (IH ds) (Sum.inr x)=if x∈ds then some (.bl true) else none
 | []=>rfl
 | y::r=>by
  show bT ((Sum.inr y,V.bl true)::IH r) (Sum.inr x)=_
  by_cases e:y=x
  ·subst e
   rw [dn rfl,if_pos Cf]
  ·rw [dq (λz=>e (Gi z)),ij x r]
   by_cases c:x∈r
   ·rw [if_pos c,if_pos (Cj _ c)]
   ·rw [if_neg c,if_neg λz=>(Ci.mp z).elim (λq=>e q.symm) c]
theorem xy (x:Str) (ds:List Str):putK (IH ds) (Sum.inr x) (.bl true)=IH (if x∈ds then ds else ds++[x]):=by
 by_cases c:x∈ds
 ·rw [if_pos c]
  unfold putK;rw [gq,ij,if_pos c];show (if true=true then _ else _)=_;rw [if_pos rfl];refine (Dx λkv Zt=>?_).trans (List.map_id _);obtain⟨y,_,rfl⟩:=Cg.mp Zt
  by_cases e:(Sum.inr y:Key)=Sum.inr x
  ·rw [if_pos e];rfl
  ·rw [if_neg e];rfl
 ·rw [if_neg c,K85.wO (by rw [ij,if_neg c])]
  simp [IH]
def iF (nm:List Str):PyData->Bool
 | .tuple ds=>ds.all λe=>bV e nm
 | _=>false
def bL (nm:List Str) (x:V) (H:Hp):Prop:=(∃d,DV H x d/\Gw d/\iF nm d=false)\/∃a kvs,x=.ref a/\H a=some (.dK kvs)
theorem bL.same {nm:List Str}{x:V}{H H':Hp} (h:bL nm x H) (s:ag H H'):bL nm x H':=by
 rcases h with ⟨d,h1,h2,h3⟩ | ⟨a,kvs,h1,h2⟩
 ·exact .inl ⟨d,DV.same s h1,h2,h3⟩
 ·exact .inr ⟨a,kvs,h1,s _ _ h2⟩
def gF (ps nm:List Str) (root:Str) (d:PyData):Prop:=bU d=false\/∃ss:List Str,d=.tuple (ss.map PyData.str)/\(∀x∈ss,ba x)/\ss.Pairwise GM/\((∃x∈ss,x∉nm)\/ss.length≠(others ps root).length)
def bI (ps nm:List Str) (root:Str) (x:V) (H:Hp):Prop:=(∃d,DV H x d/\Gw d/\gF ps nm root d)\/∃a,x=.ref a/\H a=some (.dK [])
theorem bI.same {ps nm:List Str}{root:Str}{x:V}{H H':Hp} (h:bI ps nm root x H) (s:ag H H'):bI ps nm root x H':=by
 rcases h with ⟨d,h1,h2,h3⟩ | ⟨a,h1,h2⟩
 ·exact .inl ⟨d,DV.same s h1,h2,h3⟩
 ·exact .inr ⟨a,h1,s _ _ h2⟩
theorem Bd {ss:List Str} (h1:∀x∈ss,ba x) (h2:ss.Pairwise GM):bU (.tuple (ss.map PyData.str))=true:=by
 show ((ss.map PyData.str).all bA && dD (dB (ss.map PyData.str)))=true;rw [gX,k7.mpr h2,Bool.and_true,CY];intro d hd;obtain⟨x,hx,rfl⟩:=Cg.mp hd;exact gT.mpr (h1 x hx)
def lj:Sp:=λvs H Q _=>∃(v pa ra:Addr) (ps:List Str) (rs:List (Addr×Row)) (x:Str),vs=[.ref v,.str x]/\bc H v pa ra ps rs/\rs.length<=60/\x∈GA rs/\∀H',ag H H'->Q .non H'
def o9 (C:Addr):Sp:=λvs H _ E=>∃(v pa ra:Addr) (ps:List Str) (rs:List (Addr×Row)) (x:V),vs=[.ref v,x]/\bc H v pa ra ps rs/\rs.length<=60/\bX (GA rs) x H/\∀H',ag H H'->E (.ref C) none H'
theorem sI:aV ["web","thing"] ["web","thing"] (aH (top 22)):=⟨rfl,rfl,rfl,by decide +kernel,rfl,by decide +kernel,by decide +kernel⟩
theorem qP (F:Gy K "need_tie" "need_tie" (top 22) f fd) (F1:Fn P w K mg base 1 "is_among" ["thing","names"] (jo K)) (F2:Fn P w K mg base 1 "tie_names" ["web"] lb):au P w K mg base GB 2 f fd ["web","thing"] lj:=by
 refine F.ok sI (λvs H Q E h=>?_) (λ_ _ _ _ H vs Q E hr h=>?_)
 ·obtain⟨v,pa,ra,ps,rs,x,rfl,_⟩:=h
  rfl
 ·obtain⟨v,pa,ra,ps,rs,x,rfl,W,hz,hx,k⟩:=h
  refine⟨_,aq (aQ (bz (bG (ar F1 hr (aa (pv 1) (aa (ar F2 hr (aa (pv 0) ae)) ae))))) bO aS),?_⟩;refine⟨_,rfl,_,rfl,v,pa,ra,ps,rs,rfl,W,by omega,λq hq=>?_⟩;have s1:=ao (o:=.lst ((GA rs).map V.str)) (ag.refl H) hq;refine⟨x,q,GA rs,rfl,.inl (Gq.of ak),_,rfl,?_⟩;rw [decide_eq_true hx];exact aL (k _ s1)
theorem xu {f C:Addr}{fd:FuncData} (F:Gy K "need_tie" "need_tie" (top 22) f fd) (hx:mg "NoTie"=some (.ref C)) (hC:dC base C) (F1:Fn P w K mg base 1 "is_among" ["thing","names"] (kj K)) (F2:Fn P w K mg base 1 "tie_names" ["web"] lb):au P w K mg base (GX P w) 2 f fd ["web","thing"] (o9 C):=by
 refine F.okX sI (λvs H Q E h=>?_) (λ_ _ _ _ H vs Q E hr h=>?_)
 ·obtain⟨v,pa,ra,ps,rs,x,rfl,_⟩:=h
  rfl
 ·obtain⟨v,pa,ra,ps,rs,x,rfl,W,hz,hn,k⟩:=h
  refine⟨_,aq (aQ (bz (bG (ar F1 hr (aa (pv 1) (aa (ar F2 hr (aa (pv 0) ae)) ae))))) (aq (fE (W:=λH=>E (.ref C) none H) hx hC hr.hd (aa bq ae) (λpins σ H s h' ea args I m hW=>fS I m hW))) aS),?_⟩;refine⟨_,rfl,_,rfl,v,pa,ra,ps,rs,rfl,W,by omega,λq hq=>?_⟩;have s1:=ao (o:=.lst ((GA rs).map V.str)) (ag.refl H) hq;exact⟨x,q,GA rs,rfl,hn.same s1,.inl (Gq.of ak),_,rfl,aB ⟨by show 1<=sizeLine;decide,k _ s1⟩⟩
def kC:Sp:=λvs H Q _=>∃(v pa ra a:Addr) (ps ss:List Str) (rs:List (Addr×Row)),vs=[.ref v,.ref a]/\bc H v pa ra ps rs/\rs.length<=60/\H a=some (.tup (ss.map V.str))/\(∀x∈ss,x∈GA rs)/\ss.length<=60/\∀H',ag H H'->Q .non H'
def oy (C:Addr):Sp:=λvs H _ E=>∃(v pa ra:Addr) (ps:List Str) (rs:List (Addr×Row)) (x:V),vs=[.ref v,x]/\bc H v pa ra ps rs/\rs.length<=60/\bL (GA rs) x H/\∀H',ag H H'->E (.ref C) none H'
abbrev N23:List Str:=["web","thing","name"]
theorem jM:aV N23 ["web","thing"] (aH (top 23)):=⟨rfl,rfl,rfl,by decide +kernel,rfl,by decide +kernel,by decide +kernel⟩
theorem pd (F:Gy K "need_ties" "need_ties" (top 23) f fd) (B:Bl mg) (F1:Fn P w K mg base 2 "need_tie" ["web","thing"] lj):au P w K mg base GB 3 f fd ["web","thing"] kC:=by
 refine F.ok jM (λvs H Q E h=>?_) (λ_ _ _ _ H vs Q E hr h=>?_)
 ·obtain⟨v,pa,ra,a,ps,ss,rs,rfl,_⟩:=h
  rfl
 ·obtain⟨v,pa,ra,a,ps,ss,rs,rfl,W,hz,ha,hs,hl,k⟩:=h
  refine⟨_,aj (aQ (bz (bG (aD (cf (T:="tuple")) rfl B.isinstance bK (aa (pv 1) (aa (b8 (v:=.ty "tuple") rfl B.tuple cA rfl) ae))))) bO aS)
   (aq (cY C6 rfl (bW (pv 1)) (bt (i:=2) jM.nd rfl (Or.inl rfl)) (aq (bp (ar F1 hr (aa (pv 0) (aa (pv 2) ae))))))),?_⟩
  refine⟨_,rfl,_,_,true,rfl,.tup ha,rfl,true,rfl,aL ?_⟩;refine⟨_,rfl,a,rfl,⟨_,Gp.of ha⟩,?_⟩;refine fH (K:=K) (a:=a) (xs:=ss.map V.str) (λi σ H1=>(∃g,σ=[some (.ref v),some (.ref a),g])/\ag H H1) ⟨⟨_,rfl⟩,ag.refl _⟩ (λi σ H1 _ z=>Gp.of (z.2 _ _ ha)) ?_ ?_
  ·rintro i x σ H1 hx ⟨⟨g,rfl⟩,s1⟩
   rw [Cd] at hx;obtain⟨z,Qe,rfl⟩:∃z,ss[i]?=some z/\x=.str z:=by
    cases e:ss[i]? with
    | none=>rw [e] at hx;cases hx
    | some z=>rw [e] at hx;cases hx;exact⟨z,rfl,rfl⟩
   exact⟨_,rfl,_,rfl,v,pa,ra,ps,rs,z,rfl,W.same s1,hz,hs z (Cb Qe),λH2 s2=>⟨⟨_,rfl⟩,s1.trans s2⟩⟩
  ·rintro σ H1 ⟨⟨g,rfl⟩,s1⟩
   exact k H1 s1
theorem wR {f C:Addr}{fd:FuncData} (F:Gy K "need_ties" "need_ties" (top 23) f fd) (B:Bl mg) (hx:mg "NoTie"=some (.ref C)) (hC:dC base C) (F1:Hj P w K mg base 2 "need_tie" ["web","thing"] (de lj (o9 C))):au P w K mg base (GX P w) 3 f fd ["web","thing"] (oy C):=by
 refine F.okX jM (λvs H Q E h=>?_) (λ_ _ _ _ H vs Q E hr h=>?_)
 ·obtain⟨v,pa,ra,ps,rs,x,rfl,_⟩:=h
  rfl
 ·obtain⟨v,pa,ra,ps,rs,x,rfl,W,hz,hn,k⟩:=h
  refine⟨_,aj (aQ (bz (bG (aD (cf (T:="tuple")) rfl B.isinstance bK (aa (pv 1) (aa (b8 (v:=.ty "tuple") rfl B.tuple cA rfl) ae))))) (aq (fE (W:=λH=>E (.ref C) none H) hx hC hr.hd (aa bq ae) (λpins σ H s h' ea args I m hW=>fS I m hW))) aS)
   (aq (cY PassesOwn.leaving rfl (bW (pv 1)) (bt (i:=2) jM.nd rfl (Or.inl rfl)) (aq (bp (b9 (E:=E) F1 hr cc (aa (pv 0) (aa (pv 2) ae))))))),?_⟩
  have kF:∀H',ag H H'->(1<=sizeLine/\E (.ref C) none H'):=λH' s=>⟨by decide,k H' s⟩
  rcases hn with ⟨d,hd,ok,nt⟩ | ⟨a,kvs,rfl,ha⟩
  ·cases hd with
   | non=>exact⟨_,rfl,_,_,false,rfl,.non,rfl,false,rfl,aB (kF _ (ag.refl _))⟩
   | int i=>exact⟨_,rfl,_,_,false,rfl,.int i,rfl,false,rfl,aB (kF _ (ag.refl _))⟩
   | bl b=>exact⟨_,rfl,_,_,false,rfl,.bl b,rfl,false,rfl,aB (kF _ (ag.refl _))⟩
   | str z=>exact⟨_,rfl,_,_,false,rfl,.str z,rfl,false,rfl,aB (kF _ (ag.refl _))⟩
   | lst e _=>exact⟨_,rfl,_,_,false,rfl,.lst e,rfl,false,rfl,aB (kF _ (ag.refl _))⟩
   | @tup p xs ds hp q =>
    obtain⟨Qe,Io⟩:ds.length<=60/\∀d∈ds,Gw d:=by cases ok with | tup _ a b=>exact⟨a,b⟩
    have KO:=Gv.len q;refine⟨_,rfl,_,_,true,rfl,.tup hp,rfl,true,rfl,aL ?_⟩;refine⟨_,rfl,p,rfl,⟨_,Gp.of hp⟩,?_⟩;refine fH (K:=K) (a:=p) (xs:=xs) (λi σ H1=>(∃g,σ=[some (.ref v),some (.ref p),g])/\ag H H1/\((ds.take i).all λe=>bV e (GA rs))=true) ⟨⟨_,rfl⟩,ag.refl _,rfl⟩ (λi σ H1 _ z=>Gp.of (z.2.1 _ _ hp)) ?_ ?_
    ·rintro i x σ H1 hx ⟨⟨g,rfl⟩,s1,ha⟩
     obtain⟨d',Ie,dv⟩:=Gv.at q hx;have dv:=DV.same s1 dv;refine⟨_,rfl,_,rfl,?_⟩;cases c:bV d' (GA rs) with
     | false=>exact .inr ⟨v,pa,ra,ps,rs,x,rfl,W.same s1,hz,.inl ⟨d',dv,Io d' (Cb Ie),c⟩,λH2 s2=>k H2 (s1.trans s2)⟩
     | true =>
      cases dv with
      | str z =>
       refine .inl ⟨v,pa,ra,ps,rs,z,rfl,W.same s1,hz,of_decide_eq_true c,λH2 s2=>⟨⟨_,rfl⟩,s1.trans s2,?_⟩⟩;rw [Dd,Ie,List.all_append,ha];simp [c]
      | _=>cases c
    ·rintro σ H1 ⟨⟨g,rfl⟩,s1,ha⟩
     rw [KO,Dg] at ha;have:iF (GA rs) (.tuple ds)=true:=ha;rw [nt] at this;cases this
  ·exact⟨_,rfl,_,_,false,rfl,.dK ha,rfl,false,rfl,aB (kF _ (ag.refl _))⟩
def mX:Sp:=λvs H Q _=>∃a:Addr,vs=[.ref a]/\H a=some (.dK [])/\Q (.bl false) H
theorem uF (F:Gy K "is_sorted_names" "is_sorted_names" (top 13) f fd) (B:Bl mg):au P w K mg base GB 2 f fd ["thing"] mX:=by
 refine F.ok lZ (λvs H Q E h=>?_) (λ_ _ _ _ H vs Q E hr h=>?_)
 ·obtain⟨a,rfl,_⟩:=h
  rfl
 ·obtain⟨a,rfl,ha,k⟩:=h
  refine⟨_,aj (aQ (bz (bG (aD (cf (T:="tuple")) rfl B.isinstance bK (aa (pv 0) (aa (b8 (v:=.ty "tuple") rfl B.tuple cA rfl) ae))))) (aq (aG cb)) aS) bO,?_⟩;exact⟨_,rfl,_,_,false,rfl,.dK ha,rfl,false,rfl,aB k⟩
def nE:Sp:=λvs H Q _=>∃(v pa ra:Addr) (ps:List Str) (rs:List T) (root:Str) (x:V),vs=[.ref v,.str root,x]/\bc H v pa ra ps rs/\Good ps (rs.map (·.2))/\ps.length<=8/\rs.length<=40/\root∈ps/\bI ps (GA rs) root x H/\∀H',ag H H'->Q (.bl false) H'
theorem va {rs:List T}{ss:List Str} (hn:(GA rs).Nodup) (hs:ss.Nodup) {x:Str} (hx:x∈ss) (h:x∉GA rs):(bF rs ss).length < ss.length:=by
 have h1:((bF rs ss).map (·.2.1)).Nodup:=hn.sublist (El.map _);have h2:∀y∈(bF rs ss).map (·.2.1),y∈ss.erase x:=λy hy=>by
  obtain⟨r,hr,rfl⟩:=Cg.mp hy;obtain⟨a,b⟩:=Cr.mp hr;refine (List.mem_erase_of_ne (λz=>h ?_)).mpr (of_decide_eq_true b);rw [<- z];exact Co (f:=λr:T=>r.2.1) a
 have h3:=gm h1 h2;rw [B8,Gf hx] at h3;have:=E9 hx;omega
theorem vi {rs:List T}{ss:List Str} (G:(GA rs).Pairwise GM) (hs:ss.Pairwise GM) (h:∀x∈ss,x∈GA rs):(bF rs ss).map (·.2.1)=ss:=by
 refine iQ (G.sublist (El.map _)) hs λx=>⟨λh=>?_,λh'=>?_⟩
 ·obtain⟨r,hr,rfl⟩:=Cg.mp h
  exact of_decide_eq_true (Cr.mp hr).2
 ·obtain⟨r,hr,e⟩:=Cg.mp (h x h')
  exact Cg.mpr ⟨r,Cr.mpr ⟨hr,decide_eq_true (by rw [e];exact h')⟩,e⟩
theorem uU (F:Gy K "spans" "spans" (top 32) f fd) (B:Bl mg) (F1:Fn P w K mg base 2 "is_sorted_names" ["thing"] (de j8 mX)) (F2:Fn P w K mg base 1 "rows_of" ["web","names"] (i6 K)):au P w K mg base GB 3 f fd ["web","root","thing"] nE:=by
 refine F.ok gK (λvs H Q E h=>?_) (λ_ _ _ _ H vs Q E hr h=>?_)
 ·obtain⟨v,pa,ra,ps,rs,root,x,rfl,_⟩:=h
  rfl
 ·obtain⟨v,pa,ra,ps,rs,root,x,rfl,W,G,p8,J9,LC,hn,k⟩:=h
  have GP:aT 1 _:=hr.mono (by decide)
  refine⟨_,aj (aQ (bz (bG (ar F1 hr (aa (pv 2) ae)))) (aq (aG cb)) aS)
   (aj (aJ (i:=3) gK.nd rfl (Or.inl rfl) (ar F2 GP (aa (pv 0) (aa (pv 2) ae))))
   (aj (aQ (aU cq (aD bu rfl B.len Ct (aa (pv 3) ae)) (aD bu rfl B.len Ct (aa (pv 2) ae)) (aM _)) (aq (aG cb)) aS)
   (aj (eJ (i:=4) (N:=["place","root"]) (ix:=[none,some 1]) gK.nd rfl (Or.inl rfl) ⟨rfl,rfl,rfl,by decide⟩ rfl (bW (aA aF (pv 0) ai (λ_ _=>rfl))) (λ_ _ _ _=>bj 0 (by decide) rfl rfl) (λ_ _ _ _=>dU (aU cq (pv 0) (pv 1) (aM _))) (λ_ _ _ _=>pv 0))
   (aj (aQ (aU (cS hr) (aD iL rfl B.sorted hX (aa (bS (N:=["row"]) (ix:=[none]) ⟨rfl,rfl,rfl,by decide⟩ rfl (dr (pv 3)) (λ_ _ _ _=>bj 0 (by decide) rfl rfl) (λ_ _ _ _=>bR) (λ_ _ _ _=>aA (b7 K) (pv 0) ai (λ_ _=>rfl))) ae)) (pv 4) (aM _)) (aq (aG cb)) aS)
   bO)))),?_⟩
  have gn:=G.names
  rcases hn with ⟨d,hd,ok,hs | ⟨ss,rfl,hN,hP,hw⟩⟩ | ⟨a,rfl,ha⟩
  ·refine⟨_,rfl,.inl ⟨x,d,rfl,hd,ok,λH1 s1=>⟨_,rfl,?_⟩⟩⟩
   rw [hs];exact aB (k H1 s1)
  ·cases hd with
   | @tup p xs ds hp q =>
    have ex:=Gv.txt q;subst ex;have Zr:ss.length<=60:=by cases ok with | tup _ a b=>simpa using a
    refine⟨_,rfl,.inl ⟨_,_,rfl,.tup hp q,ok,λH1 s1=>⟨_,rfl,?_⟩⟩⟩;rw [Bd hN hP];refine aL ?_;have W1:=W.same s1;refine⟨_,rfl,_,rfl,v,p,pa,ra,ps,rs,ss,rfl,W1,by omega,.inr (Gp.of (s1 _ _ hp)),λq hq=>?_⟩;have s2:=ao (o:=.lst (aw (bF rs ss))) s1 hq;have q2:upd H1 q (.lst (aw (bF rs ss))) q=some (.lst (aw (bF rs ss))):=ak;show eh _ _ _ _ (upd H1 q (.lst (aw (bF rs ss))));generalize upd H1 q (.lst (aw (bF rs ss)))=H2 at s2 q2 ⊢;refine⟨_,rfl,q,_,rfl,.inl (Gq.of q2),_,rfl,p,_,rfl,.inr (Gp.of (s2 _ _ hp)),rfl,_,rfl,?_⟩
    by_cases Hr:∀x∈ss,x∈GA rs
    ·have Sh:ss.length≠(others ps root).length:=by
      rcases hw with ⟨x,hx,hn⟩ | hw
      ·exact absurd (Hr x hx) hn
      ·exact hw
     have Za:=vi gn hP Hr;have JS:(bF rs ss).length=ss.length:=by
      have:=congrArg List.length Za
      rwa [B8] at this
     have Jp:∀r∈bF rs ss,bM H2 r.1 r.2:=λr hr=>s2 _ _ (W.rows r (Cr.mp hr).1);have SX:∀r∈bF rs ss,r.2.2.2∈ps:=λr hr=>(G.rn r.2 (Co (Cr.mp hr).1)).2.2.1;have W2:=W.same s2;generalize IJ:bF rs ss=tk at *;have en:(!decide (V.int ((aw tk).length:Int)=V.int ((ss.map V.str).length:Int)))=false:=by
      rw [B8,B8,JS];simp
     rw [en];refine aL ?_
     refine⟨_,rfl,aE (j:=0) (.inr (Gp.of W2.tp)) rfl rfl ⟨pa,rfl,⟨_,Gp.of W2.pl⟩,jf (xs:=ps.map V.str) (fits (by simp;omega)) (λi ys σ H3=>ys=((ps.take i).filter λy=>!decide (y=root)).map V.str/\H3=H2/\∃v,σ=[v,some (.str root)]) ⟨rfl,rfl,_,rfl⟩
      (λi ys σ H3 _ q=>⟨by rw [q.1,B8];exact CB (CF _ _) (by simp;omega),by rw [q.2.1];exact Gp.of W2.pl⟩) ?_ ?_⟩⟩
     ·rintro i y ys σ H3 hy ⟨rfl,rfl,v,rfl⟩
      rw [Cd] at hy;cases hc:ps[i]? with
      | none=>rw [hc] at hy;cases hy
      | some z =>
       rw [hc] at hy;cases hy;have tf:=eU (λz:Str=>!decide (z=root)) ps i z hc;refine⟨_,rfl,_,rfl,rfl,_,rfl,?_⟩;have e:(!decide (V.str z=V.str root))=!decide (z=root):=by simp
       rw [e];refine bJ (λc=>⟨_,rfl,?_,rfl,_,rfl⟩) (λc=>⟨?_,rfl,_,rfl⟩)
       ·rw [tf,c];simp
       ·rw [tf];simp only [DY] at c;rw [c];simp
     rintro ys σ H3 ⟨rfl,rfl,v,rfl⟩ l hl;rw [take_all ps (by simp)];have s4:=ao (o:=.lst ((others ps root).map V.str)) (ag.refl H3) hl;have l4:upd H3 l (.lst ((others ps root).map V.str)) l=some (.lst ((others ps root).map V.str)):=ak;show eh _ _ _ _ (upd H3 l (.lst ((others ps root).map V.str)));generalize upd H3 l (.lst ((others ps root).map V.str))=H4 at s4 l4 ⊢
     refine⟨_,rfl,q,rfl,⟨_,Gq.of (s4 _ _ q2)⟩,iX (xs:=aw tk) (fits (by simp;omega)) (λi ys σ H5=>ys=(tk.take i).map (λt=>V.str t.2.2.2)/\H5=H4/\∃v,σ=[v]) ⟨rfl,rfl,_,rfl⟩
      (λi ys σ H5 _ p=>⟨by rw [p.1];simp;omega,by rw [p.2.1];exact Gq.of (s4 _ _ q2)⟩) ?_ ?_⟩
     ·rintro i x ys σ H5 hx ⟨rfl,rfl,v,rfl⟩
      obtain⟨r,Jr,rfl⟩:=cG hx;exact⟨_,rfl,aE (j:=2) (.inr (Gp.of (s4 _ _ (Jp r (Cb Jr))))) rfl rfl ⟨(dE _ _ _ _ Jr).symm,rfl,_,rfl⟩⟩
     rintro ys σ H5 ⟨rfl,rfl,v,rfl⟩ c hc;rw [take_all tk (by simp)];have ec:(tk.map λt=>V.str t.2.2.2)=(tk.map (·.2.2.2)).map V.str:=by rw [CH];rfl
     rw [ec];have s6:=ao (o:=.lst ((tk.map (·.2.2.2)).map V.str)) s4 hc;have Xk:tk.length<=40:=by rw [<- IJ];exact CB (CF _ _) J9
     refine⟨c,_,rfl,Gq.of ak,by simp;omega,λso q' Hf Lw Iy=>?_⟩;have s7:=ao (o:=.lst (so.map V.str)) s6 Iy;have q7:upd (upd H5 c (.lst ((tk.map (·.2.2.2)).map V.str))) q' (.lst (so.map V.str)) q'=some (.lst (so.map V.str)):=ak;have l7:upd (upd H5 c (.lst ((tk.map (·.2.2.2)).map V.str))) q' (.lst (so.map V.str)) l=some (.lst ((others ps root).map V.str)):=by rw [av (λz=>by rw [<- z,av (bh l4 hc),l4] at Iy;cases Iy),av (bh l4 hc)];exact l4
     generalize upd (upd H5 c (.lst ((tk.map (·.2.2.2)).map V.str))) q' (.lst (so.map V.str))=H7 at s7 q7 l7 ⊢;have PR:∀x∈so,ba x:=λx hx=>by
      obtain⟨r,hr,rfl⟩:=Cg.mp (Hf.mem_iff.mp hx);exact G.nm _ (SX r hr)
     have X0:∀x∈others ps root,ba x:=λx hx=>G.nm x (cx.mp hx).1;refine⟨_,rfl,.list (so.map PyData.str),.list ((others ps root).map PyData.str),.lst q7 (Gv.strs so),.lst l7 (Gv.strs _),(cJ PR).1,(cJ X0).1,_,rfl,?_⟩
     have ev:PyData.eqv (.list (so.map PyData.str)) (.list ((others ps root).map PyData.str))=false:=(fB so (others ps root)).trans (decide_eq_false λz=>Sh (by
      have h1:=Hf.length_eq;rw [B8] at h1
      rw [<- JS,<- h1,z]))
     rw [ev];exact aB (k H7 (s2.trans s7))
    ·have GO:(bF rs ss).length < ss.length:=by
      simp only [Classical.not_forall] at Hr;obtain⟨x,hx,hn⟩:=Hr;exact va (cz gn) (cz hP) hx hn
     have en:(!decide (V.int ((aw (bF rs ss)).length:Int)=V.int ((ss.map V.str).length:Int)))=true:=by
      rw [B8,B8];simp;omega
     rw [en];exact aB (k H2 s2)
  ·exact⟨_,rfl,.inr ⟨a,rfl,ha,_,rfl,aB (k H (ag.refl _))⟩⟩
def kS:Sp:=λvs H Q _=>∃(v pa ra th:Addr) (ps:List Str) (rs:List T) (root:Str) (ss:List Str),vs=[.ref v,.str root,.ref th]/\TP H v pa ra th ps rs root ss/\∀H',ag H H'->Q .non H'
def nK (C:Addr):Sp:=λvs H _ E=>∃(v pa ra:Addr) (ps:List Str) (rs:List T) (root:Str) (x:V),vs=[.ref v,.str root,x]/\bc H v pa ra ps rs/\Good ps (rs.map (·.2))/\ps.length<=8/\rs.length<=40/\root∈ps/\bI ps (GA rs) root x H/\∀H',ag H H'->E (.ref C) none H'
theorem sr:aV ["web","root","thing"] ["web","root","thing"] (aH (top 33)):=⟨rfl,rfl,rfl,by decide +kernel,rfl,by decide +kernel,by decide +kernel⟩
theorem pw (F:Gy K "need_tree" "need_tree" (top 33) f fd) (F1:Fn P w K mg base 3 "spans" ["web","root","thing"] (pF (.bl true))):au P w K mg base GB 4 f fd ["web","root","thing"] kS:=by
 refine F.ok sr (λvs H Q E h=>?_) (λ_ _ _ _ H vs Q E hr h=>?_)
 ·obtain⟨v,pa,ra,th,ps,rs,root,ss,rfl,_⟩:=h
  rfl
 ·obtain⟨v,pa,ra,th,ps,rs,root,ss,rfl,t,k⟩:=h
  refine⟨_,aq (aQ (bz (bG (ar F1 hr (aa (pv 0) (aa (pv 1) (aa (pv 2) ae)))))) bO aS),?_⟩;exact⟨_,rfl,_,rfl,_,rfl,v,pa,ra,th,ps,rs,root,ss,rfl,t,λH1 s1=>⟨_,rfl,aL (k H1 s1)⟩⟩
theorem wL {f C:Addr}{fd:FuncData} (F:Gy K "need_tree" "need_tree" (top 33) f fd) (hx:mg "NoTree"=some (.ref C)) (hC:dC base C) (F1:Fn P w K mg base 3 "spans" ["web","root","thing"] nE):au P w K mg base (GX P w) 4 f fd ["web","root","thing"] (nK C):=by
 refine F.okX sr (λvs H Q E h=>?_) (λ_ _ _ _ H vs Q E hr h=>?_)
 ·obtain⟨v,pa,ra,ps,rs,root,x,rfl,_⟩:=h
  rfl
 ·obtain⟨v,pa,ra,ps,rs,root,x,rfl,W,G,p8,J9,LC,hn,k⟩:=h
  refine⟨_,aq (aQ (bz (bG (ar F1 hr (aa (pv 0) (aa (pv 1) (aa (pv 2) ae)))))) (aq (fE (W:=λH=>E (.ref C) none H) hx hC hr.hd (aa bq ae) (λpins σ H s h' ea args I m hW=>fS I m hW))) aS),?_⟩;exact⟨_,rfl,_,rfl,_,rfl,v,pa,ra,ps,rs,root,x,rfl,W,G,p8,J9,LC,hn,λH1 s1=>⟨_,rfl,aB ⟨by show 1<=sizeLine;decide,k H1 s1⟩⟩⟩
def dO (ps:List Str) (root:Str) (ts:List Str):List Row->List Row->Int->Int
 | [],_,n=>n
 | w::ws,R,n=>if w.1∈ts then dO ps root ts ws (only R w) n else if w∈R then dO ps root ts ws (wo R w) (n + cI ps root R w) else dO ps root ts ws R n
theorem wb {ps:List Str}{root:Str}{ts:List Str}{R:List Row}{n:Int}:dO ps root ts [] R n=n:=rfl
theorem uM {ps:List Str}{root:Str}{ts:List Str}{w:Row}{ws R:List Row}{n:Int}:dO ps root ts (w::ws) R n=if w.1∈ts then dO ps root ts ws (only R w) n else if w∈R then dO ps root ts ws (wo R w) (n + cI ps root R w) else dO ps root ts ws R n:=rfl
def iI (CW CP:Addr) (x y:V) (H:Hp) (E:XK):Prop:=(bE x H/\∀H',ag H H'->E (.ref CW) none H') \/
 ∃(v pa ra:Addr) (ps:List Str) (rs:List T),x=.ref v/\bc H v pa ra ps rs/\Good ps (rs.map (·.2))/\bX ps y H/\∀H',ag H H'->E (.ref CP) none H'
section
variable {P:Program}{w:World}{K:zz7}{mg:Str->Option zz9}{base:Heap}{CW CP CI CR CN:Addr}
abbrev jy (CW:Addr):Sp:=de (fg .non) (p7 CW)
abbrev jC (CP:Addr):Sp:=de gi (nO CP)
def gD (CW CP:Addr):Sp:=λvs H _ E=>∃x y:V,vs=[x,y]/\iI CW CP x y H E
theorem vJ (F:Gy K "table" "table" (top 28) f fd) (F1:Hj P w K mg base 4 "need_web" ["thing"] (jy CW)) (F2:Hj P w K mg base 2 "need_place" ["web","thing"] (jC CP)):au P w K mg base (GX P w) 5 f fd ["web","root"] (gD CW CP):=by
 refine F.okX sS (λvs H Q E h=>?_) (λ_ _ _ _ H vs Q E hr h=>?_)
 ·obtain⟨x,y,rfl,_⟩:=h
  rfl
 ·obtain⟨x,y,rfl,h⟩:=h
  have Hd:aT 2 _:=hr.mono (by decide);refine⟨_,aj (bp (b9 (E:=E) F1 hr cc (aa (pv 0) ae))) (aj (bp (b9 (E:=E) F2 Hd cc (aa (pv 0) (aa (pv 1) ae)))) bO),?_⟩
  rcases h with ⟨hw,k⟩ | ⟨v,pa,ra,ps,rs,rfl,W,G,hp,k⟩
  ·exact⟨_,rfl,.inr ⟨x,rfl,hw,k⟩⟩
  ·exact⟨_,rfl,.inl ⟨v,pa,ra,ps,rs,rfl,W,G,λH1 s1=>⟨_,rfl,_,rfl,.inr ⟨v,pa,ra,ps,rs,y,rfl,W.same s1,hp.same s1,k H1 s1⟩⟩⟩⟩
theorem vg (F:Gy K "count" "count" (top 40) f fd) (F1:Hj P w K mg base 4 "need_web" ["thing"] (jy CW)) (F2:Hj P w K mg base 2 "need_place" ["web","thing"] (jC CP)):au P w K mg base (GX P w) 5 f fd ["web","root"] (gD CW CP):=by
 refine F.okX sG (λvs H Q E h=>?_) (λ_ _ _ _ H vs Q E hr h=>?_)
 ·obtain⟨x,y,rfl,_⟩:=h
  rfl
 ·obtain⟨x,y,rfl,h⟩:=h
  have Hd:aT 2 _:=hr.mono (by decide);refine⟨_,aj (bp (b9 (E:=E) F1 hr cc (aa (pv 0) ae))) (aj (bp (b9 (E:=E) F2 Hd cc (aa (pv 0) (aa (pv 1) ae)))) bO),?_⟩
  rcases h with ⟨hw,k⟩ | ⟨v,pa,ra,ps,rs,rfl,W,G,hp,k⟩
  ·exact⟨_,rfl,.inr ⟨x,rfl,hw,k⟩⟩
  ·exact⟨_,rfl,.inl ⟨v,pa,ra,ps,rs,rfl,W,G,λH1 s1=>⟨_,rfl,_,rfl,.inr ⟨v,pa,ra,ps,rs,y,rfl,W.same s1,hp.same s1,k H1 s1⟩⟩⟩⟩
abbrev kA (CW CP:Addr):Sp:=de jh (gD CW CP)
theorem xo (F:Gy K "all_trees" "all_trees" (top 41) f fd) (F1:Hj P w K mg base 5 "count" ["web","root"] (kA CW CP)):au P w K mg base (GX P w) 6 f fd ["web","root"] (gD CW CP):=by
 refine F.okX jO (λvs H Q E h=>?_) (λ_ _ _ _ H vs Q E hr h=>?_)
 ·obtain⟨x,y,rfl,_⟩:=h
  rfl
 ·obtain⟨x,y,rfl,h⟩:=h
  refine⟨_,aj (aJ (i:=2) jO.nd rfl (Or.inl rfl) (b9 (E:=E) F1 hr cc (aa (pv 0) (aa (pv 1) ae)))) bO,?_⟩;exact⟨_,rfl,_,rfl,.inr ⟨x,y,rfl,h⟩⟩
def sj:Sp:=λvs H Q _=>∃(v pa ra a b:Addr) (root:Str) (ps:List Str) (rs:List T),vs=[.ref v,.str root,.ref a,.ref b]/\bc H v pa ra ps rs/\Good ps (rs.map (·.2))/\ps.length<=8/\root∈ps/\H a=some (.tup [])/\H b=some (.tup [])/\∀H',ag H H'->Q (.int (a9 ps root (rs.map (·.2)))) H'
def rM (CW CP CI:Addr):Sp:=λvs H _ E=>∃x y z u:V,vs=[x,y,z,u]/\(iI CW CP x y H E\/∃(v pa ra:Addr) (root:Str) (ps:List Str) (rs:List T),x=.ref v/\y=.str root/\bc H v pa ra ps rs/\Good ps (rs.map (·.2))/\root∈ps/\(bL (GA rs) z H\/∃a,z=.ref a/\H a=some (.tup [])/\bL (GA rs) u H)/\∀H',ag H H'->E (.ref CI) none H')
abbrev N42:List Str:=["web","root","some","others","rows","row"]
theorem jW:aV N42 ["web","root","some","others"] (aH (top 42)):=⟨rfl,rfl,rfl,by decide +kernel,rfl,by decide +kernel,by decide +kernel⟩
theorem Az (F:Gy K "count_with" "count_with" (top 42) f fd) (F1:Fn P w K mg base 4 "need_web" ["thing"] (fg .non)) (F2:Fn P w K mg base 2 "need_place" ["web","thing"] gi) (F3:Fn P w K mg base 3 "need_ties" ["web","thing"] kC)
  (F4:Fn P w K mg base 1 "rows_of" ["web","names"] (i6 K)) (F5:Fn P w K mg base 3 "count_of" ["places","root","rows"] iP):au P w K mg base GB 5 f fd ["web","root","some","others"] sj:=by
 refine F.ok jW (λvs H Q E h=>?_) (λ_ _ _ _ H vs Q E hr h=>?_)
 ·obtain⟨v,pa,ra,a,b,root,ps,rs,rfl,_⟩:=h
  rfl
 ·obtain⟨v,pa,ra,a,b,root,ps,rs,rfl,W,G,p8,Gr,ha,hb,k⟩:=h
  have GP:aT 1 _:=hr.mono (by decide);have Hd:aT 2 _:=hr.mono (by decide);have HI:aT 3 _:=hr.mono (by decide);refine' ⟨_,?d0,?main⟩
  case' d0=>refine' aj (bp (ar F1 hr (aa (pv 0) ae))) (aj (bp (ar F2 Hd (aa (pv 0) (aa (pv 1) ae)))) (aj (bp (ar F3 HI (aa (pv 0) (aa (pv 2) ae)))) (aj (bp (ar F3 HI (aa (pv 0) (aa (pv 3) ae)))) ?d1)))
  case' d1=>refine' aj (eJ (i:=4) (N:=["row","others"]) (ix:=[none,some 3]) jW.nd rfl (Or.inl rfl) ⟨rfl,rfl,rfl,by decide⟩ rfl (bW (aA aF (pv 0) ai (λ_ _=>rfl))) (λ_ _ _ _=>bj 0 (by decide) rfl rfl) (λ_ _ _ _=>dU (aU (ue K) (aA (b7 K) (pv 0) ai (λ_ _=>rfl)) (pv 1) (by with_unfolding_all rfl))) (λ_ _ _ _=>pv 0)) ?d2
  case' d2=>refine' aj (cY C6 rfl (dr (ar F4 GP (aa (pv 0) (aa (pv 2) ae)))) (bt (i:=5) jW.nd rfl (Or.inl rfl)) bO) ?d3
  case d3=>exact aq (aG (ar F5 HI (aa (aA aF (pv 0) ai (λ_ _=>rfl)) (aa (pv 1) (aa (pv 4) ae)))))
  case main =>
  have rz:rs.length<=60:=by have:=G.rz;simpa using this
  refine⟨_,rfl,v,pa,ra,ps,rs,rfl,W,G,λH1 s1=>⟨_,rfl,_,rfl,v,pa,ra,ps,rs,root,rfl,W.same s1,Gr,?_⟩⟩;refine⟨_,rfl,_,rfl,v,pa,ra,a,ps,[],rs,rfl,W.same s1,rz,s1 _ _ ha,(λx hx=>nomatch hx),Cz _,λH2 s2=>?_⟩;have IF:=s1.trans s2;refine⟨_,rfl,_,rfl,v,pa,ra,b,ps,[],rs,rfl,W.same IF,rz,IF _ _ hb,(λx hx=>nomatch hx),Cz _,λH3 s3=>?_⟩;have N5:=IF.trans s3;have W3:=W.same N5;have b3:=N5 _ _ hb
  refine⟨_,rfl,aE (j:=1) (.inr (Gp.of W3.tp)) rfl rfl ⟨ra,rfl,⟨_,Gp.of W3.rl⟩,jf (xs:=aw rs) (fits (by simp;omega)) (λi ys σ H4=>ys=aw (rs.take i)/\H4=H3/\∃x,σ=[x,some (.ref b)]) ⟨rfl,rfl,_,rfl⟩
    (λi ys σ H4 _ q=>⟨by rw [q.1];simp;omega,by rw [q.2.1];exact Gp.of W3.rl⟩) ?_ ?_⟩⟩
  ·rintro i x ys σ H4 hx ⟨rfl,rfl,z,rfl⟩
   obtain⟨r,Gz,rfl⟩:=cG hx;have hm:=Cb Gz;refine⟨_,rfl,aE (j:=0) (.inr (Gp.of (W3.rows r hm))) rfl rfl ⟨_,rfl,b,[],rfl,.inr (Gp.of b3),rfl,rfl,_,rfl,?_⟩⟩;have e:(if true=true then !JQ (V.str r.2.1) [] else JQ (V.str r.2.1) [])=true:=rfl;rw [e];exact aB ⟨_,rfl,(dE _ _ _ _ Gz).symm,rfl,_,rfl⟩
  rintro ys σ H4 ⟨rfl,rfl,z,rfl⟩ q hq;rw [take_all rs (by simp)];have s4:=ao (o:=.lst (aw rs)) (ag.refl H4) hq;have q4:upd H4 q (.lst (aw rs)) q=some (.lst (aw rs)):=ak;have Jl:=N5.trans s4;generalize upd H4 q (.lst (aw rs))=H5 at s4 q4 Jl ⊢;refine⟨_,rfl,_,rfl,v,a,pa,ra,ps,rs,[],rfl,W.same Jl,by omega,.inr (Gp.of (Jl _ _ ha)),λl hl=>?_⟩;have ef:(rs.filter λr=>decide (r.2.1∈([]:List Str)))=[]:=by
   rw [E8];intro x _;simp
  rw [ef];have s6:=ao (o:=.lst (aw [])) (ag.refl H5) hl;have l6:upd H5 l (.lst (aw [])) l=some (.lst []):=ak;generalize upd H5 l (.lst (aw []))=H6 at s6 l6 ⊢;have UF:=Jl.trans s6;have W6:=W.same UF;refine⟨l,rfl,⟨_,Gq.of l6⟩,i9 (K:=K) (a:=l) (xs:=[]) (λi σ H7=>H7=H6/\σ=[some (.ref v),some (.str root),some (.ref a),some (.ref b),some (.ref q),none]) ⟨rfl,rfl⟩ (λi σ H7 _ z=>by rw [z.1];exact Gq.of l6) (λi x σ H7 hx _=>by simp at hx) ?_⟩;rintro σ H7 ⟨rfl,rfl⟩;refine⟨_,rfl,aE (j:=0) (.inr (Gp.of W6.tp)) rfl rfl ⟨_,rfl,_,rfl,pa,q,root,ps,rs,rfl,W6.pl,.inl (s6 _ _ q4),W6.rows,cz G.so,p8,rz,λr hr=>?_,λH8 s8=>k H8 (UF.trans s8)⟩⟩;obtain⟨_,h2,h3,_⟩:=G.rn r.2 (Cg.mpr ⟨r,hr,rfl⟩);exact⟨h2,h3⟩
theorem zL (F:Gy K "count_with" "count_with" (top 42) f fd) (F1:Hj P w K mg base 4 "need_web" ["thing"] (jy CW)) (F2:Hj P w K mg base 2 "need_place" ["web","thing"] (jC CP)) (F3:Hj P w K mg base 3 "need_ties" ["web","thing"] (de kC (oy CI))):au P w K mg base (GX P w) 5 f fd ["web","root","some","others"] (rM CW CP CI):=by
 refine F.okX jW (λvs H Q E h=>?_) (λ_ _ _ _ H vs Q E hr h=>?_)
 ·obtain⟨x,y,z,u,rfl,_⟩:=h
  rfl
 ·obtain⟨x,y,z,u,rfl,h⟩:=h
  have Hd:aT 2 _:=hr.mono (by decide);have HI:aT 3 _:=hr.mono (by decide);refine⟨_,aj (bp (b9 (E:=E) F1 hr cc (aa (pv 0) ae))) (aj (bp (b9 (E:=E) F2 Hd cc (aa (pv 0) (aa (pv 1) ae)))) (aj (bp (b9 (E:=E) F3 HI cc (aa (pv 0) (aa (pv 2) ae)))) (aj (bp (b9 (E:=E) F3 HI cc (aa (pv 0) (aa (pv 3) ae)))) bO))),?_⟩
  rcases h with (⟨hw,k⟩ | ⟨v,pa,ra,ps,rs,rfl,W,G,hp,k⟩) | ⟨v,pa,ra,root,ps,rs,rfl,rfl,W,G,Gr,hn,k⟩
  ·exact⟨_,rfl,.inr ⟨x,rfl,hw,k⟩⟩
  ·exact⟨_,rfl,.inl ⟨v,pa,ra,ps,rs,rfl,W,G,λH1 s1=>⟨_,rfl,_,rfl,.inr ⟨v,pa,ra,ps,rs,y,rfl,W.same s1,hp.same s1,k H1 s1⟩⟩⟩⟩
  ·have rz:rs.length<=60:=by have:=G.rz;simpa using this
   refine⟨_,rfl,.inl ⟨v,pa,ra,ps,rs,rfl,W,G,λH1 s1=>⟨_,rfl,_,rfl,.inl ⟨v,pa,ra,ps,rs,root,rfl,W.same s1,Gr,⟨_,rfl,_,rfl,?_⟩⟩⟩⟩⟩
   rcases hn with hz | ⟨a,rfl,ha,hu⟩
   ·exact .inr ⟨v,pa,ra,ps,rs,z,rfl,W.same s1,rz,hz.same s1,λH2 s2=>k H2 (s1.trans s2)⟩
   ·refine .inl ⟨v,pa,ra,a,ps,[],rs,rfl,W.same s1,rz,s1 _ _ ha,(λx hx=>nomatch hx),Cz _,λH2 s2=>?_⟩
    have IF:=s1.trans s2;exact⟨_,rfl,_,rfl,.inr ⟨v,pa,ra,ps,rs,u,rfl,W.same IF,rz,hu.same IF,λH3 s3=>k H3 (IF.trans s3)⟩⟩
def sV:Sp:=λvs H Q _=>∃(v pa ra:Addr) (root:Str) (b:Int) (ps:List Str) (rs:List T),vs=[.ref v,.str root,.int b]/\bc H v pa ra ps rs/\Good ps (rs.map (·.2))/\ps.length<=8/\root∈ps/\0<=b/\b < a9 ps root (rs.map (·.2)) /\
 ∀(q:Addr) (H':Hp),ag H H'->H q=none->H' q=some (.tup ((cU (tn ps root (rs.map (·.2)) (rs.map (·.2)) b [])).map V.str))->Q (.ref q) H'
def rR (CW CP CN:Addr):Sp:=λvs H _ E=>∃x y z:V,vs=[x,y,z]/\(iI CW CP x y H E\/∃(v pa ra:Addr) (root:Str) (ps:List Str) (rs:List T),x=.ref v/\y=.str root/\bc H v pa ra ps rs/\Good ps (rs.map (·.2))/\ps.length<=8/\root∈ps/\a9 ps root (rs.map (·.2))<=63/\cg 0 (a9 ps root (rs.map (·.2)) - 1) z H/\∀H',ag H H'->E (.ref CN) none H')
theorem sW:aV ["web","root","number"] ["web","root","number"] (aH (top 43)):=⟨rfl,rfl,rfl,by decide +kernel,rfl,by decide +kernel,by decide +kernel⟩
theorem Aw (F:Gy K "tree_at" "tree_at" (top 43) f fd) (F1:Fn P w K mg base 2 "need_number" ["thing","low","high"] ku) (F2:Fn P w K mg base 5 "count" ["web","root"] jh) (F3:Fn P w K mg base 5 "tree_of_number" ["web","root","number"] lT):au P w K mg base GB 6 f fd ["web","root","number"] sV:=by
 refine F.ok sW (λvs H Q E h=>?_) (λ_ _ _ _ H vs Q E hr h=>?_)
 ·obtain⟨v,pa,ra,root,b,ps,rs,rfl,_⟩:=h
  rfl
 ·obtain⟨v,pa,ra,root,b,ps,rs,rfl,W,G,p8,Gr,b0,b1,k⟩:=h
  have Hd:aT 2 _:=hr.mono (by decide);refine⟨_,aj (bp (ar F1 Hd (aa (pv 2) (aa ai (aa (aK fN (ar F2 hr (aa (pv 0) (aa (pv 1) ae))) ai) ae))))) (aq (aG (ar F3 hr (aa (pv 0) (aa (pv 1) (aa (pv 2) ae)))))),?_⟩;refine⟨_,rfl,_,rfl,_,rfl,v,pa,ra,root,ps,rs,rfl,W,G,p8,Gr,λH1 s1=>⟨_,_,rfl,rfl,b,0,_,rfl,b0,Int.le_sub_one_of_lt b1,?_⟩⟩;exact⟨_,rfl,_,rfl,_,rfl,v,pa,ra,root,b,ps,rs,rfl,W.same s1,G,p8,b0,b1,λq H2 s2 hq h2=>k q H2 (s1.trans s2) (s1.free hq) h2⟩
theorem vE:∀i:Fin 66,(Str.ofString (toString ((i.val:Int) - 1))).length<=100:=by decide +kernel
theorem qR {z:Int} (h0:-1<=z) (h1:z<=63):(Str.ofString (toString z)).length<=100:=by
 have:=vE ⟨(z + 1).toNat,by omega⟩;have e:(((z + 1).toNat:Int)) - 1=z:=by omega
 simp only [e] at this;exact this
theorem zE {z:Int} (h0:-1<=z) (h1:z<=63):z.natAbs.log2 < 1920:=by
 have h:z.natAbs < 2 ^ 6:=by omega
 by_cases e:z.natAbs=0
 ·rw [e];decide
 ·have:=(Nat.log2_lt e).mpr h
  omega
theorem zD (F:Gy K "tree_at" "tree_at" (top 43) f fd) (F1:Hj P w K mg base 2 "need_number" ["thing","low","high"] (de ku (nu CN))) (F2:Hj P w K mg base 5 "count" ["web","root"] (kA CW CP)) (ZJ:∀ps root rs,Good ps rs->root∈ps->0<=a9 ps root rs):au P w K mg base (GX P w) 6 f fd ["web","root","number"] (rR CW CP CN):=by
 refine F.okX sW (λvs H Q E h=>?_) (λ_ _ _ _ H vs Q E hr h=>?_)
 ·obtain⟨x,y,z,rfl,_⟩:=h
  rfl
 ·obtain⟨x,y,z,rfl,h⟩:=h
  have Hd:aT 2 _:=hr.mono (by decide);refine⟨_,aj (bp (b9 (E:=E) F1 Hd cc (aa (pv 2) (aa ai (aa (aK fN (b9 (E:=E) F2 hr cc (aa (pv 0) (aa (pv 1) ae))) ai) ae))))) bO,?_⟩
  rcases h with h | ⟨v,pa,ra,root,ps,rs,rfl,rfl,W,G,p8,Gr,O2,hn,k⟩
  ·exact⟨_,rfl,_,rfl,_,rfl,.inr ⟨x,y,rfl,h⟩⟩
  ·have h0:=ZJ ps root _ G Gr
   have e1:-1<=a9 ps root (rs.map (·.2)) - 1:=by omega
   have e2:a9 ps root (rs.map (·.2)) - 1<=63:=by omega
   refine⟨_,rfl,_,rfl,_,rfl,.inl ⟨v,pa,ra,root,ps,rs,rfl,W,G,p8,Gr,λH1 s1=>⟨_,_,rfl,rfl,.inr ⟨z,0,_,rfl,hn.same s1,by decide,zE e1 e2,qR (by decide) (by decide),qR e1 e2,k H1 s1⟩⟩⟩⟩
def sX:Sp:=λvs H Q _=>∃(v pa ra th:Addr) (ps:List Str) (rs:List T) (root:Str) (ss:List Str),vs=[.ref v,.str root,.ref th]/\TP H v pa ra th ps rs root ss/\∀H',ag H H'->Q (.int (dO ps root ss (rs.map (·.2)) (rs.map (·.2)) 0)) H'
def rV (CW CP CR:Addr):Sp:=λvs H _ E=>∃x y z:V,vs=[x,y,z]/\(iI CW CP x y H E\/∃(v pa ra:Addr) (root:Str) (ps:List Str) (rs:List T),x=.ref v/\y=.str root/\bc H v pa ra ps rs/\Good ps (rs.map (·.2))/\ps.length<=8/\rs.length<=40/\root∈ps/\bI ps (GA rs) root z H/\∀H',ag H H'->E (.ref CR) none H')
abbrev N44:List Str:=["web","root","tree","places","rows","number","row"]
theorem eO:aV N44 ["web","root","tree"] (aH (top 44)):=⟨rfl,rfl,rfl,by decide +kernel,rfl,by decide +kernel,by decide +kernel⟩
theorem yW (F:Gy K "number_of" "number_of" (top 44) f fd) (F1:Hj P w K mg base 4 "need_web" ["thing"] (jy CW)) (F2:Hj P w K mg base 2 "need_place" ["web","thing"] (jC CP)) (F3:Hj P w K mg base 4 "need_tree" ["web","root","thing"] (de kS (nK CR))):au P w K mg base (GX P w) 5 f fd ["web","root","tree"] (rV CW CP CR):=by
 refine F.okX eO (λvs H Q E h=>?_) (λ_ _ _ _ H vs Q E hr h=>?_)
 ·obtain⟨x,y,z,rfl,_⟩:=h
  rfl
 ·obtain⟨x,y,z,rfl,h⟩:=h
  have Hd:aT 2 _:=hr.mono (by decide);refine⟨_,aj (bp (b9 (E:=E) F1 hr cc (aa (pv 0) ae))) (aj (bp (b9 (E:=E) F2 Hd cc (aa (pv 0) (aa (pv 1) ae)))) (aj (bp (b9 (E:=E) F3 hr cc (aa (pv 0) (aa (pv 1) (aa (pv 2) ae))))) bO)),?_⟩
  rcases h with (⟨hw,k⟩ | ⟨v,pa,ra,ps,rs,rfl,W,G,hp,k⟩) | ⟨v,pa,ra,root,ps,rs,rfl,rfl,W,G,p8,J9,Gr,hn,k⟩
  ·exact⟨_,rfl,.inr ⟨x,rfl,hw,k⟩⟩
  ·exact⟨_,rfl,.inl ⟨v,pa,ra,ps,rs,rfl,W,G,λH1 s1=>⟨_,rfl,_,rfl,.inr ⟨v,pa,ra,ps,rs,y,rfl,W.same s1,hp.same s1,k H1 s1⟩⟩⟩⟩
  ·exact⟨_,rfl,.inl ⟨v,pa,ra,ps,rs,rfl,W,G,λH1 s1=>⟨_,rfl,_,rfl,.inl ⟨v,pa,ra,ps,rs,root,rfl,W.same s1,Gr,⟨_,rfl,_,rfl,_,rfl,.inr ⟨v,pa,ra,ps,rs,root,z,rfl,W.same s1,G,p8,J9,Gr,hn.same s1,λH2 s2=>k H2 (s1.trans s2)⟩⟩⟩⟩⟩⟩
theorem AA (F:Gy K "number_of" "number_of" (top 44) f fd) (F1:Fn P w K mg base 4 "need_web" ["thing"] (fg .non)) (F2:Fn P w K mg base 2 "need_place" ["web","thing"] gi) (F3:Fn P w K mg base 4 "need_tree" ["web","root","thing"] kS)
  (F4:Fn P w K mg base 1 "only" ["rows","row"] ju) (F5:Fn P w K mg base 4 "count_by" ["places","root","rows","row"] j7):au P w K mg base GB 5 f fd ["web","root","tree"] sX:=by
 refine F.ok eO (λvs H Q E h=>?_) (λ_ _ _ _ H vs Q E hr h=>?_)
 ·obtain⟨v,pa,ra,th,ps,rs,root,ss,rfl,_⟩:=h
  rfl
 ·obtain⟨v,pa,ra,th,ps,rs,root,ss,rfl,t,k⟩:=h
  have GP:aT 1 _:=hr.mono (by decide);have Hd:aT 2 _:=hr.mono (by decide);refine' ⟨_,?d0,?main⟩
  case' d0=>refine' aj (bp (ar F1 hr (aa (pv 0) ae))) (aj (bp (ar F2 Hd (aa (pv 0) (aa (pv 1) ae)))) (aj (bp (ar F3 hr (aa (pv 0) (aa (pv 1) (aa (pv 2) ae))))) ?d1))
  case' d1=>refine' aj (dX (pv 0) (dI rfl (n:=2) (bB (bt (i:=3) eO.nd rfl (Or.inl rfl)) (bB (bt (i:=4) eO.nd rfl (Or.inl rfl)) cX)))) (aj (aJ (i:=5) eO.nd rfl (Or.inl rfl) ai) ?d2)
  case' d2=>refine' aj (cY C6 rfl (bW (aA aF (pv 0) ai (λ_ _=>rfl))) (bt (i:=6) eO.nd rfl (Or.inr rfl)) (aq (aQ (aU gU (aA aF (pv 6) ai (λ_ _=>rfl)) (pv 2) (by with_unfolding_all rfl)) ?e0 (aq (aQ (aU (qo hr) (pv 6) (pv 4) (by with_unfolding_all rfl)) ?e1 aS))))) ?d3
  case e0=>exact aq (aJ (i:=4) eO.nd rfl (Or.inl rfl) (ar F4 GP (aa (pv 4) (aa (pv 6) ae))))
  case' e1=>refine' aj (lB (i:=5) eO.nd rfl (Or.inl rfl) ?a0 la) (aq (eJ (i:=4) (N:=["one","row"]) (ix:=[none,some 6]) eO.nd rfl (Or.inl rfl) ⟨rfl,rfl,rfl,by decide⟩ rfl (iw (dr (pv 4)) (bW (pv 4))) (λ_ _ _ _=>bj 0 (by decide) rfl rfl) (λ_ _ _ _=>dU (aU (cS hr) (pv 0) (pv 1) (aM _))) (λ_ _ _ _=>pv 0)))
  case a0=>exact ar F5 hr (aa (pv 3) (aa (pv 1) (aa (pv 4) (aa (pv 6) ae))))
  case d3=>exact aq (aG (pv 5))
  case main =>
  have G:=t.G;have W:=t.W;have p8:=t.pz;have rz:rs.length<=60:=by have:=t.rz;omega
  have GE:ps.Nodup:=cz G.so;have rn:∀r∈rs,RN r.2:=λr hr=>by
   obtain⟨h1,h2,h3,_⟩:=G.rn r.2 (Co hr);exact⟨h1,G.nm _ h2,G.nm _ h3⟩
  have MR:Ir ps (rs.map (·.2)):=λr hr=>by
   obtain⟨_,h2,h3,_⟩:=G.rn r hr;exact⟨h2,h3⟩
  refine⟨_,rfl,v,pa,ra,ps,rs,rfl,W,G,λH1 s1=>⟨_,rfl,_,rfl,v,pa,ra,ps,rs,root,rfl,W.same s1,t.rt,?_⟩⟩;refine⟨_,rfl,_,rfl,_,rfl,v,pa,ra,th,ps,rs,root,ss,rfl,t.same s1,λH2 s2=>?_⟩;have IF:=s1.trans s2;have W2:=W.same IF;refine⟨_,rfl,v,_,rfl,Gp.of W2.tp,rfl,_,_,rfl,_,_,rfl,rfl,?_⟩
  refine⟨_,rfl,aE (j:=1) (.inr (Gp.of W2.tp)) rfl rfl ⟨ra,rfl,⟨_,Gp.of W2.rl⟩,fH (K:=K) (a:=ra) (xs:=aw rs) (λi σ H3=>∃(rc:Addr) (cur:List (Addr×Row)) (n:Int) (g:Option V),σ=[some (.ref v),some (.str root),some (.ref th),some (.ref pa),some (.ref rc),some (.int n),g]/\ag H H3/\Ld H3 rc cur/\(∀z∈cur,z∈rs)/\dO ps root ss (rs.map (·.2)) (rs.map (·.2)) 0=dO ps root ss ((rs.map (·.2)).drop i) (cur.map (·.2)) n)
   ⟨ra,rs,0,none,rfl,IF,⟨.inr W2.rl,rz,λq hq=>⟨W2.rows q hq,rn q hq⟩⟩,λz hz=>hz,rfl⟩
   (λi σ H3 _ p=>by obtain⟨_,_,_,_,_,s3,_⟩:=p;exact Gp.of (s3 _ _ W.rl)) ?_ ?_⟩⟩
  ·rintro i x σ H3 hx ⟨rc,cur,n,g,rfl,s3,R3,GH,Hn⟩
   obtain⟨r,Gz,rfl⟩:=cG hx;have hm:=Cb Gz;have hi:i < rs.length:=(Ca.mp Gz).1;have GD:=s3 _ _ (W.rows r hm);have JZ:(rs.map (·.2)).drop i=r.2::(rs.map (·.2)).drop (i + 1):=by
    rw [FY (by simpa using hi)];simp [(Ca.mp Gz).2]
   rw [JZ,uM] at Hn;have TV:Ir ps (cur.map (·.2)):=MR.sub λq hq=>by
    obtain⟨z,hz,rfl⟩:=Cg.mp hq;exact Co (GH z hz)
   refine⟨_,rfl,aE (j:=0) (.inr (Gp.of GD)) rfl rfl ⟨_,rfl,th,_,rfl,.inr (Gp.of (s3 _ _ t.th)),rfl,gk ss,_,rfl,?_⟩⟩;have e:(if false=true then !JQ (V.str r.2.1) (ss.map V.str) else JQ (V.str r.2.1) (ss.map V.str))=decide (r.2.1∈ss):=by
    rw [if_neg Cs,gv]
   rw [e];refine bJ (λc=>?_) (λc=>?_)
   ·rw [if_pos (of_decide_eq_true c)] at Hn
    refine⟨_,rfl,_,rfl,rc,r.1,cur,r.2,rfl,R3,GD,rn r hm,λq H6 s6 hq R6=>?_⟩;refine⟨q,JM cur r.2,n,_,rfl,s3.trans s6,R6,λz hz=>GH z (Cr.mp hz).1,?_⟩;rw [kD];exact Hn
   ·rw [if_neg (by simpa using c)] at Hn
    refine⟨_,rfl,_,rfl,r.1,rc,r.2,cur,rfl,rfl,GD,rn r hm,R3.1.imp Gq.of Gp.of,R3.2.2,_,rfl,?_⟩;refine bJ (λd=>?_) (λd=>?_)
    ·rw [if_pos (of_decide_eq_true d)] at Hn
     refine⟨_,rfl,_,rfl,_,rfl,_,rfl,_,rfl,pa,rc,r.1,root,ps,cur,r.2,rfl,s3 _ _ W.pl,R3,GD,rn r hm,GE,p8,TV,λH4 s4=>?_⟩;have Jl:=s3.trans s4;have R4:=R3.same s4;have HH:=s4 _ _ GD;refine⟨_,_,rfl,rfl,?_⟩;refine nC (K:=K) (Hb:=H4) (a:=rc) (xs:=aw cur) (fits (by have:=R4.2.1;simp;omega)) (λQ q=>⟨_,rfl,q⟩) R4.1 (ag.refl _) (λj ys σ H5=>ys=aw (Jj (cur.take j) r.2)/\H5=H4/\∃g,σ=[g,some (.ref r.1)]) ⟨rfl,rfl,_,rfl⟩
      (λj ys σ H5 hj z=>⟨by rw [z.1,B8];exact CB (CF _ _) (by simp;omega),by rw [z.2.1];exact ag.refl _⟩) ?_ ?_
     ·rintro j x ys σ H5 hx ⟨rfl,rfl,g,rfl⟩
      obtain⟨q,hq,rfl⟩:=cG hx;obtain⟨q1,q2⟩:=R4.2.2 q (Cb hq);have tf:=eU (λz:Addr×Row=>!decide (z.2=r.2)) cur j q hq;refine⟨_,rfl,_,rfl,_,_,q1.dv,bM.dv HH,(cJ q2.all).2,(cJ (rn r hm).all).2,_,rfl,?_⟩;rw [jq];refine bJ (λc=>⟨_,rfl,?_,rfl,_,rfl⟩) (λc=>⟨?_,rfl,_,rfl⟩)
      ·unfold Jj
       rw [tf,c];simp
      ·simp only [DY] at c
       unfold Jj;rw [tf,c];simp
     ·rintro ys σ H5 ⟨rfl,rfl,g,rfl⟩ q hq
      rw [take_all cur (by simp)];have s5:=ao (o:=.lst (aw (Jj cur r.2))) (ag.refl H5) hq
      refine⟨q,Jj cur r.2,n + cI ps root (cur.map (·.2)) r.2,_,rfl,Jl.trans s5,⟨.inl ak,CB (CF _ _) R4.2.1,λz hz=>by
       obtain⟨z1,z2⟩:=R4.2.2 z (Cr.mp hz).1
       exact⟨s5 _ _ z1,z2⟩⟩,λz hz=>GH z (Cr.mp hz).1,?_⟩
      rw [pj];exact Hn
    ·rw [if_neg (by simpa using d)] at Hn
     exact⟨rc,cur,n,_,rfl,s3,R3,GH,Hn⟩
  ·rintro σ H3 ⟨rc,cur,n,g,rfl,s3,R3,GH,Hn⟩
   rw [List.drop_eq_nil_of_le (by simp),wb] at Hn;have:=k H3 s3;rw [Hn] at this;exact⟨_,rfl,this⟩
end
end K85
namespace L2
open PySem PySem.Spec PyProof.Rows PySem.W PySem.Calls
section
variable {prog:Program}{w:World}{A:Around}{E:zz9->zz8->Prop}{s:zz8}
end
structure BV (ea:Addr) (P:Program) (w:World) (K:zz7) (tg:Expr) (J:It) (fp:List Addr) (it:Addr) (tn:Nat->Heap->Prop):Prop where
 mem:it∈fp
 obj:∀i h,tn i h->∀b∈fp,∃o,h.get? b=some o/\∀v,o.data≠.cell v
 keep:∀i h h',tn i h->(∀b∈fp,∀o,h.get? b=some o->h'.get? b=some o)->tn i h'
 item:∀(X:Cx),X.prog=P->X.w=w->X.K=K->X.A.handled=some (.ref ea)->∀(i:Nat) (pins:List (Addr×Obj)) (s:zz8) (σ:St) (H:Hp) (E:zz9->zz8->Prop),Inv X pins σ H s->(∀b∈fp,cj X pins H b)->tn i s.heap->J.go i H ->
  wpAny (model P w) X.A (pyNext (.ref it)) (λr s1=>∃u,r=some u /\
   wpAny (model P w) X.A (letOwnedTupleGo tg (.ref it) u) (λ_ s2=>∃x H',Inv X pins σ H' s2/\RelV x u/\J.yld i H x H'/\tn (i + 1) s2.heap/\∀b∈fp,H' b=none) E s1) E s
 done:∀(X:Cx),X.prog=P->X.w=w->X.K=K->X.A.handled=some (.ref ea)->∀(i:Nat) (pins:List (Addr×Obj)) (s:zz8) (σ:St) (H:Hp) (E:zz9->zz8->Prop),Inv X pins σ H s->(∀b∈fp,cj X pins H b)->tn i s.heap->J.stop i H ->
  wpAny (model P w) X.A (pyNext (.ref it)) (λr s1=>r=none/\Inv X pins σ H s1) E s
 self:∀(A:Around) (i:Nat) (s:zz8) (Q:zz9->zz8->Prop) (E:zz9->zz8->Prop),tn i s.heap->Q (.ref it) s->wpAny (model P w) A (pyIter (.ref it)) Q E s
section
variable {X:Cx}{tg:Expr}
end
section
variable {X:Cx}{scope:Scope}{N:List Str}{ix:List (Option Nat)}
variable {tg iter elt:Expr}{ifs:List Expr}{pos:Pos}{g:TG}{tt:TT}{te:TE}{wi:TI}
end
end L2
namespace L2
open PySem PySem.Spec PyProof.Rows
section
variable {X:Cx}
theorem uT:Pg X "list.count" (λx xs H Q=>∃(p:Addr) (ss:List Bool) (y:Bool),x=.ref p/\xs=[.bl y]/\Gq X.K H p (ss.map V.bl)/\ss.length<=1000/\Q (.int (ss.countP (· == y))) H):=by
 intro pins s σ H x xs v us Q I rx rs h;obtain⟨p,ss,y,rfl,rfl,hq,hz,q⟩:=h;cases rx;obtain⟨u,rfl,ry⟩:=vals1 rs;obtain⟨Gm,rv,pl,_⟩:=I.list hq;obtain⟨⟨cl,dc,da,sl⟩,n,ho,HY,OV,OW⟩:=pl;simp only at HY OV OW;subst HY OV OW;have fl:(ss.map V.bl).all dj=true:=by rw [EO];simp [dj,Function.comp_def]
 have e:∀(ss:List Bool) (Gm:List zz9),aC (ss.map V.bl) Gm->Gm.countP (HA (.bl y))=ss.countP (· == y):=λss=>by
  induction ss with
  | nil=>intro Gm r;cases r;rfl
  | cons b t ih =>
   intro Gm r;cases r with
   | cons r0 rt =>
    rw [List.countP_cons,List.countP_cons,ih _ rt,jB r0 rfl];cases y <;> cases b <;> simp [Jy]
 refine Fs F.slot_list_count ⟨_,ho,rfl⟩ F.entry_list_count (F.args_list_count_2 _ _)
  (SeqAt.list_countAt p Gm.toArray n none sl u (HA (.bl y))) ⟨ho,λw' hw=>fF ry rfl rv fl w' (by simpa using hw),⟨.int (ss.countP (· == y)),H,I.tok _,⟨_,by rw [<- e ss Gm rv]⟩,q⟩⟩
end
end L2
namespace K85
open PySem L2
theorem Bs:bootBuiltins "ValueError"=some (.type "ValueError"):=by decide +kernel
structure Nm (mg:Str->Option zz9) (c0 c1 c2 c3 c4 c5:Addr):Prop where
 m0:mg "NoWeb"=some (.ref c0)
 m1:mg "NoPlace"=some (.ref c1)
 m2:mg "NoTie"=some (.ref c2)
 m3:mg "NoTree"=some (.ref c3)
 m4:mg "NoNumber"=some (.ref c4)
 m5:mg "TooMany"=some (.ref c5)
 ve:mg "ValueError"=none
structure Nh (K:zz7) (C c0 c1 c2 c3 c4 c5:Addr) (b0 b1 b2 b3 b4 b5:Bool):Prop where
 ke:jV K C
 k0:PySem.W.kitOne K (.ref C) (.ref c0)=some b0
 k1:PySem.W.kitOne K (.ref C) (.ref c1)=some b1
 k2:PySem.W.kitOne K (.ref C) (.ref c2)=some b2
 k3:PySem.W.kitOne K (.ref C) (.ref c3)=some b3
 k4:PySem.W.kitOne K (.ref C) (.ref c4)=some b4
 k5:PySem.W.kitOne K (.ref C) (.ref c5)=some b5
 kv:PySem.W.kitOne K (.ref C) (.type "ValueError")=some true
abbrev gR:List Str:=["web","place","tie","tree","number","many"]
section
variable {P:Program}{w:World}{K:zz7}{mg:Str->Option zz9}{base:Heap}{C c0 c1 c2 c3 c4 c5:Addr}
def fK (C:Addr) (nm:Str):Option zz9->Sp:=λhv vs H Q _=>∃(a:Addr) (dx:Option Addr),hv=some (.ref a)/\vs=[.ref a]/\H a=some (eQ a C dx)/\(∀d,dx=some d->∃fs,H d=some (.xd fs))/\∀(q:Addr) (H':Hp),ag H H'->H' q=some (.tup [.str nm])->Q (.ref q) H'
abbrev N55:List Str:=["_law_e","_law_some","_law_names"]
theorem jQ:aV N55 ["_law_e"] (aH (top 55)):=⟨rfl,rfl,rfl,by decide +kernel,rfl,by decide +kernel,by decide +kernel⟩
theorem hV {f:Addr}{fd:FuncData}{b0 b1 b2 b3 b4 b5:Bool}{nm:Str}{j:Nat} (F:Gy K "_law_class" "_law_class" (top 55) f fd) (B:Bl mg) (Z:Nm mg c0 c1 c2 c3 c4 c5) (O:Nh K C c0 c1 c2 c3 c4 c5 b0 b1 b2 b3 b4 b5)
  (h1:[b0,b1,b2,b3,b4,b5].countP (· == true)=1) (h2:[b0,b1,b2,b3,b4,b5][j]?=some true) (h3:∀m,m < j->[b0,b1,b2,b3,b4,b5][m]?≠some true) (h4:gR[j]?=some nm):cT P w K mg base GB 1 f fd ["_law_e"] (fK C nm):=by
 refine F.okG jQ (λhv vs H Q E h=>?_) (λ_ _ _ _ H vs Q E hr h=>?_)
 ·obtain⟨a,_,_,rfl,_⟩:=h
  rfl
 ·obtain⟨a,dx,hh,rfl,ha,M6,k⟩:=h
  refine' ⟨_,aj ?s1 (aj ?s2 (aj ?s3 (aj ?s4 (aq (aG ?r))))),?main⟩
  case s1 =>
   refine' aJ (i:=1) jQ.nd rfl (Or.inl rfl) ?e1
   case e1=>exact (bD (aa (aD (fA (c:=.ref c0) O.ke (λ_ z=>z) O.k0) rfl B.isinstance bK (aa (pv 0) (aa (dS (v:=.ref c0) rfl Z.m0 rfl) ae))) (aa (aD (fA (c:=.ref c1) O.ke (λ_ z=>z) O.k1) rfl B.isinstance bK (aa (pv 0) (aa (dS (v:=.ref c1) rfl Z.m1 rfl) ae))) (aa (aD (fA (c:=.ref c2) O.ke (λ_ z=>z) O.k2) rfl B.isinstance bK (aa (pv 0) (aa (dS (v:=.ref c2) rfl Z.m2 rfl) ae))) (aa (aD (fA (c:=.ref c3) O.ke (λ_ z=>z) O.k3) rfl B.isinstance bK (aa (pv 0) (aa (dS (v:=.ref c3) rfl Z.m3 rfl) ae))) ae)))))
  case s2 =>
   refine' aJ (i:=1) jQ.nd rfl (Or.inl rfl) (aK dH (pv 1) ?e2)
   case e2=>exact (bD (aa (aD (fA (c:=.ref c4) O.ke (λ_ z=>z) O.k4) rfl B.isinstance bK (aa (pv 0) (aa (dS (v:=.ref c4) rfl Z.m4 rfl) ae))) (aa (aD (fA (c:=.ref c5) O.ke (λ_ z=>z) O.k5) rfl B.isinstance bK (aa (pv 0) (aa (dS (v:=.ref c5) rfl Z.m5 rfl) ae))) ae)))
  case s3=>exact aJ (i:=2) jQ.nd rfl (Or.inl rfl) (bD (aa bq (aa bq (aa bq (aa bq (aa bq (aa bq ae)))))))
  case s4 =>
   refine' aQ (PW.pt (cM (bz (bG ?v1)) (cZ (aU cq ?v2 ai (aM _))))) bO aS
   case v1=>exact aD (fA (c:=.ty "ValueError") O.ke (λ_ z=>z) O.kv) rfl B.isinstance bK (aa (pv 0) (aa (b8 (v:=.ty "ValueError") rfl Z.ve Bs rfl) ae))
   case v2=>exact c8 CQ PySem.F.slot_list_count PySem.F.type_list_count uT (pv 1) (aa cb ae)
  case r =>
   refine' br (aa (aA aF (pv 2) ?w1 (λ_ _=>rfl)) ae)
   case w1=>exact c8 CQ PySem.F.slot_list_index PySem.F.type_list_index vB (pv 1) (aa cb ae)
  case main =>
   refine⟨_,rfl,a,dx,rfl,ha,M6,_,rfl,a,dx,rfl,ha,M6,_,rfl,a,dx,rfl,ha,M6,_,rfl,a,dx,rfl,ha,M6,by show 4<=sizeLine;decide,λp0 LF=>?_⟩;have u0:=ao (o:=.lst [.bl b0,.bl b1,.bl b2,.bl b3]) (ag.refl H) LF;have v0:upd H p0 (.lst [.bl b0,.bl b1,.bl b2,.bl b3]) p0=some (.lst [.bl b0,.bl b1,.bl b2,.bl b3]):=ak;generalize upd H p0 (.lst [.bl b0,.bl b1,.bl b2,.bl b3])=H2 at u0 v0 ⊢;have d1:∀d,dx=some d->∃fs,H2 d=some (.xd fs):=λd z=>(M6 d z).imp λfs e=>u0 _ _ e;refine⟨_,rfl,_,rfl,a,dx,rfl,(u0 _ _ ha),d1,_,rfl,a,dx,rfl,(u0 _ _ ha),d1,by show 2<=sizeLine;decide,λp1 OI=>?_⟩;have u1:=ao (o:=.lst [.bl b4,.bl b5]) (ag.refl H2) OI;have v1:upd H2 p1 (.lst [.bl b4,.bl b5]) p1=some (.lst [.bl b4,.bl b5]):=ak;generalize upd H2 p1 (.lst [.bl b4,.bl b5])=G1 at u1 v1 ⊢;refine⟨p0,p1,_,_,rfl,rfl,u1 _ _ v0,v1,by show 6<=sizeLine;decide,λq2 G6=>?_⟩;have w1:=ao (o:=.lst ([b0,b1,b2,b3,b4,b5].map V.bl)) (ag.refl G1) G6;have l2:upd G1 q2 (.lst ([b0,b1,b2,b3,b4,b5].map V.bl)) q2=some (.lst ([b0,b1,b2,b3,b4,b5].map V.bl)):=ak;have y1:upd G1 q2 (.lst ([.bl b0,.bl b1,.bl b2,.bl b3]++[.bl b4,.bl b5]))=upd G1 q2 (.lst ([b0,b1,b2,b3,b4,b5].map V.bl)):=rfl;rw [y1];have t2:=u0.trans (u1.trans w1);generalize upd G1 q2 (.lst ([b0,b1,b2,b3,b4,b5].map V.bl))=H4 at w1 l2 t2 ⊢;have len:[b0,b1,b2,b3,b4,b5].length=6:=rfl;generalize [b0,b1,b2,b3,b4,b5]=bb at l2 h1 h2 h3 len;refine⟨by show 6<=sizeLine;decide,λp3 Zh=>?_⟩;have u3:=ao (o:=.lst (gR.map V.str)) (ag.refl H4) Zh;have v3:upd H4 p3 (.lst (gR.map V.str)) p3=some (.lst (gR.map V.str)):=ak;have y3:upd H4 p3 (.lst [.str ("web":Str),.str ("place":Str),.str ("tie":Str),.str ("tree":Str),.str ("number":Str),.str ("many":Str)])=upd H4 p3 (.lst (gR.map V.str)):=rfl;rw [y3];generalize upd H4 p3 (.lst (gR.map V.str))=H5 at u3 v3 ⊢;have t3:=t2.trans u3;have d5:∀d,dx=some d->∃fs,H5 d=some (.xd fs):=λd z=>(M6 d z).imp λfs e=>t3 _ _ e;have l5:=u3 _ _ l2;refine⟨_,rfl,a,dx,rfl,t3 _ _ ha,d5,true,rfl,aL ?_⟩;refine⟨_,rfl,.inl ⟨rfl,_,Gq.of l5⟩,q2,bb,true,rfl,rfl,Gq.of l5,by omega,rfl,_,rfl,?_⟩;have e1:(!decide (V.int ((bb.countP (· == true):Nat):Int)=V.int 1))=false:=by rw [h1];rfl
   rw [e1];refine aL ?_;have hj6:j < 6:=by have:=(Ca.mp h2).1;omega
   refine⟨_,rfl,_,rfl,.inl ⟨rfl,_,Gq.of l5⟩,q2,bb,j,true,rfl,rfl,Gq.of l5,by omega,h2,h3,?_⟩;refine aE (j:=j) (v:=.str nm) (.inl (Gq.of v3)) rfl (by rw [Cd,h4];rfl) ⟨by show 1<=sizeLine;decide,λq hq=>?_⟩;exact k q _ (t3.trans (ao (ag.refl _) hq)) ak
end
theorem sw {n m:Int}{A B:Prop} (h1:n=m->A) (h2:n≠m->B):if decide (V.int n=V.int m)=true then A else B:=by
 by_cases c:n=m
 ·rw [decide_eq_true (by rw [c]),if_pos rfl];exact h1 c
 ·rw [decide_eq_false (λz=>c (V.int.inj z)),if_neg Cs];exact h2 c
inductive Ask (CW CP CI CR CN:Addr) (n:Int) (x y z u:V) (H:Hp):Option Addr->Str->Prop
 | web:bE x H->Ask CW CP CI CR CN n x y z u H (some CW) "web"
 | place {v pa ra:Addr}{ps:List Str}{rs:List T}:x=.ref v->bc H v pa ra ps rs->Good ps (rs.map (·.2))->bX ps y H->Ask CW CP CI CR CN n x y z u H (some CP) "place"
 | told {v pa ra a b:Addr}{ps:List Str}{rs:List T}{root:Str}:n<=3->x=.ref v->bc H v pa ra ps rs->Good ps (rs.map (·.2))->ps.length<=8->root∈ps->y=.str root->a9 ps root (rs.map (·.2))<=100->z=.ref a->H a=some (.tup [])->u=.ref b->H b=some (.tup [])->Ask CW CP CI CR CN n x y z u H none "told"
 | tie {v pa ra:Addr}{ps:List Str}{rs:List T}{root:Str}:n=3->x=.ref v->bc H v pa ra ps rs->Good ps (rs.map (·.2))->root∈ps->y=.str root->(bL (GA rs) z H\/∃a,z=.ref a/\H a=some (.tup [])/\bL (GA rs) u H)->Ask CW CP CI CR CN n x y z u H (some CI) "tie"
 | num {v pa ra:Addr}{ps:List Str}{rs:List T}{root:Str}:n=4->x=.ref v->bc H v pa ra ps rs->Good ps (rs.map (·.2))->ps.length<=8->root∈ps->y=.str root->a9 ps root (rs.map (·.2))<=63->cg 0 (a9 ps root (rs.map (·.2)) - 1) z H->Ask CW CP CI CR CN n x y z u H (some CN) "number"
 | at {v pa ra:Addr}{ps:List Str}{rs:List T}{root:Str}{b:Int}:n=4->x=.ref v->bc H v pa ra ps rs->Good ps (rs.map (·.2))->ps.length<=8->root∈ps->y=.str root->z=.int b->0<=b->b < a9 ps root (rs.map (·.2))->Ask CW CP CI CR CN n x y z u H none "told"
 | tree {v pa ra:Addr}{ps:List Str}{rs:List T}{root:Str}:n=5->x=.ref v->bc H v pa ra ps rs->Good ps (rs.map (·.2))->ps.length<=8->rs.length<=40->root∈ps->y=.str root->bI ps (GA rs) root z H->Ask CW CP CI CR CN n x y z u H (some CR) "tree"
 | no {v pa ra th:Addr}{ps:List Str}{rs:List T}{root:Str}{ss:List Str}:n=5->x=.ref v->y=.str root->z=.ref th->TP H v pa ra th ps rs root ss->Ask CW CP CI CR CN n x y z u H none "told"
theorem Ask.same {CW CP CI CR CN:Addr}{n:Int}{x y z u:V}{H H':Hp}{o:Option Addr}{nm:Str} (h:Ask CW CP CI CR CN n x y z u H o nm) (s:ag H H'):Ask CW CP CI CR CN n x y z u H' o nm:=by
 cases h with
 | web h=>exact .web (h.same s)
 | place e W G h=>exact .place e (W.same s) G (h.same s)
 | told hn e W G p8 hr ey hc ez ha eu hb=>exact .told hn e (W.same s) G p8 hr ey hc ez (s _ _ ha) eu (s _ _ hb)
 | tie hn e W G hr ey h=>exact .tie hn e (W.same s) G hr ey (h.imp (·.same s) λ⟨a,h1,h2,h3⟩=>⟨a,h1,s _ _ h2,h3.same s⟩)
 | num hn e W G p8 hr ey hc h=>exact .num hn e (W.same s) G p8 hr ey hc (h.same s)
 | «at» hn e W G p8 hr ey ez b0 b1=>exact .at hn e (W.same s) G p8 hr ey ez b0 b1
 | tree hn e W G p8 J9 hr ey h=>exact .tree hn e (W.same s) G p8 J9 hr ey (h.same s)
 | no hn e ey ez t=>exact .no hn e ey ez (t.same s)
section
variable {P:Program}{w:World}{K:zz7}{mg:Str->Option zz9}{base:Heap}{CW CP CI CR CN CT R:Addr}
def qw (CW CP CI CR CN:Addr):Sp:=λvs H Q E=>∃(n:Int) (x y z u:V) (o:Option Addr) (nm:Str),vs=[.int n,x,y,z,u]/\0<=n/\n<=5/\Ask CW CP CI CR CN n x y z u H o nm/\(o=none->∀v H',ag H H'->Q v H')/\∀C,o=some C->∀H',ag H H'->E (.ref C) none H'
theorem BF:aV ["_law_which","_law_web_here","_law_root","_law_one","_law_other"] ["_law_which","_law_web_here","_law_root","_law_one","_law_other"] (aH (top 56)):=⟨rfl,rfl,rfl,by decide +kernel,rfl,by decide +kernel,by decide +kernel⟩
theorem yJ (F:Gy K "_law_call" "_law_call" (top 56) f fd) (F0:Hj P w K mg base 5 "table" ["web","root"] (de oY (gD CW CP))) (F1:Hj P w K mg base 5 "count" ["web","root"] (kA CW CP)) (F2:Hj P w K mg base 6 "all_trees" ["web","root"] (de (rj CT) (gD CW CP)))
  (F3:Hj P w K mg base 5 "count_with" ["web","root","some","others"] (de sj (rM CW CP CI))) (F4:Hj P w K mg base 6 "tree_at" ["web","root","number"] (de sV (rR CW CP CN))) (F5:Hj P w K mg base 5 "number_of" ["web","root","tree"] (de sX (rV CW CP CR))) :
  au P w K mg base (GX P w) 7 f fd ["_law_which","_law_web_here","_law_root","_law_one","_law_other"] (qw CW CP CI CR CN):=by
 refine F.okX BF (λvs H Q E h=>?_) (λ_ _ _ _ H vs Q E hr h=>?_)
 ·obtain⟨n,x,y,z,u,o,nm,rfl,_⟩:=h
  rfl
 ·obtain⟨n,x,y,z,u,o,nm,rfl,n0,n5,ask,kq,ke⟩:=h
  have Qh:aT 5 _:=hr.mono (by decide);refine' ⟨_,?d0,?main⟩
  case' d0=>refine' aj (aQ (aU dM (pv 0) ai (aM _)) (aq (aG (b9 (E:=E) F0 Qh cc (aa (pv 1) (aa (pv 2) ae))))) aS) ?d1
  case' d1=>refine' aj (aQ (aU dM (pv 0) ai (aM _)) (aq (aG (b9 (E:=E) F1 Qh cc (aa (pv 1) (aa (pv 2) ae))))) aS) ?d2
  case' d2=>refine' aj (aQ (aU dM (pv 0) ai (aM _)) (aq (aG (b9 (E:=E) F2 hr cc (aa (pv 1) (aa (pv 2) ae))))) aS) ?d3
  case' d3=>refine' aj (aQ (aU dM (pv 0) ai (aM _)) (aq (aG (b9 (E:=E) F3 Qh cc (aa (pv 1) (aa (pv 2) (aa (pv 3) (aa (pv 4) ae))))))) aS) ?d4
  case' d4=>refine' aj (aQ (aU dM (pv 0) ai (aM _)) (aq (aG (b9 (E:=E) F4 hr cc (aa (pv 1) (aa (pv 2) (aa (pv 3) ae)))))) aS) ?d5
  case d5=>exact aq (aG (b9 (E:=E) F5 Qh cc (aa (pv 1) (aa (pv 2) (aa (pv 3) ae)))))
  case main =>
  have wp:∀C,o=some C->(bE x H/\C=CW)\/(∃(v pa ra:Addr) (ps:List Str) (rs:List T),x=.ref v/\bc H v pa ra ps rs/\Good ps (rs.map (·.2))/\bX ps y H/\C=CP)->iI CW CP x y H E:=λC hC h=>by
   rcases h with ⟨h,rfl⟩ | ⟨v,pa,ra,ps,rs,e,W,G,hp,rfl⟩
   ·exact .inl ⟨h,ke _ hC⟩
   ·exact .inr ⟨v,pa,ra,ps,rs,e,W,G,hp,ke _ hC⟩
  refine⟨_,rfl,rfl,_,rfl,sw (λe=>?c0) (λe0=>⟨_,rfl,rfl,_,rfl,sw (λe=>?c1) (λe1=>⟨_,rfl,rfl,_,rfl,sw (λe=>?c2) (λe2=>⟨_,rfl,rfl,_,rfl,sw (λe=>?c3) (λe3=>⟨_,rfl,rfl,_,rfl,sw (λe=>?c4) (λe4=>?c5)⟩)⟩)⟩)⟩)⟩
  case c0 =>
   refine⟨_,rfl,_,rfl,?_⟩;cases ask with
   | web h=>exact .inr ⟨x,y,rfl,wp _ rfl (.inl ⟨h,rfl⟩)⟩
   | place e W G h=>exact .inr ⟨x,y,rfl,wp _ rfl (.inr ⟨_,_,_,_,_,e,W,G,h,rfl⟩)⟩
   | told hn e W G p8 hr ey hc ez ha eu hb =>
    subst e ey;exact .inl ⟨_,_,_,_,_,_,rfl,W,G,p8,hr,λq Gn H' s _ _ _ _ _=>kq rfl _ _ s⟩
   | tie hn=>omega
   | num hn=>omega
   | «at» hn=>omega
   | tree hn=>omega
   | no hn=>omega
  case c1 =>
   refine⟨_,rfl,_,rfl,?_⟩;cases ask with
   | web h=>exact .inr ⟨x,y,rfl,wp _ rfl (.inl ⟨h,rfl⟩)⟩
   | place e W G h=>exact .inr ⟨x,y,rfl,wp _ rfl (.inr ⟨_,_,_,_,_,e,W,G,h,rfl⟩)⟩
   | told hn e W G p8 hr ey hc ez ha eu hb =>
    subst e ey;exact .inl ⟨_,_,_,_,_,_,rfl,W,G,p8,hr,λH' s=>kq rfl _ _ s⟩
   | tie hn=>omega
   | num hn=>omega
   | «at» hn=>omega
   | tree hn=>omega
   | no hn=>omega
  case c2 =>
   refine⟨_,rfl,_,rfl,?_⟩;cases ask with
   | web h=>exact .inr ⟨x,y,rfl,wp _ rfl (.inl ⟨h,rfl⟩)⟩
   | place e W G h=>exact .inr ⟨x,y,rfl,wp _ rfl (.inr ⟨_,_,_,_,_,e,W,G,h,rfl⟩)⟩
   | told hn e W G p8 hr ey hc ez ha eu hb =>
    subst e ey;exact .inl ⟨_,_,_,_,_,_,rfl,W,G,p8,hr,λ_ q Iu H' s _ _ _ _=>kq rfl _ _ s,λh=>absurd hc h⟩
   | tie hn=>omega
   | num hn=>omega
   | «at» hn=>omega
   | tree hn=>omega
   | no hn=>omega
  case c3 =>
   refine⟨_,rfl,_,rfl,_,rfl,_,rfl,?_⟩;cases ask with
   | web h=>exact .inr ⟨x,y,z,u,rfl,.inl (wp _ rfl (.inl ⟨h,rfl⟩))⟩
   | place e W G h=>exact .inr ⟨x,y,z,u,rfl,.inl (wp _ rfl (.inr ⟨_,_,_,_,_,e,W,G,h,rfl⟩))⟩
   | told hn e W G p8 hr ey hc ez ha eu hb =>
    subst e ey ez eu;exact .inl ⟨_,_,_,_,_,_,_,_,rfl,W,G,p8,hr,ha,hb,λH' s=>kq rfl _ _ s⟩
   | tie hn e W G hr ey h=>exact .inr ⟨x,y,z,u,rfl,.inr ⟨_,_,_,_,_,_,e,ey,W,G,hr,h,λH' s=>ke _ rfl H' s⟩⟩
   | num hn=>omega
   | «at» hn=>omega
   | tree hn=>omega
   | no hn=>omega
  case c4 =>
   refine⟨_,rfl,_,rfl,_,rfl,?_⟩;cases ask with
   | web h=>exact .inr ⟨x,y,z,rfl,.inl (wp _ rfl (.inl ⟨h,rfl⟩))⟩
   | place e W G h=>exact .inr ⟨x,y,z,rfl,.inl (wp _ rfl (.inr ⟨_,_,_,_,_,e,W,G,h,rfl⟩))⟩
   | told hn=>omega
   | tie hn=>omega
   | num hn e W G p8 hr ey hc h=>exact .inr ⟨x,y,z,rfl,.inr ⟨_,_,_,_,_,_,e,ey,W,G,p8,hr,hc,h,λH' s=>ke _ rfl H' s⟩⟩
   | «at» hn e W G p8 hr ey ez b0 b1 =>
    subst e ey ez;exact .inl ⟨_,_,_,_,_,_,_,rfl,W,G,p8,hr,b0,b1,λq H' s _ _=>kq rfl _ _ s⟩
   | tree hn=>omega
   | no hn=>omega
  case c5 =>
   refine⟨_,rfl,_,rfl,_,rfl,?_⟩;cases ask with
   | web h=>exact .inr ⟨x,y,z,rfl,.inl (wp _ rfl (.inl ⟨h,rfl⟩))⟩
   | place e W G h=>exact .inr ⟨x,y,z,rfl,.inl (wp _ rfl (.inr ⟨_,_,_,_,_,e,W,G,h,rfl⟩))⟩
   | told hn=>omega
   | tie hn=>omega
   | num hn=>omega
   | «at» hn=>omega
   | tree hn e W G p8 J9 hr ey h=>exact .inr ⟨x,y,z,rfl,.inr ⟨_,_,_,_,_,_,e,ey,W,G,p8,J9,hr,h,λH' s=>ke _ rfl H' s⟩⟩
   | no hn e ey ez t =>
    subst e ey ez;exact .inl ⟨_,_,_,_,_,_,_,_,rfl,t,λH' s=>kq rfl _ _ s⟩
theorem cT.or {k:Nat}{f:Addr}{fd:FuncData}{ps:List Str}{a b:Option zz9->Sp} (F:cT P w K mg base GB k f fd ps a) (G:cT P w K mg base GB k f fd ps b):cT P w K mg base GB k f fd ps (λhv vs H Q E=>a hv vs H Q E\/b hv vs H Q E) :=
 ⟨λhv vs H Q E h=>h.elim (F.len hv vs H Q E) (G.len hv vs H Q E),λA outer s H args us vs Q E hr e0 hb r h=>h.elim (F.run A outer s H args us vs Q E hr e0 hb r) (G.run A outer s H args us vs Q E hr e0 hb r)⟩
abbrev qi (CW CP CI CR CN:Addr):Option zz9->Sp:=λhv vs H Q E=>fK CW "web" hv vs H Q E\/fK CP "place" hv vs H Q E\/fK CI "tie" hv vs H Q E\/fK CR "tree" hv vs H Q E\/fK CN "number" hv vs H Q E
theorem Ask.cls {CW CP CI CR CN:Addr}{n:Int}{x y z u:V}{H:Hp}{C:Addr}{nm:Str} (h:Ask CW CP CI CR CN n x y z u H (some C) nm) {hv:Option zz9}{vs:List V}{H':Hp}{Q:VK}{E:XK} (g:fK C nm hv vs H' Q E):qi CW CP CI CR CN hv vs H' Q E:=by
 cases h with
 | web=>exact .inl g
 | place=>exact .inr (.inl g)
 | tie=>exact .inr (.inr (.inl g))
 | num=>exact .inr (.inr (.inr (.inr g)))
 | tree=>exact .inr (.inr (.inr (.inl g)))
theorem Ask.und {CW CP CI CR CN R:Addr}{n:Int}{x y z u:V}{H:Hp}{C:Addr}{nm:Str} (h:Ask CW CP CI CR CN n x y z u H (some C) nm) (hW:Under base CW R) (hP:Under base CP R) (hI:Under base CI R) (hT:Under base CR R) (hN:Under base CN R):Under base C R:=by
 cases h with
 | web=>exact hW
 | place=>exact hP
 | tie=>exact hI
 | num=>exact hN
 | tree=>exact hT
theorem Ask.none {CW CP CI CR CN:Addr}{n:Int}{x y z u:V}{H:Hp}{nm:Str} (h:Ask CW CP CI CR CN n x y z u H none nm):nm="told":=by
 cases h <;> rfl
def kO (CW CP CI CR CN:Addr):Sp:=λvs H Q _=>∃(n:Int) (x y z u:V) (o:Option Addr) (nm:Str),vs=[.int n,x,y,z,u]/\0<=n/\n<=5/\Ask CW CP CI CR CN n x y z u H o nm/\∀(q:Addr) (H':Hp),ag H H'->H' q=some (.tup [.str nm])->Q (.ref q) H'
abbrev N57:List Str:=["_law_which","_law_web_here","_law_root","_law_one","_law_other","_law_told","_law_e"]
theorem jU:aV N57 ["_law_which","_law_web_here","_law_root","_law_one","_law_other"] (aH (top 57)):=⟨rfl,rfl,rfl,by decide +kernel,rfl,by decide +kernel,by decide +kernel⟩
theorem vX (F:Gy K "_law_asked" "_law_asked" (top 57) f fd) (YY:mg "RootError"=some (.ref R)) (hR:dC base R) (hW:Under base CW R) (hP:Under base CP R) (hI:Under base CI R) (hT:Under base CR R) (hN:Under base CN R)
  (F1:Hj P w K mg base 7 "_law_call" ["_law_which","_law_web_here","_law_root","_law_one","_law_other"] (qw CW CP CI CR CN)) (F2:Uh P w K mg base 1 "_law_class" ["_law_e"] (qi CW CP CI CR CN)):au P w K mg base GB 8 f fd ["_law_which","_law_web_here","_law_root","_law_one","_law_other"] (kO CW CP CI CR CN):=by
 refine F.ok jU (λvs H Q E h=>?_) (λ_ _ _ _ H vs Q E hr h=>?_)
 ·obtain⟨n,x,y,z,u,o,nm,rfl,_⟩:=h
  rfl
 ·obtain⟨n,x,y,z,u,o,nm,rfl,n0,n5,ask,k⟩:=h
  have GP:aT 1 _:=hr.mono (by decide);refine' ⟨_,aj (aJ (i:=5) jU.nd rfl (Or.inl rfl) (br (aa bq ae))) (aj ?tr (aq (aG (pv 5)))),?main⟩
  case tr =>
   refine' xT (j:=6) ?t1 YY hR ?t2 jU.nd rfl rfl rfl rfl rfl
   case t1=>exact yq (yu F1 hr (aa (pv 0) (aa (pv 1) (aa (pv 2) (aa (pv 3) (aa (pv 4) ae))))))
   case t2=>exact λea=>aq (aJ (i:=5) jU.nd rfl (Or.inl rfl) (zW F2 ⟨GP.dp,GP.un,GP.gd⟩ (aa (pv 6) ae)))
  case main =>
  refine⟨by show 1<=sizeLine;decide,λq0 Vs=>?_⟩;have s0:=ao (o:=.tup [.str ("told":Str)]) (ag.refl H) Vs;have e0:upd H q0 (.tup [.str ("told":Str)]) q0=some (.tup [.str ("told":Str)]):=ak;generalize upd H q0 (.tup [.str ("told":Str)])=H0 at s0 e0 ⊢;refine⟨_,rfl,_,rfl,_,rfl,_,rfl,_,rfl,n,x,y,z,u,o,nm,rfl,n0,n5,ask.same s0,λho v H1 s1=>?_,λC hC H1 s1=>?_⟩
  ·subst ho
   have e:=ask.none;subst e;exact⟨_,rfl,k q0 H1 (s0.trans s1) (s1 _ _ e0)⟩
  ·subst hC
   refine⟨C,rfl,ask.und hW hP hI hT hN,λea ZG=>⟨_,rfl,ask.cls ⟨ea,none,rfl,rfl,ak,(λd z=>nomatch z),λq H3 s3 hq=>⟨_,rfl,k q H3 (s0.trans ((ao (o:=eQ ea C none) s1 ZG).trans s3)) hq⟩⟩⟩⟩
end
def cutD (ds:List PyData) (lo hi:Option Int):List PyData:=(ds.drop (HT.sIx ds.length 0 lo)).take (HT.sIx ds.length ds.length hi - HT.sIx ds.length 0 lo)
theorem Gv.cut {H:Hp}{xs:List V}{ds:List PyData} (h:Gv H xs ds) (lo hi:Option Int):Gv H (ce xs lo hi) (cutD ds lo hi):=by
 unfold ce cutD;rw [Gv.len h];exact Gv.take _ (Gv.drop _ h)
theorem Yd.slD {K:zz7}{te:TE}{σ:L2.St}{H:Hp}{ds:List PyData}{tlo thi:TO}{lo hi:Option Int} (h:Yd te σ H (Dv (.tuple ds))) (hl:∀(H:Hp) (Q:Option Int->Hp->Prop),Q lo H->tlo σ H Q) (hh:∀(H:Hp) (Q:Option Int->Hp->Prop),Q hi H->thi σ H Q):Yd (Uw (lU K) te tlo thi) σ H (Dv (.tuple (cutD ds lo hi))):=λH' s Q k=>h H' s _ λx H1 s1 hx=>hl _ _ (hh _ _ (by
 cases hx with
 | @tup a xs _ e q =>
  refine⟨a,xs,rfl,Gp.of e,λz=>?_,λp hp=>?_⟩
  ·have q':=Gv.cut q lo hi
   rw [z] at q';exact k _ _ s1 (.tup e q')
  ·have s2:=ao (o:=.tup (ce xs lo hi)) (ag.refl H1) hp
   exact k _ _ (s1.trans s2) (.tup ak (Gv.same s2 (Gv.cut q lo hi)))))
theorem Yd.cast {te:TE}{σ:L2.St}{H:Hp}{d d':PyData} (h:Yd te σ H (Dv d)) (e:d=d'):Yd te σ H (Dv d'):=by rw [<- e];exact h
theorem Yd.ixD {K:zz7}{te ti:TE}{σ:L2.St}{H:Hp}{ds:List PyData}{d:PyData}{i:Int}{j:Nat} (h:Yd te σ H (Dv (.tuple ds))) (hi:∀(H:Hp) (Q:VK),Q (.int i) H->ti σ H Q) (e:IR ds.length i=some j/\ds[j]?=some d):Yd (HZ (MS K) te ti) σ H (Dv d):=λH' s Q k=>h H' s _ λx H1 s1 hx=>hi _ _ (by
 cases hx with
 | @tup a xs _ e1 q =>
  have HJ:j < xs.length:=by rw [Gv.len q];exact (Ca.mp e.2).1
  obtain⟨d',Ie,dv⟩:=Gv.at q (B7 HJ);rw [e.2] at Ie;cases Ie
  exact .inr (.inl ⟨a,xs,i,xs[j],rfl,rfl,Gp.of e1,by unfold La;rw [Gv.len q,e.1];exact B7 HJ,k _ _ s1 dv⟩))
theorem cg.kp {lo hi:Int}{x:V}{H H':Hp}{p:Addr} (h:cg lo hi x H) (k:Kp [p] H H') (hp:GF H p):cg lo hi x H':=by
 rcases h with ⟨d,a,b,c⟩ | ⟨a,e,ha⟩
 ·exact .inl ⟨d,DV.kp k hp a b,b,c⟩
 ·exact .inr ⟨a,e,jd k hp ha⟩
theorem yU {lo hi:Int}{t:TE}{σ:St}{H:Hp}{d:PyData} (h:Yd t σ H (Dv d)) (ok:Gw d) (n:∀i,d=.int i->¬ (lo<=i/\i<=hi)):Yd t σ H (cg lo hi):=h.imp λx H' z=>.inl ⟨d,z,ok,n⟩
theorem Yd.pow {σ:St}{H:Hp} (i j:Int) (h:lX i j):Yd (HZ (rI lX λi j=>.int (i ^ j.toNat)) (tC (.int i)) (tC (.int j))) σ H (Dv (.int (i ^ j.toNat))):=λH' s Q k=>⟨i,j,rfl,rfl,h,k _ _ (ag.refl _) (.int _)⟩
theorem cg.keeps {lo hi:Int}:Keeps (cg lo hi):=λx H H' h s=>h.same s
theorem fX {a:PyData} (h:Gw a):Gw (.list [a]):=.lst _ (by simp) (by simpa using h) (by simp)
theorem rD {a b:PyData} (h:Gw a) (g:Gw b) (n:∀i j:Int,[a,b]≠[.int i,.int j]):Gw (.list [a,b]):=.lst _ (by simp) (by simp;exact⟨h,g⟩) n
theorem lJ {f:V->Hp->Prop} (kf:Keeps f) {t:TA}{K:zz7}{ti:TE}{σ:L2.St}{H:Hp}{Q:VK}{n:Nat} (h:Ya f t σ H n) (hn:n<=900) (k:∀(q:Addr) (xs:List V) (H':Hp),ag H H'->H' q=some (.lst xs)->(∀x∈xs,f x H')->xs.length=n->H q=none->ti σ H' (λy H2=>MS K (.ref q) y H2 Q)):HZ (MS K) (eB t) ti σ H Q :=
 h H (ag.refl _) _ λxs H1 s1 hx hl=>⟨CO (fits (by omega)),λq hq=>k q xs _ (ao s1 hq) ak (λx hm=>kf _ _ _ (hx x hm) (ao (ag.refl _) hq)) hl (s1.free hq)⟩
mutual
def Nf:PyData->Bool
 | .none=>true
 | .bool _=>true
 | .int _=>true
 | .str s=>decide (s.length<=100) && s.cps.all (· < 128)
 | .tuple ds=>decide (ds.length<=60) && iG ds
 | .list ds=>decide (ds.length<=60) && iG ds && decide (ds.length≠2)
 | .dict _=>false
def iG:List PyData->Bool
 | []=>true
 | d::ds=>Nf d && iG ds
end
mutual
theorem cQ:∀{d:PyData},Nf d=true->Gw d
 | .none,_=>.non
 | .bool b,_=>.bl b
 | .int i,_=>.int i
 | .str s,h=>by
  rw [Nf,CK] at h;exact .str s ⟨of_decide_eq_true h.1,h.2⟩
 | .tuple ds,h=>by
  rw [Nf,CK] at h;exact .tup ds (of_decide_eq_true h.1) (kX h.2)
 | .list ds,h=>by
  rw [Nf,CK,CK] at h;exact .lst ds (of_decide_eq_true h.1.1) (kX h.1.2) λi j e=>of_decide_eq_true h.2 (by rw [e];rfl)
 | .dict _,h=>by rw [Nf] at h;cases h
theorem kX:∀{ds:List PyData},iG ds=true->∀d∈ds,Gw d
 | [],_,d,hd=>nomatch hd
 | e::ds,h,d,hd=>by
  rw [iG,CK] at h
  rcases Ci.mp hd with z | z
  ·rw [z];exact cQ h.1
  ·exact kX h.2 d z
end
theorem MV {x y:Str} (h:¬ GM x y):¬ [x,y].Pairwise GM:=λz=>h ((DA.mp z).1 _ (Cw.mpr rfl))
section
variable {X:Cx}{es xs:List Expr}{t t1:TA}{te:TE}{k:Nat}{p:Pos}
theorem qS {s:Str} (h:PA X es t):PA X (.Constant (.str s) k p::es) (bN (tC (.str s)) t):=aa bq h jX
theorem qN (h:PA X es t):PA X (.Constant .none k p::es) (bN (tC .non) t):=aa eM h jX
theorem qI {i:Int} (h:PA X es t):PA X (.Constant (.int i) k p::es) (bN (tC (.int i)) t):=aa ai h jX
theorem qB {b:Bool} (h:PA X es t):PA X (.Constant (.bool b) k p::es) (bN (tC (.bl b)) t):=aa cb h jX
theorem qT (h1:PA X xs t1) (h:PA X es t):PA X (.Tuple xs k p::es) (bN (jP t1) t):=aa (br h1) h Bp
theorem qL (h1:PA X xs t1) (h:PA X es t):PA X (.List xs p::es) (bN (eB t1) t):=aa (bD h1) h AW
theorem qD (h:PA X es t):PA X (.Dict [] [] p::es) (bN lA t):=aa wu h sN
theorem qG {x:Str} (he:PE X (.Name x p) te) (h:PA X es t):PA X (.Name x p::es) (bN te t):=aa he h Bf
theorem qC {f:Expr}{as:List Expr}{ks:List Keyword} (he:PE X (.Call f as ks p) te) (h:PA X es t):PA X (.Call f as ks p::es) (bN te t):=aa he h Br
theorem qO {a b:Expr}{op:Operator} (he:PE X (.BinOp a op b p) te) (h:PA X es t):PA X (.BinOp a op b p::es) (bN te t):=aa he h AS
theorem qU {a b:Expr} (he:PE X (.Subscript a b p) te) (h:PA X es t):PA X (.Subscript a b p::es) (bN te t):=aa he h BG
theorem qM {a:Expr}{op:UnaryOp} (he:PE X (.UnaryOp op a p) te) (h:PA X es t):PA X (.UnaryOp op a p::es) (bN te t):=aa he h BC
theorem qE {ks:List (Option Expr)}{vs:List Expr} (he:PE X (.Dict ks vs p) te) (h:PA X es t):PA X (.Dict ks vs p::es) (bN te t):=aa he h sN
end
theorem yT {t:TA}{σ:L2.St}{H:Hp}{ds:List PyData} (h:Lb t σ H ds) (hn:ds.length<=60:=by simp):Yd (jP t) σ H (Dv (.tuple ds)):=Yd.tupD h hn
theorem yL {t:TA}{σ:L2.St}{H:Hp}{ds:List PyData} (h:Lb t σ H ds) (hn:ds.length<=60:=by simp):Yd (eB t) σ H (Dv (.list ds)):=Yd.lsD h hn
theorem aW {te:TE}{t:TA}{σ:L2.St}{H:Hp}{d:PyData}{n:Nat} (h:Yd te σ H (Dv d)) (b:c9 d=false) (r:Ya bE t σ H n) (ok:Gw d:=by exact cQ (by decide +kernel)):Ya bE (bN te t) σ H (n + 1):=Ya.cons bE.keeps (zb h ok b) r
theorem aP {ps:List Str}{te:TE}{t:TA}{σ:L2.St}{H:Hp}{d:PyData}{n:Nat} (h:Yd te σ H (Dv d)) (b:bV d ps=false) (r:Ya (bX ps) t σ H n) (ok:Gw d:=by exact cQ (by decide +kernel)):Ya (bX ps) (bN te t) σ H (n + 1):=Ya.cons bX.keeps (Al h ok b) r
theorem aN {lo hi:Int}{te:TE}{t:TA}{σ:L2.St}{H:Hp}{d:PyData}{n:Nat} (h:Yd te σ H (Dv d)) (b:∀i,d=.int i->¬ (lo<=i/\i<=hi)) (r:Ya (cg lo hi) t σ H n) (ok:Gw d:=by exact cQ (by decide +kernel)):Ya (cg lo hi) (bN te t) σ H (n + 1):=Ya.cons cg.keeps (yU h ok b) r
variable {P:Program}{w:World}{K:zz7}{mg:Str->Option zz9}{base:Heap}{f:Addr}{fd:FuncData}
def pN:Sp:=λvs H Q _=>∃(p v pa ra:Addr) (ps:List Str) (rs:List (Addr×Row)),vs=[.ref p,.ref v]/\GF H p/\bc H v pa ra ps rs/\Good ps (rs.map (·.2))/\ps.length<=8/\∀(x:V) (H':Hp),GF H' p->Kp [p] H H'->bE x H'->Q x H'
abbrev N51:List Str:=["_law_pot_here","_law_web_here","_law_some"]
theorem fY:aV N51 ["_law_pot_here","_law_web_here"] (aH (top 51)):=⟨rfl,rfl,rfl,by decide +kernel,rfl,by decide +kernel,by decide +kernel⟩
theorem vd (F:Gy K "_law_no_web" "_law_no_web" (top 51) f fd) (B:Bl mg) (Ft:Fn P w K mg base 1 "_law_digit" ["_law_pot_here","_law_many"] dZ):au P w K mg base GB 2 f fd ["_law_pot_here","_law_web_here"] pN:=by
 refine F.ok fY (λvs H Q E h=>?_) (λ_ _ _ _ H vs Q E hr h=>?_)
 ·obtain⟨p,v,pa,ra,ps,rs,rfl,_⟩:=h
  rfl
 ·obtain⟨p,v,pa,ra,ps,rs,rfl,hp,W,G,h8,k⟩:=h
  refine' ⟨_,?d0,?main⟩
  case' d0=>refine' aj ?s0 ?d1
  case' d1=>refine' aj ?s1 ?d2
  case' d2=>refine' aj ?s2 ?d3
  case' d3=>refine' aj ?s3 ?d4
  case' d4=>refine' aj ?s4 ?d5
  case' d5=>refine' aj ?s5 ?d6
  case d6=>exact aq (aG (aA aF (pv 2) (ar Ft hr (aa (pv 0) (aa (aD bu rfl B.len Ct (aa (pv 2) ae)) ae))) (λ_ _=>rfl)))
  case s0 =>
   refine' aJ (i:=2) ?kand ?kax ?kay ?kaz ?kahs ?kahf
   case kand=>exact fY.nd
   case kax=>exact rfl
   case kay=>exact Or.inl rfl
   case kahf=>first | exact .inl rfl | exact .inr rfl
   case' kaz=>refine' bD ?z1
   case' z1=>refine' qN ?z2
   case' z2=>refine' qI ?z3
   case' z3=>refine' qB ?z4
   case' z4=>refine' qS ?z5
   case' z5=>refine' qL ?z7 ?z6
   case z7=>exact ae
   case' z6=>refine' qD ?z8
   case' z8=>refine' qT ?z10 ?z9
   case z10=>exact ae
   case' z9=>refine' qT ?z12 ?z11
   case' z12=>refine' qT ?z14 ?z13
   case' z14=>refine' qS ?z15
   case z15=>exact ae
   case z13=>exact ae
   case' z11=>refine' qT ?z17 ?z16
   case' z17=>refine' qL ?z19 ?z18
   case' z19=>refine' qS ?z20
   case z20=>exact ae
   case' z18=>refine' qT ?z22 ?z21
   case z22=>exact ae
   case z21=>exact ae
   case' z16=>refine' qT ?z24 ?z23
   case' z24=>refine' qT ?z26 ?z25
   case' z26=>refine' qS ?z27
   case z27=>exact ae
   case' z25=>refine' qL ?z29 ?z28
   case z29=>exact ae
   case z28=>exact ae
   case' z23=>refine' qT ?z31 ?z30
   case' z31=>refine' qT ?z33 ?z32
   case' z33=>refine' qS ?z34
   case' z34=>refine' qS ?z35
   case z35=>exact ae
   case' z32=>refine' qT ?z37 ?z36
   case z37=>exact ae
   case z36=>exact ae
   case' z30=>refine' qT ?z39 ?z38
   case' z39=>refine' qT ?z41 ?z40
   case' z41=>refine' qS ?z42
   case' z42=>refine' qS ?z43
   case z43=>exact ae
   case' z40=>refine' qT ?z45 ?z44
   case z45=>exact ae
   case z44=>exact ae
   case z38=>exact ae
   case kahs=>kernel_rfl
  case s1 =>
   refine' aJ (i:=2) ?kbnd ?kbx ?kby ?kbz ?kbhs ?kbhf
   case kbnd=>exact fY.nd
   case kbx=>exact rfl
   case kby=>exact Or.inl rfl
   case kbhf=>first | exact .inl rfl | exact .inr rfl
   case' kbz=>refine' aK ?z47 ?z48 (bD ?z46)
   case z47=>exact dH
   case z48=>exact pv 2
   case' z46=>refine' qT ?z50 ?z49
   case' z50=>refine' qT ?z52 ?z51
   case z52=>exact ae
   case' z51=>refine' qT ?z54 ?z53
   case z54=>exact ae
   case z53=>exact ae
   case' z49=>refine' qT ?z56 ?z55
   case' z56=>refine' qT ?z58 ?z57
   case' z58=>refine' qS ?z59
   case z59=>exact ae
   case' z57=>refine' qT ?z61 ?z60
   case' z61=>refine' qT ?z63 ?z62
   case' z63=>refine' qS ?z64
   case' z64=>refine' qS ?z65
   case' z65=>refine' qS ?z66
   case z66=>exact ae
   case z62=>exact ae
   case z60=>exact ae
   case' z55=>refine' qT ?z68 ?z67
   case' z68=>refine' qT ?z70 ?z69
   case' z70=>refine' qS ?z71
   case' z71=>refine' qS ?z72
   case z72=>exact ae
   case' z69=>refine' qT ?z74 ?z73
   case' z74=>refine' qT ?z76 ?z75
   case' z76=>refine' qS ?z77
   case' z77=>refine' qS ?z78
   case' z78=>refine' qS ?z79
   case z79=>exact ae
   case z75=>exact ae
   case z73=>exact ae
   case' z67=>refine' qT ?z81 ?z80
   case' z81=>refine' qT ?z83 ?z82
   case' z83=>refine' qS ?z84
   case' z84=>refine' qS ?z85
   case z85=>exact ae
   case' z82=>refine' qT ?z87 ?z86
   case z87=>exact ae
   case z86=>exact ae
   case z80=>exact ae
   case kbhs=>kernel_rfl
  case s2 =>
   refine' aJ (i:=2) ?kcnd ?kcx ?kcy ?kcz ?kchs ?kchf
   case kcnd=>exact fY.nd
   case kcx=>exact rfl
   case kcy=>exact Or.inl rfl
   case kchf=>first | exact .inl rfl | exact .inr rfl
   case' kcz=>refine' aK ?z89 ?z90 (bD ?z88)
   case z89=>exact dH
   case z90=>exact pv 2
   case' z88=>refine' qT ?z92 ?z91
   case' z92=>refine' qT ?z94 ?z93
   case' z94=>refine' qS ?z95
   case' z95=>refine' qS ?z96
   case z96=>exact ae
   case' z93=>refine' qT ?z98 ?z97
   case' z98=>refine' qT ?z100 ?z99
   case' z100=>refine' qS ?z101
   case' z101=>refine' qS ?z102
   case' z102=>refine' qS ?z103
   case z103=>exact ae
   case' z99=>refine' qT ?z105 ?z104
   case' z105=>refine' qS ?z106
   case' z106=>refine' qS ?z107
   case' z107=>refine' qS ?z108
   case z108=>exact ae
   case z104=>exact ae
   case z97=>exact ae
   case' z91=>refine' qT ?z110 ?z109
   case' z110=>refine' qT ?z112 ?z111
   case' z112=>refine' qS ?z113
   case' z113=>refine' qS ?z114
   case z114=>exact ae
   case' z111=>refine' qT ?z116 ?z115
   case' z116=>refine' qL ?z118 ?z117
   case' z118=>refine' qS ?z119
   case' z119=>refine' qS ?z120
   case' z120=>refine' qS ?z121
   case z121=>exact ae
   case z117=>exact ae
   case z115=>exact ae
   case' z109=>refine' qT ?z123 ?z122
   case' z123=>refine' qT ?z125 ?z124
   case' z125=>refine' qS ?z126
   case' z126=>refine' qS ?z127
   case z127=>exact ae
   case' z124=>refine' qT ?z129 ?z128
   case z129=>exact ae
   case z128=>exact ae
   case z122=>exact ae
   case kchs=>kernel_rfl
  case s3 =>
   refine' aJ (i:=2) ?kdnd ?kdx ?kdy ?kdz ?kdhs ?kdhf
   case kdnd=>exact fY.nd
   case kdx=>exact rfl
   case kdy=>exact Or.inl rfl
   case kdhf=>first | exact .inl rfl | exact .inr rfl
   case' kdz=>refine' aK ?z131 ?z132 (bD ?z130)
   case z131=>exact dH
   case z132=>exact pv 2
   case' z130=>refine' qT ?z134 ?z133
   case' z134=>refine' qT ?z136 ?z135
   case' z136=>refine' qS ?z137
   case' z137=>refine' qS ?z138
   case z138=>exact ae
   case' z135=>refine' qT ?z140 ?z139
   case' z140=>refine' qT ?z142 ?z141
   case' z142=>refine' qS ?z143
   case' z143=>refine' qS ?z144
   case z144=>exact ae
   case z141=>exact ae
   case z139=>exact ae
   case' z133=>refine' qT ?z146 ?z145
   case' z146=>refine' qT ?z148 ?z147
   case' z148=>refine' qS ?z149
   case' z149=>refine' qS ?z150
   case z150=>exact ae
   case' z147=>refine' qT ?z152 ?z151
   case' z152=>refine' qT ?z154 ?z153
   case' z154=>refine' qS ?z155
   case' z155=>refine' qS ?z156
   case' z156=>refine' qS ?z157
   case z157=>exact ae
   case' z153=>refine' qT ?z159 ?z158
   case' z159=>refine' qS ?z160
   case' z160=>refine' qS ?z161
   case' z161=>refine' qS ?z162
   case z162=>exact ae
   case z158=>exact ae
   case z151=>exact ae
   case' z145=>refine' qT ?z164 ?z163
   case' z164=>refine' qT ?z166 ?z165
   case' z166=>refine' qS ?z167
   case z167=>exact ae
   case' z165=>refine' qT ?z169 ?z168
   case z169=>exact ae
   case z168=>exact ae
   case z163=>exact ae
   case kdhs=>kernel_rfl
  case s4 =>
   refine' aJ (i:=2) ?kend ?kex ?key ?kez ?kehs ?kehf
   case kend=>exact fY.nd
   case kex=>exact rfl
   case key=>exact Or.inl rfl
   case kehf=>first | exact .inl rfl | exact .inr rfl
   case' kez=>refine' aK ?z171 ?z172 (bD ?z170)
   case z171=>exact dH
   case z172=>exact pv 2
   case' z170=>refine' qT ?z174 ?z173
   case' z174=>refine' qT ?z176 ?z175
   case' z176=>refine' qS ?z177
   case' z177=>refine' qS ?z178
   case z178=>exact ae
   case' z175=>refine' qT ?z180 ?z179
   case' z180=>refine' qT ?z182 ?z181
   case' z182=>refine' qS ?z183
   case' z183=>refine' qS ?z184
   case' z184=>refine' qN ?z185
   case z185=>exact ae
   case z181=>exact ae
   case z179=>exact ae
   case' z173=>refine' qT ?z187 ?z186
   case' z187=>refine' qT ?z189 ?z188
   case' z189=>refine' qS ?z190
   case' z190=>refine' qS ?z191
   case z191=>exact ae
   case' z188=>refine' qT ?z193 ?z192
   case' z193=>refine' qT ?z195 ?z194
   case' z195=>refine' qS ?z196
   case' z196=>refine' qS ?z197
   case' z197=>refine' qS ?z198
   case z198=>exact ae
   case z194=>exact ae
   case z192=>exact ae
   case' z186=>refine' qT ?z200 ?z199
   case' z200=>refine' qT ?z202 ?z201
   case' z202=>refine' qS ?z203
   case' z203=>refine' qI ?z204
   case z204=>exact ae
   case' z201=>refine' qT ?z206 ?z205
   case z206=>exact ae
   case z205=>exact ae
   case' z199=>refine' qL ?z208 ?z207
   case' z208=>refine' qT ?z210 ?z209
   case' z210=>refine' qS ?z211
   case z211=>exact ae
   case' z209=>refine' qT ?z213 ?z212
   case z213=>exact ae
   case z212=>exact ae
   case z207=>exact ae
   case kehs=>kernel_rfl
  case s5 =>
   refine' aJ (i:=2) ?kfnd ?kfx ?kfy ?kfz ?kfhs ?kfhf
   case kfnd=>exact fY.nd
   case kfx=>exact rfl
   case kfy=>exact Or.inl rfl
   case kfhf=>first | exact .inl rfl | exact .inr rfl
   case' kfz=>refine' aK ?z215 ?z216 (bD ?z214)
   case z215=>exact dH
   case z216=>exact pv 2
   case' z214=>refine' qT ?z218 ?z217
   case' z218=>refine' qC ?z220 ?z219
   case z220=>exact cP gS rfl B.list iu (aa (aA aF (pv 1) (ai) (λ_ _=>rfl)) ae)
   case' z219=>refine' qU ?z222 ?z221
   case z222=>exact aA aF (pv 1) (ai) (λ_ _=>rfl)
   case z221=>exact ae
   case' z217=>refine' qT ?z224 ?z223
   case' z224=>refine' qU ?z226 ?z225
   case z226=>exact aA aF (pv 1) (ai) (λ_ _=>rfl)
   case' z225=>refine' qC ?z228 ?z227
   case z228=>exact cP gS rfl B.list iu (aa (aA aF (pv 1) (ai) (λ_ _=>rfl)) ae)
   case z227=>exact ae
   case' z223=>refine' qC ?z230 ?z229
   case z230=>exact cP gS rfl B.list iu (aa (pv 1) ae)
   case' z229=>refine' qO ?z232 ?z231
   case' z232=>refine' aK dF ?z233 ?z234
   case z233=>exact pv 1
   case' z234=>refine' br ?z235
   case' z235=>refine' qT ?z237 ?z236
   case z237=>exact ae
   case z236=>exact ae
   case' z231=>refine' qT ?z239 ?z238
   case' z239=>refine' qU ?z241 ?z240
   case z241=>exact aA aF (pv 1) (ai) (λ_ _=>rfl)
   case' z240=>refine' qU ?z243 ?z242
   case z243=>exact aA aF (pv 1) (ai) (λ_ _=>rfl)
   case' z242=>refine' qT ?z245 ?z244
   case z245=>exact ae
   case z244=>exact ae
   case z238=>exact ae
   case kfhs=>kernel_rfl
  case main =>
   have hz:(rs.map cL).length<=60:=by have:=G.rz;simpa using this
   have kP:Gw (.tuple (ps.map PyData.str)):=iR G.nm (by omega);have kR:Gw (.tuple (rs.map cL)):=.tup _ hz (kg G)
   have YJ:Gw (.list (ps.map PyData.str)):=.lst _ (by simp;omega) (λd hd=>by obtain⟨x,hx,rfl⟩:=Cg.mp hd;exact cV (G.nm x hx)) (λi j e=>by
    cases ps with
    | nil=>simp at e
    | cons a b=>simp at e)
   have YI:Gw (.list (rs.map cL)):=.lst _ hz (kg G) (λi j e=>by
    cases rs with
    | nil=>simp at e
    | cons r t=>simp at e)
   have NA:Yd (bv 1) [some (.ref p),some (.ref v),none] H (Dv (fj ps rs)):=Yd.var rfl λH' z=>(W.same (z)).dv;have HM:Ya bE bY [some (.ref p),some (.ref v),none] H 0:=.nil;have HN:=aW (yT (.cons (yT (.cons (Yd.s "a") (.cons (Yd.s "a") .nil))) (.cons (yT .nil) .nil))) (Ll (NZ (ss:=[Str.ofString "a",Str.ofString "a"]) (MV (by unfold GM;decide +kernel)))) HM;have HP:=aW (yT (.cons (yT (.cons (Yd.s "b") (.cons (Yd.s "a") .nil))) (.cons (yT .nil) .nil))) (Ll (NZ (ss:=[Str.ofString "b",Str.ofString "a"]) (MV (by unfold GM;decide +kernel)))) HN;have Kl:=aW (yT (.cons (yT (.cons (Yd.s "a") .nil)) (.cons (yL .nil) .nil))) (Ur rfl) HP;have Km:=aW (yT (.cons (yL (.cons (Yd.s "a") .nil)) (.cons (yT .nil) .nil))) (Ll rfl) Kl;have Kn:=aW (yT (.cons (yT (.cons (Yd.s "a") .nil)) .nil)) (gY (by simp)) Km;have Ko:=aW (yT .nil) (gY (by simp)) Kn;have Kq:=Ya.cons bE.keeps (gZ (f:=bE) λp H z=>.inr ⟨p,rfl,z⟩) Ko;have Kr:=aW (yL .nil) rfl Kq;have Ks:=aW (Yd.s "web") rfl Kr;have Kt:=aW (Yd.b true) rfl Ks;have Ku:=aW (Yd.i 7) rfl Kt;have Kv:=aW Yd.n rfl Ku;refine lr bE.keeps Kv (by decide) λq1 x1 H1 s1 h1 t1 l1 n1=>?_;have yw1:Yd (bv 1) [some (.ref p),some (.ref v),some (.ref q1)] H1 (Dv (fj ps rs)):=Yd.var rfl λH' z=>(W.same (s1.trans z)).dv;have NJ:Ya bE bY [some (.ref p),some (.ref v),some (.ref q1)] H1 0:=.nil;have NK:=aW (yT (.cons (yT (.cons (Yd.s "") (.cons (Yd.s "a") .nil))) (.cons (yT .nil) .nil))) (Ll (PD Cf (by decide +kernel))) NJ;have NL:=aW (yT (.cons (yT (.cons (Yd.s "a") (.cons (Yd.s "b") .nil))) (.cons (yT (.cons (yT (.cons (Yd.s "t") (.cons (Yd.s "a") (.cons (Yd.s "c") .nil)))) .nil)) .nil))) (MQ (Cw.mpr rfl) (by decide +kernel)) NK;have NM:=aW (yT (.cons (yT (.cons (Yd.s "a") .nil)) (.cons (yT (.cons (yT (.cons (Yd.s "t") (.cons (Yd.s "a") (.cons (Yd.s "a") .nil)))) .nil)) .nil))) (MQ (Cw.mpr rfl) (by decide +kernel)) NL;have NN:=aW (yT (.cons (yT .nil) (.cons (yT .nil) .nil))) (WN rfl) NM;refine gz bE.keeps (ys:=x1) rfl h1 t1 NN (by omega) λq2 x2 H2 z2 h2 t2 l2 m2=>?_;have s2:=s1.trans z2;have n2:H q2=none:=s1.free m2;have yw2:Yd (bv 1) [some (.ref p),some (.ref v),some (.ref q2)] H2 (Dv (fj ps rs)):=Yd.var rfl λH' z=>(W.same (s2.trans z)).dv;have Xf:Ya bE bY [some (.ref p),some (.ref v),some (.ref q2)] H2 0:=.nil;have QW:=aW (yT (.cons (yT (.cons (Yd.s "A") (.cons (Yd.s "a") .nil))) (.cons (yT .nil) .nil))) (Ll (PD Cf (by decide +kernel))) Xf;have QX:=aW (yT (.cons (yT (.cons (Yd.s "a") (.cons (Yd.s "b") .nil))) (.cons (yT (.cons (yL (.cons (Yd.s "t") (.cons (Yd.s "a") (.cons (Yd.s "b") .nil)))) .nil)) .nil))) (MQ (Cw.mpr rfl) rfl) QW;have QY:=aW (yT (.cons (yT (.cons (Yd.s "a") (.cons (Yd.s "b") .nil))) (.cons (yT (.cons (yT (.cons (Yd.s "t") (.cons (Yd.s "a") (.cons (Yd.s "b") .nil)))) (.cons (yT (.cons (Yd.s "s") (.cons (Yd.s "a") (.cons (Yd.s "b") .nil)))) .nil))) .nil))) (Uq (MV (x:=Str.ofString "t") (y:=Str.ofString "s") (by unfold GM;decide +kernel))) QX;refine gz bE.keeps (ys:=x2) rfl h2 t2 QY (by omega) λq3 x3 H3 z3 h3 t3 l3 m3=>?_;have s3:=s2.trans z3;have n3:H q3=none:=s2.free m3;have yw3:Yd (bv 1) [some (.ref p),some (.ref v),some (.ref q3)] H3 (Dv (fj ps rs)):=Yd.var rfl λH' z=>(W.same (s3.trans z)).dv;have Xb:Ya bE bY [some (.ref p),some (.ref v),some (.ref q3)] H3 0:=.nil;have Xc:=aW (yT (.cons (yT (.cons (Yd.s "abcdefghi") .nil)) (.cons (yT .nil) .nil))) (Ll (PD Cf (by decide +kernel))) Xb;have Xd:=aW (yT (.cons (yT (.cons (Yd.s "a") (.cons (Yd.s "b") .nil))) (.cons (yT (.cons (yT (.cons (Yd.s "t") (.cons (Yd.s "a") (.cons (Yd.s "b") .nil)))) (.cons (yT (.cons (Yd.s "t") (.cons (Yd.s "b") (.cons (Yd.s "a") .nil)))) .nil))) .nil))) (Uq (MV (x:=Str.ofString "t") (y:=Str.ofString "t") (by unfold GM;decide +kernel))) Xc;have Xe:=aW (yT (.cons (yT (.cons (Yd.s "a") (.cons (Yd.s "b") .nil))) (.cons (yT (.cons (yT (.cons (Yd.s "t") (.cons (Yd.s "a") .nil))) .nil)) .nil))) (MQ (Cw.mpr rfl) (by decide +kernel)) Xd;refine gz bE.keeps (ys:=x3) rfl h3 t3 Xe (by omega) λq4 x4 H4 z4 h4 t4 l4 m4=>?_;have s4:=s3.trans z4;have n4:H q4=none:=s3.free m4;have yw4:Yd (bv 1) [some (.ref p),some (.ref v),some (.ref q4)] H4 (Dv (fj ps rs)):=Yd.var rfl λH' z=>(W.same (s4.trans z)).dv;have WY:Ya bE bY [some (.ref p),some (.ref v),some (.ref q4)] H4 0:=.nil;have WZ:=aW (yL (.cons (yT (.cons (Yd.s "a") .nil)) (.cons (yT .nil) .nil))) rfl WY (rD (cQ (by decide +kernel)) jS (by simp));have W0:=aW (yT (.cons (yT (.cons (Yd.s "a") (.cons (Yd.i 1) .nil))) (.cons (yT .nil) .nil))) (Ll (PD (Cj _ Cf) (by decide +kernel))) WZ;have W4:=aW (yT (.cons (yT (.cons (Yd.s "a") (.cons (Yd.s "b") .nil))) (.cons (yT (.cons (yT (.cons (Yd.s "t1") (.cons (Yd.s "a") (.cons (Yd.s "b") .nil)))) .nil)) .nil))) (MQ (Cw.mpr rfl) (by decide +kernel)) W0;have Xa:=aW (yT (.cons (yT (.cons (Yd.s "a") (.cons (Yd.s "b") .nil))) (.cons (yT (.cons (yT (.cons (Yd.s "t") (.cons (Yd.s "a") (.cons Yd.n .nil)))) .nil)) .nil))) (MQ (Cw.mpr rfl) (by decide +kernel)) W4;refine gz bE.keeps (ys:=x4) rfl h4 t4 Xa (by omega) λq5 x5 H5 z5 h5 t5 l5 m5=>?_;have s5:=s4.trans z5;have n5:H q5=none:=s4.free m5;have Lj:Yd (bv 1) [some (.ref p),some (.ref v),some (.ref q5)] H5 (Dv (fj ps rs)):=Yd.var rfl λH' z=>(W.same (s5.trans z)).dv;have WS:Ya bE bY [some (.ref p),some (.ref v),some (.ref q5)] H5 0:=.nil;have WT:=aW (yT (.cons (Yd.ixD (K:=K) (ti:=tC (.int 0)) (j:=0) (i:=0) Lj (λ_ _ q=>q) ⟨rfl,rfl⟩) (.cons (Yd.ixD (K:=K) (ti:=tC (.int 1)) (j:=1) (i:=1) Lj (λ_ _ q=>q) ⟨rfl,rfl⟩) (.cons (yT .nil) .nil)))) (gY (by simp)) WS (sL kP kR jS);have WU:=aW (Yd.catD (K:=K) Lj (yT (.cons (yT .nil) .nil)) (by first | (simp;done) | (simp;omega))) (gY (by simp)) WT (sL kP kR jS);have WV:=aW (Yd.lsO (K:=K) Lj) rfl WU (rD kP kR (by simp));have WW:=aW (yT (.cons (Yd.ixD (K:=K) (ti:=tC (.int 0)) (j:=0) (i:=0) Lj (λ_ _ q=>q) ⟨rfl,rfl⟩) (.cons (Yd.lsO (K:=K) (Yd.ixD (K:=K) (ti:=tC (.int 1)) (j:=1) (i:=1) Lj (λ_ _ q=>q) ⟨rfl,rfl⟩)) .nil))) (Ur rfl) WV (eD kP YI);have WX:=aW (yT (.cons (Yd.lsO (K:=K) (Yd.ixD (K:=K) (ti:=tC (.int 0)) (j:=0) (i:=0) Lj (λ_ _ q=>q) ⟨rfl,rfl⟩)) (.cons (Yd.ixD (K:=K) (ti:=tC (.int 1)) (j:=1) (i:=1) Lj (λ_ _ q=>q) ⟨rfl,rfl⟩) .nil))) (Ll rfl) WW (eD YJ kR);refine gz bE.keeps (ys:=x5) rfl h5 t5 WX (by omega) λq6 x6 H6 z6 h6 t6 l6 m6=>?_;have s6:=s5.trans z6;have n6:H q6=none:=s5.free m6;have Jn:q6≠p:=λz=>by obtain⟨i,j,e,_⟩:=hp;rw [<- z,n6] at e;cases e
   have P1:=hp.same s6;refine⟨_,rfl,_,rfl,_,rfl,q6,_,rfl,.inl (Gq.of h6),p,_,rfl,P1,by omega,by omega,λi Ug b0 b1 P2 K2=>?_⟩;have hi:i.toNat < x6.length:=by omega
   refine aE (j:=i.toNat) (.inl (Gq.of (K2.at Jn h6))) (by omega) (B7 hi) ?_;exact k _ Ug P2 ((Kp.same s6).trans K2) ((t6 _ (Cu hi)).kp K2 P1)
def m7:Sp:=λvs H Q _=>∃(p v pa ra:Addr) (ps:List Str) (rs:List (Addr×Row)),vs=[.ref p,.ref v]/\GF H p/\bc H v pa ra ps rs/\Good ps (rs.map (·.2))/\ps.length<=8/\Str.ofString "qq"∉ps/\∀(x:V) (H':Hp),GF H' p->Kp [p] H H'->bX ps x H'->Q x H'
abbrev N52:List Str:=["_law_pot_here","_law_web_here","_law_some"]
theorem sF:aV N52 ["_law_pot_here","_law_web_here"] (aH (top 52)):=⟨rfl,rfl,rfl,by decide +kernel,rfl,by decide +kernel,by decide +kernel⟩
theorem tY (F:Gy K "_law_no_place" "_law_no_place" (top 52) f fd) (B:Bl mg) (Ft:Fn P w K mg base 1 "_law_digit" ["_law_pot_here","_law_many"] dZ):au P w K mg base GB 2 f fd ["_law_pot_here","_law_web_here"] m7:=by
 refine F.ok sF (λvs H Q E h=>?_) (λ_ _ _ _ H vs Q E hr h=>?_)
 ·obtain⟨p,v,pa,ra,ps,rs,rfl,_⟩:=h
  rfl
 ·obtain⟨p,v,pa,ra,ps,rs,rfl,hp,W,G,h8,Js,k⟩:=h
  refine' ⟨_,aj ?s0 ?d1,?main⟩
  case d1=>exact aq (aG (aA aF (pv 2) (ar Ft hr (aa (pv 0) (aa (aD bu rfl B.len Ct (aa (pv 2) ae)) ae))) (λ_ _=>rfl)))
  case s0 =>
   refine' aJ (i:=2) ?kand ?kax ?kay ?kaz ?kahs ?kahf
   case kand=>exact sF.nd
   case kax=>exact rfl
   case kay=>exact Or.inl rfl
   case kahf=>first | exact .inl rfl | exact .inr rfl
   case' kaz=>refine' bD ?z1
   case' z1=>refine' qN ?z2
   case' z2=>refine' qI ?z3
   case' z3=>refine' qB ?z4
   case' z4=>refine' qS ?z5
   case' z5=>refine' qS ?z6
   case' z6=>refine' qS ?z7
   case' z7=>refine' qS ?z8
   case' z8=>refine' qL ?z10 ?z9
   case' z10=>refine' qU ?z12 ?z11
   case z12=>exact aA aF (aA aF (pv 1) (ai) (λ_ _=>rfl)) (ai) (λ_ _=>rfl)
   case z11=>exact ae
   case' z9=>refine' qT ?z14 ?z13
   case' z14=>refine' qU ?z16 ?z15
   case z16=>exact aA aF (aA aF (pv 1) (ai) (λ_ _=>rfl)) (ai) (λ_ _=>rfl)
   case z15=>exact ae
   case' z13=>refine' qT ?z18 ?z17
   case z18=>exact ae
   case' z17=>refine' qD ?z19
   case' z19=>refine' qO ?z21 ?z20
   case z21=>exact aK fD (aA aF (aA aF (pv 1) (ai) (λ_ _=>rfl)) (ai) (λ_ _=>rfl)) (bq)
   case' z20=>refine' qU ?z23 ?z22
   case z23=>exact aA aF (pv 1) (ai) (λ_ _=>rfl)
   case z22=>exact ae
   case kahs=>kernel_rfl
  case main =>
   have hz:(rs.map cL).length<=60:=by have:=G.rz;simpa using this
   have kP:Gw (.tuple (ps.map PyData.str)):=iR G.nm (by omega);have kR:Gw (.tuple (rs.map cL)):=.tup _ hz (kg G);obtain⟨p0,pr,Jt⟩:∃p0 pr,ps=p0::pr:=by
    cases ps with
    | nil=>exact absurd rfl G.ne
    | cons a b=>exact⟨a,b,rfl⟩
   have LF:ba p0:=G.nm p0 (by rw [Jt];simp);have LH:=LF.hi;have kF:Gw (.str p0):=cV LF;have O9:IR (ps.map PyData.str).length 0=some 0:=by rw [Jt];exact eY (by simp)
   have TJ:(ps.map PyData.str)[0]?=some (.str p0):=by rw [Jt];rfl
   have n1:bV (.str (Str.ofString "")) ps=false:=ip G.nm λz=>by have:=z.lo;revert this;decide +kernel
   have nq:bV (.str (Str.ofString "qq")) ps=false:=decide_eq_false Js;have n3:bV (.str (Str.ofString "A")) ps=false:=ip G.nm λz=>by have:=z.az 65 (by decide +kernel);revert this;decide
   have n4:bV (.str (Str.ofString "abcdefghi")) ps=false:=ip G.nm λz=>by have:=z.hi;revert this;decide +kernel
   have n5:bV (.str (p0++Str.ofString " ")) ps=false:=ip G.nm λz=>by
    have:=z.az 32 (by rw [EW,EE];exact Cv _ (by decide +kernel))
    revert this;decide
   have kt:Gw (.str (p0++Str.ofString " ")):=.str _ ⟨by rw [FW,show (Str.ofString " ").length=1 by decide +kernel];omega,by
    have:=LF.ascii;rw [EW,Array.all_append,this]
    decide +kernel⟩
   have NA:Yd (bv 1) [some (.ref p),some (.ref v),none] H (Dv (fj ps rs)):=Yd.var rfl λH' z=>(W.same z).dv;have LZ:Ya (bX ps) bY [some (.ref p),some (.ref v),none] H 0:=.nil;have HM:=aP (Yd.ixD (K:=K) (ti:=tC (.int 0)) (j:=0) (i:=0) NA (λ_ _ q=>q) ⟨rfl,rfl⟩) rfl LZ kP;have HN:=aP (Yd.addS (Yd.ixD (K:=K) (ti:=tC (.int 0)) (j:=0) (i:=0) (Yd.ixD (K:=K) (ti:=tC (.int 0)) (j:=0) (i:=0) NA (λ_ _ q=>q) ⟨rfl,rfl⟩) (λ_ _ q=>q) ⟨O9,TJ⟩) (Str.ofString " ") (by rw [show (Str.ofString " ").length=1 by decide +kernel];omega)) n5 HM kt;have HP:=Ya.cons bX.keeps (gZ (f:=bX ps) λp H z=>.inr ⟨p,rfl,z⟩) HN;have Kl:=aP (yT .nil) rfl HP;have Km:=aP (yT (.cons (Yd.ixD (K:=K) (ti:=tC (.int 0)) (j:=0) (i:=0) (Yd.ixD (K:=K) (ti:=tC (.int 0)) (j:=0) (i:=0) NA (λ_ _ q=>q) ⟨rfl,rfl⟩) (λ_ _ q=>q) ⟨O9,TJ⟩) .nil)) rfl Kl (by repeat (first | assumption | exact cQ (by decide +kernel) | apply dN | apply eD | apply fX));have Kn:=aP (yL (.cons (Yd.ixD (K:=K) (ti:=tC (.int 0)) (j:=0) (i:=0) (Yd.ixD (K:=K) (ti:=tC (.int 0)) (j:=0) (i:=0) NA (λ_ _ q=>q) ⟨rfl,rfl⟩) (λ_ _ q=>q) ⟨O9,TJ⟩) .nil)) rfl Km (by repeat (first | assumption | exact cQ (by decide +kernel) | apply dN | apply eD | apply fX));have Ko:=aP (Yd.s "abcdefghi") n4 Kn;have Kq:=aP (Yd.s "A") n3 Ko;have Kr:=aP (Yd.s "qq") nq Kq;have Ks:=aP (Yd.s "") n1 Kr;have Kt:=aP (Yd.b true) rfl Ks;have Ku:=aP (Yd.i 7) rfl Kt;have Kv:=aP Yd.n rfl Ku;refine lr bX.keeps Kv (by decide) λq1 x1 H1 s1 h1 t1 l1 n1=>?_;have Jn:q1≠p:=λz=>by obtain⟨i,j,e,_⟩:=hp;rw [<- z,n1] at e;cases e
   have P1:=hp.same s1;refine⟨_,rfl,_,rfl,_,rfl,q1,_,rfl,.inl (Gq.of h1),p,_,rfl,P1,by omega,by omega,λi Ug b0 b1 P2 K2=>?_⟩;have hi:i.toNat < x1.length:=by omega
   refine aE (j:=i.toNat) (.inl (Gq.of (K2.at Jn h1))) (by omega) (B7 hi) ?_;exact k _ Ug P2 ((Kp.same s1).trans K2) ((t1 _ (Cu hi)).kp K2 P1)
theorem AQ {hi:Int} (h:hi<=62) (z:(0:Int)<=-1/\(-1:Int)<=hi):False:=by omega
theorem Bt {hi:Int} (h:hi<=62) (z:(0:Int)<=26 ^ (8:Int).toNat/\(26:Int) ^ (8:Int).toNat<=hi):False:=by
 have e:(26:Int) ^ (8:Int).toNat=208827064576:=by decide +kernel
 rw [e] at z;omega
theorem A1 {hi:Int} (h:hi<=62) (z:(0:Int)<=10 ^ (29:Int).toNat/\(10:Int) ^ (29:Int).toNat<=hi):False:=by
 have e:(10:Int) ^ (29:Int).toNat=100000000000000000000000000000:=by decide +kernel
 rw [e] at z;omega
theorem Ar {hi:Int} (h:hi<=62) (z:(0:Int)<=-(10 ^ (29:Int).toNat)/\-((10:Int) ^ (29:Int).toNat)<=hi):False:=by
 have e:(10:Int) ^ (29:Int).toNat=100000000000000000000000000000:=by decide +kernel
 rw [e] at z;omega
def o6:Sp:=λvs H Q _=>∃(p:Addr) (hi:Int),vs=[.ref p]/\GF H p/\hi<=62/\∀(x:V) (H':Hp),GF H' p->Kp [p] H H'->cg 0 hi x H'->Q x H'
theorem Bx:aV ["_law_pot_here"] ["_law_pot_here"] (aH (top 60)):=⟨rfl,rfl,rfl,by decide +kernel,rfl,by decide +kernel,by decide +kernel⟩
theorem tK (F:Gy K "_law_no_number" "_law_no_number" (top 60) f fd) (B:Bl mg) (Ft:Fn P w K mg base 1 "_law_digit" ["_law_pot_here","_law_many"] dZ):au P w K mg base GB 2 f fd ["_law_pot_here"] o6:=by
 refine F.ok Bx (λvs H Q E h=>?_) (λ_ _ _ _ H vs Q E hr h=>?_)
 ·obtain⟨p,hi,rfl,_⟩:=h
  rfl
 ·obtain⟨p,hi,rfl,hp,O2,k⟩:=h
  refine' ⟨_,aq (aG (aA aF (bD ?kal0) (ar Ft hr (aa (pv 0) (aa ai ae))) ?hh)),?main⟩
  case hh=>exact λ_ _=>rfl
  case' kal0=>refine' qM ?z2 ?z1
  case z2=>exact gG gC (ai)
  case' z1=>refine' qN ?z3
  case' z3=>refine' qB ?z4
  case' z4=>refine' qB ?z5
  case' z5=>refine' qS ?z6
  case' z6=>refine' qT ?z8 ?z7
  case' z8=>refine' qI ?z9
  case z9=>exact ae
  case' z7=>refine' qL ?z11 ?z10
  case' z11=>refine' qI ?z12
  case z12=>exact ae
  case' z10=>refine' qD ?z13
  case' z13=>refine' qO ?z15 ?z14
  case z15=>exact aK jA ai ai
  case' z14=>refine' qO ?z17 ?z16
  case z17=>exact aK jA ai ai
  case' z16=>refine' qM ?z19 ?z18
  case z19=>exact gG gC (aK jA ai ai)
  case' z18=>refine' qT ?z21 ?z20
  case z21=>exact ae
  case z20=>exact ae
  case main =>
   have HM:Ya (cg 0 hi) bY [some (.ref p)] H 0:=.nil;have HN:=aN (yT .nil) (λi e z=>by cases e) HM;have HP:=aN (Yd.neg (Yd.pow 10 29 ⟨by decide,by decide,by decide⟩)) (λi e z=>by cases e;exact Ar O2 z) HN (.int _);have Kl:=aN (Yd.pow 10 29 ⟨by decide,by decide,by decide⟩) (λi e z=>by cases e;exact A1 O2 z) HP (.int _);have Km:=aN (Yd.pow 26 8 ⟨by decide,by decide,by decide⟩) (λi e z=>by cases e;exact Bt O2 z) Kl (.int _);have Kn:=Ya.cons cg.keeps (gZ (f:=cg 0 hi) λp H z=>.inr ⟨p,rfl,z⟩) Km;have Ko:=aN (yL (.cons (Yd.i 0) .nil)) (λi e z=>by cases e) Kn;have Kq:=aN (yT (.cons (Yd.i 0) .nil)) (λi e z=>by cases e) Ko;have Kr:=aN (Yd.s "0") (λi e z=>by cases e) Kq;have Ks:=aN (Yd.b false) (λi e z=>by cases e) Kr;have Kt:=aN (Yd.b true) (λi e z=>by cases e) Ks;have Ku:=aN Yd.n (λi e z=>by cases e) Kt;have Kv:=aN (Yd.neg (Yd.i 1)) (λi e z=>by cases e;exact AQ O2 z) Ku (.int _);refine lJ cg.keeps Kv (by decide) λq xs H2 s2 q2 t2 hl n1=>?_;have Jn:q≠p:=λz=>by obtain⟨i,j,e,_⟩:=hp;rw [<- z,n1] at e;cases e
   have P1:=hp.same s2;refine⟨_,rfl,p,12,rfl,P1,by decide,by decide,λi H3 b0 b1 P2 K2=>?_⟩;have Il:i.toNat < xs.length:=by omega
   refine aE (j:=i.toNat) (.inl (Gq.of (K2.at Jn q2))) (by omega) (B7 Il) ?_;exact k _ H3 P2 ((Kp.same s2).trans K2) ((t2 _ (Cu Il)).kp K2 P1)
def dm (x:V) (H:Hp):Prop:=∃d,DV H x d/\Gw d/\(bA d=false\/d=.str (Str.ofString "qq"))
theorem vV {ps:List Str}{rs:List (Addr×Row)} (hn:∀x∈ps,ba x) (h:∀r∈rs,ba r.2.1/\r.2.2.1∈ps/\r.2.2.2∈ps):PyData.canLayAll0 (rs.map cL)=true/\PyData.depthAll (rs.map cL)<=1:=by
 induction rs with
 | nil=>exact⟨rfl,by decide⟩
 | cons r t ih =>
  have q:=ih λy hy=>h y (Cj _ hy);obtain⟨h1,h2,h3⟩:=h r Cf;rw [CD];have e1:PyData.canLay0 (cL r)=true:=by
   simp only [PyData.canLay0,PyData.canLayAll0,i7 h1,i7 (hn _ h2),i7 (hn _ h3)];rfl
  have e2:PyData.depth (cL r)=1:=by simp only [PyData.depth,PyData.depthAll];rfl
  simp only [PyData.canLayAll0,PyData.depthAll,e1,e2,q.1];exact⟨rfl,Nat.max_le.mpr ⟨Cc _,q.2⟩⟩
theorem tZ {ps:List Str}{rs:List (Addr×Row)} (G:Good ps (rs.map (·.2))):SeqAt.shaped (.tuple (rs.map cL))=true:=by
 have q:=vV G.nm (rs:=rs) λr hr=>by
  obtain⟨a,b,c,_⟩:=G.rn r.2 (Co hr);exact⟨a,b,c⟩
 unfold SeqAt.shaped;simp only [PyData.canLay0,PyData.depth,q.1];simp;omega
theorem oI {f:V->Hp->Prop} (kf:Keeps f) {t:TA}{g:TG}{D:Ends}{σ:L2.St}{H:Hp}{n i:Nat}{q:Addr}{ys:List V} (hi:σ[i]?=some (some (.ref q))) (hq:H q=some (.lst ys)) (hy:∀x∈ys,f x H) (h:Ya f t σ H n) (hn:ys.length + n<=900)
  (k:∀(p:Addr) (xs:List V) (H':Hp),ag H H'->H' p=some (.lst xs)->(∀x∈xs,f x H')->xs.length=ys.length + n->H p=none->g (.ref p) σ H' D.nx):fq (HZ jT (bv i) (eB t)) g D σ H :=
 gz kf (u:=λD=>D.nx) hi hq hy h hn k
theorem dm.keeps:Keeps dm:=λx H H' ⟨d,h1,h2,h3⟩ s=>⟨d,DV.same s h1,h2,h3⟩
theorem dm.kp {x:V}{H H':Hp}{p:Addr} (h:dm x H) (k:Kp [p] H H') (hp:GF H p):dm x H':=by
 obtain⟨d,h1,h2,h3⟩:=h;exact⟨d,DV.kp k hp h1 h2,h2,h3⟩
theorem zI {t:TE}{σ:L2.St}{H:Hp}{d:PyData} (h:Yd t σ H (Dv d)) (ok:Gw d) (n:bA d=false\/d=.str (Str.ofString "qq")):Yd t σ H dm:=h.imp λx H' z=>⟨d,z,ok,n⟩
theorem bL.keeps {nm:List Str}:Keeps (bL nm):=λx H H' h s=>h.same s
theorem bL.kp {nm:List Str}{x:V}{H H':Hp}{p:Addr} (h:bL nm x H) (k:Kp [p] H H') (hp:GF H p):bL nm x H':=by
 rcases h with ⟨d,h1,h2,h3⟩ | ⟨a,kvs,h1,h2⟩
 ·exact .inl ⟨d,DV.kp k hp h1 h2,h2,h3⟩
 ·exact .inr ⟨a,kvs,h1,k a _ h2 λz=>by
   obtain⟨i,j,e,_⟩:=hp;rw [Cw.mp z,e] at h2
   cases h2⟩
theorem bI.keeps {ps nm:List Str}{root:Str}:Keeps (bI ps nm root):=λx H H' h s=>h.same s
theorem bI.kp {ps nm:List Str}{root:Str}{x:V}{H H':Hp}{p:Addr} (h:bI ps nm root x H) (k:Kp [p] H H') (hp:GF H p):bI ps nm root x H':=by
 rcases h with ⟨d,h1,h2,h3⟩ | ⟨a,h1,h2⟩
 ·exact .inl ⟨d,DV.kp k hp h1 h2,h2,h3⟩
 ·exact .inr ⟨a,h1,jd k hp h2⟩
theorem xx {nm:List Str}{t:TE}{σ:L2.St}{H:Hp}{d:PyData} (h:Yd t σ H (Dv d)) (ok:Gw d) (n:iF nm d=false):Yd t σ H (bL nm):=h.imp λx H' z=>.inl ⟨d,z,ok,n⟩
theorem xG {ps nm:List Str}{root:Str}{t:TE}{σ:L2.St}{H:Hp}{d:PyData} (h:Yd t σ H (Dv d)) (ok:Gw d) (n:gF ps nm root d):Yd t σ H (bI ps nm root):=h.imp λx H' z=>.inl ⟨d,z,ok,n⟩
theorem aO {te:TE}{t:TA}{σ:L2.St}{H:Hp}{d:PyData}{n:Nat} (h:Yd te σ H (Dv d)) (b:bA d=false\/d=.str (Str.ofString "qq")) (r:Ya dm t σ H n) (ok:Gw d:=by exact cQ (by decide +kernel)):Ya dm (bN te t) σ H (n + 1):=Ya.cons dm.keeps (zI h ok b) r
theorem aI {nm:List Str}{te:TE}{t:TA}{σ:L2.St}{H:Hp}{d:PyData}{n:Nat} (h:Yd te σ H (Dv d)) (b:iF nm d=false) (r:Ya (bL nm) t σ H n) (ok:Gw d:=by exact cQ (by decide +kernel)):Ya (bL nm) (bN te t) σ H (n + 1):=Ya.cons bL.keeps (xx h ok b) r
theorem aR {ps nm:List Str}{root:Str}{te:TE}{t:TA}{σ:L2.St}{H:Hp}{d:PyData}{n:Nat} (h:Yd te σ H (Dv d)) (b:gF ps nm root d) (r:Ya (bI ps nm root) t σ H n) (ok:Gw d:=by exact cQ (by decide +kernel)):Ya (bI ps nm root) (bN te t) σ H (n + 1):=Ya.cons bI.keeps (xG h ok b) r
theorem gs {nm:List Str}{ds:List PyData}{e:PyData} (he:e∈ds) (h:bV e nm=false):iF nm (.tuple ds)=false:=by
 show (ds.all λe=>bV e nm)=false;rw [E4];exact⟨e,he,by rw [h];exact Cs⟩
theorem uV {nm:List Str}{d:PyData} (hn:∀x∈nm,ba x) (hq:Str.ofString "qq"∉nm) (h:bA d=false\/d=.str (Str.ofString "qq")):bV d nm=false:=by
 rcases h with h | rfl
 ·cases d with
  | str s =>
   refine decide_eq_false λz=>?_;have:bA (.str s)=true:=gT.mpr (hn s z);rw [h] at this;cases this
  | _=>rfl
 ·exact decide_eq_false hq
theorem fG {ps nm:List Str}{root:Str}{ds:List PyData}{e:PyData} (he:e∈ds) (hq:Str.ofString "qq"∉nm) (h:bA e=false\/e=.str (Str.ofString "qq")):gF ps nm root (.tuple ds):=by
 cases c:bU (.tuple ds) with
 | false=>exact .inl c
 | true =>
  obtain⟨ss,e1,hn,hp⟩:=mI c;refine .inr ⟨ss,e1,hn,hp,.inl ⟨Str.ofString "qq",?_,hq⟩⟩;have e2:ds=ss.map PyData.str:=PyData.tuple.inj e1;rw [e2] at he;obtain⟨x,hx,rfl⟩:=Cg.mp he
  rcases h with h | h
  ·have:bA (.str x)=true:=gT.mpr (hn x hx)
   rw [h] at this;cases this
  ·rw [<- PyData.str.inj h];exact hx
theorem pO (ds:List PyData) {m:Nat} (h:m<=ds.length):cutD ds none (some (m:Int))=ds.take m:=by
 unfold cutD;rw [HT.BK,HT.BN,EG h,Gk,Nat.sub_zero]
theorem j5 (ds:List PyData) {m:Nat} (h:m<=ds.length):cutD ds (some (m:Int)) none=ds.drop m:=by
 unfold cutD;rw [HT.BK,HT.BN,EG h];exact Df (by simp)
theorem oi {K:zz7}{H:Hp}{a:Addr}{xs:List V}{lo hi:Option Int}{Q:VK} (ha:H a=some (.tup xs)) (k:∀(g:Addr) (H':Hp),ag H H'->H' g=some (.tup (ce xs lo hi))->Q (.ref g) H'):lU K (.ref a) lo hi H Q :=
 ⟨a,xs,rfl,Gp.of ha,λe=>k a H (ag.refl _) (by rw [e];exact ha),λp hp=>k p _ (ao (ag.refl _) hp) ak⟩
def ll:Sp:=λvs H Q _=>∃(p g:Addr) (o:V) (ds:List PyData) (d:PyData),vs=[.ref p,.ref g,o]/\GF H p/\DV H (.ref g) (.tuple ds)/\(∀d∈ds,Gw d)/\ds.length<=50/\DV H o d/\Gw d/\∀(x:V) (i:Nat) (H':Hp),GF H' p->Kp [p] H H'->i<=ds.length->DV H' x (.tuple (ds.take i++[d]++ds.drop i))->Q x H'
abbrev N53:List Str:=["_law_pot_here","_law_good","_law_odd","_law_at"]
theorem sH:aV N53 ["_law_pot_here","_law_good","_law_odd"] (aH (top 53)):=⟨rfl,rfl,rfl,by decide +kernel,rfl,by decide +kernel,by decide +kernel⟩
theorem xR (F:Gy K "_law_amid" "_law_amid" (top 53) f fd) (B:Bl mg) (Ft:Fn P w K mg base 1 "_law_digit" ["_law_pot_here","_law_many"] dZ):au P w K mg base GB 2 f fd ["_law_pot_here","_law_good","_law_odd"] ll:=by
 refine F.ok sH (λvs H Q E h=>?_) (λ_ _ _ _ H vs Q E hr h=>?_)
 ·obtain⟨p,g,o,ds,d,rfl,_⟩:=h
  rfl
 ·obtain⟨p,g,o,ds,d,rfl,hp,dg,Io,hl,dod,hd,k⟩:=h
  refine' ⟨_,aj (aJ (i:=3) sH.nd rfl (Or.inl rfl) (ar Ft hr (aa (pv 0) (aa (aK dJ (aD bu rfl B.len Ct (aa (pv 1) ae)) ai) ae)))) (aq (aG ?e)),?main⟩
  case' e=>refine' aK dF ?e1 ?e2
  case' e1=>refine' aK dF ?e3 ?e4
  case e3=>exact cy cW (pv 1) cB (ck (pv 3))
  case e4=>exact br (aa (pv 2) ae)
  case e2=>exact cy cW (pv 1) (ck (pv 3)) cB
  case main =>
  cases dg with
  | @tup _ xs _ e q =>
   have KO:=Gv.len q;refine⟨_,rfl,_,rfl,g,_,rfl,.inr (Gp.of e),_,_,rfl,rfl,p,_,rfl,hp,by omega,by omega,λr H1 r0 r1 P1 K1=>?_⟩;obtain⟨m,rfl⟩:∃m:Nat,r=(m:Int):=⟨r.toNat,by omega⟩
   have hm:m<=ds.length:=by omega
   have e1:DV H1 (.ref g) (.tuple ds):=DV.kp K1 hp (.tup e q) (.tup _ (by omega) Io);have o1:=DV.kp K1 hp dod hd;have yg:Yd (bv 1) [some (.ref p),some (.ref g),some o,some (.int m)] H1 (Dv (.tuple ds)):=Yd.var rfl λH' s=>DV.same s e1;have yo:Yd (bv 2) [some (.ref p),some (.ref g),some o,some (.int m)] H1 (Dv d):=Yd.var rfl λH' s=>DV.same s o1;have y1:=Yd.cast (Yd.slD (K:=K) (tlo:=dG) (thi:=dz (bv 3)) (lo:=none) (hi:=some (m:Int)) yg (λ_ _ q=>q) (λ_ _ q=>⟨_,rfl,_,rfl,q⟩)) (congrArg PyData.tuple (pO ds hm));have y2:=Yd.cast (Yd.slD (K:=K) (tlo:=dz (bv 3)) (thi:=dG) (lo:=some (m:Int)) (hi:=none) yg (λ_ _ q=>⟨_,rfl,_,rfl,q⟩) (λ_ _ q=>q)) (congrArg PyData.tuple (j5 ds hm));have y3:=Yd.catD (K:=K) (Yd.catD (K:=K) y1 (Yd.tupD (.cons yo .nil) (by simp)) (by simp;omega)) y2 (by simp;omega);exact y3 H1 (ag.refl _) _ λx H2 s2 hx=>k x m H2 (P1.same s2) (K1.of_same s2) hm hx
theorem w5 {nm:List Str}{σ:L2.St}{H:Hp}{i:Nat}{x:Str} (h:σ[i]?=some (some (.str x))):Yd (rq [(bv i,tC (.bl true))]) σ H (bL nm):=λH' s Q k=>by
 intro D hD;refine⟨_,h,ak,[(.inr x,.bl true)],rfl,by simp,?_⟩;exact k _ _ (ag.upd0 (ao (ag.refl H') hD) hD) (.inr ⟨D,_,rfl,ak⟩)
def nD:Sp:=λvs H Q _=>∃(p v pa ra:Addr) (ps:List Str) (rs:List T),vs=[.ref p,.ref v]/\GF H p/\bc H v pa ra ps rs/\Good ps (rs.map (·.2))/\rs.length<=40/\Str.ofString "qq"∉GA rs/\∀(x:V) (H':Hp),GF H' p->Kp [p] H H'->bL (GA rs) x H'->Q x H'
abbrev N54:List Str:=["_law_pot_here","_law_web_here","_law_good","_law_amid_here","_law_some","_law_tie"]
theorem gP:aV N54 ["_law_pot_here","_law_web_here"] (aH (top 54)):=⟨rfl,rfl,rfl,by decide +kernel,rfl,by decide +kernel,by decide +kernel⟩
theorem ut (F:Gy K "_law_no_ties" "_law_no_ties" (top 54) f fd) (B:Bl mg) (Ft:Fn P w K mg base 1 "_law_digit" ["_law_pot_here","_law_many"] dZ) (Fa:Fn P w K mg base 2 "_law_amid" ["_law_pot_here","_law_good","_law_odd"] ll):au P w K mg base GB 3 f fd ["_law_pot_here","_law_web_here"] nD:=by
 refine F.ok gP (λvs H Q E h=>?_) (λ_ _ _ _ H vs Q E hr h=>?_)
 ·obtain⟨p,v,pa,ra,ps,rs,rfl,_⟩:=h
  rfl
 ·obtain⟨p,v,pa,ra,ps,rs,rfl,hp,W,G,h40,Js,k⟩:=h
  have GP:aT 1 _:=hr.mono (by decide);refine' ⟨_,?d0,?main⟩
  case' d0=>refine' aj (aJ (i:=2) gP.nd rfl (Or.inl rfl) (cy cW ?a0 cB (ck (aK dJ ai ?a1)))) ?d1
  case a0=>exact cP fz rfl B.tuple cA (aa (bS (N:=["_law_row"]) (ix:=[none]) ⟨rfl,rfl,rfl,by decide⟩ rfl (bW (aA aF (pv 1) ai (λ_ _=>rfl))) (λ_ _ _ _=>bj 0 (by decide) rfl rfl) (λ_ _ _ _=>bR) (λ_ _ _ _=>aA (b7 K) (pv 0) ai (λ_ _=>rfl))) ae)
  case a1=>exact ar Ft GP (aa (pv 0) (aa ai ae))
  case' d1=>refine' aj (aJ (i:=3) gP.nd rfl (Or.inl rfl) (ar Fa hr (aa (pv 0) (aa (pv 2) (aa (aA aF (bD ?kzl0) (ar Ft GP (aa (pv 0) (aa ai ae))) ?zh) ae))))) ?d2
  case' kzl0=>refine' qS ?z1
  case' z1=>refine' qN ?z2
  case' z2=>refine' qI ?z3
  case' z3=>refine' qB ?z4
  case' z4=>refine' qS ?z5
  case' z5=>refine' qT ?z7 ?z6
  case z7=>exact ae
  case' z6=>refine' qL ?z9 ?z8
  case z9=>exact ae
  case z8=>exact ae
  case zh=>exact λ_ _=>rfl
  case' d2=>refine' aj ?s0 ?d3
  case s0 =>
   refine' aJ (i:=4) ?kand ?kax ?kay ?kaz ?kahs ?kahf
   case kand=>exact gP.nd
   case kax=>exact rfl
   case kay=>exact Or.inl rfl
   case kahf=>first | exact .inl rfl | exact .inr rfl
   case' kaz=>refine' bD ?z10
   case' z10=>refine' qG ?z12 ?z11
   case z12=>exact pv 3
   case' z11=>refine' qG ?z14 ?z13
   case z14=>exact pv 3
   case' z13=>refine' qG ?z16 ?z15
   case z16=>exact pv 3
   case' z15=>refine' qN ?z17
   case' z17=>refine' qI ?z18
   case' z18=>refine' qB ?z19
   case' z19=>refine' qS ?z20
   case' z20=>refine' qL ?z22 ?z21
   case' z22=>refine' qS ?z23
   case z23=>exact ae
   case' z21=>refine' qT ?z25 ?z24
   case' z25=>refine' qS ?z26
   case z26=>exact ae
   case' z24=>refine' qT ?z28 ?z27
   case' z28=>refine' qN ?z29
   case z29=>exact ae
   case' z27=>refine' qT ?z31 ?z30
   case' z31=>refine' qT ?z33 ?z32
   case z33=>exact ae
   case z32=>exact ae
   case' z30=>refine' qD ?z34
   case' z34=>refine' qL ?z36 ?z35
   case z36=>exact ae
   case' z35=>refine' qT ?z38 ?z37
   case' z38=>refine' qL ?z40 ?z39
   case z40=>exact ae
   case z39=>exact ae
   case' z37=>refine' qT ?z42 ?z41
   case' z42=>refine' qS ?z43
   case z43=>exact ae
   case z41=>exact ae
   case kahs=>kernel_rfl
  case' d3=>refine' aj (aQ (aU (cS hr) (aA aF (pv 1) ai (λ_ _=>rfl)) (br ae) (aM _)) (aj ?s1 (aq ?s2)) aS) ?d4
  case s1=>exact aJ (i:=5) gP.nd rfl (Or.inl rfl) (aA aF (aA aF (aA aF (pv 1) ai (λ_ _=>rfl)) (ar Ft GP (aa (pv 0) (aa (aD bu rfl B.len Ct (aa (aA aF (pv 1) ai (λ_ _=>rfl)) ae)) ae))) (λ_ _=>rfl)) ai (λ_ _=>rfl))
  case s2 =>
   refine' aJ (i:=4) ?kbnd ?kbx ?kby ?kbz ?kbhs ?kbhf
   case kbnd=>exact gP.nd
   case kbx=>exact rfl
   case kby=>exact Or.inl rfl
   case kbhf=>first | exact .inl rfl | exact .inr rfl
   case' kbz=>refine' aK ?z45 ?z46 (bD ?z44)
   case z45=>exact dH
   case z46=>exact pv 4
   case' z44=>refine' qG ?z48 ?z47
   case z48=>exact pv 5
   case' z47=>refine' qL ?z50 ?z49
   case' z50=>refine' qG ?z52 ?z51
   case z52=>exact pv 5
   case z51=>exact ae
   case' z49=>refine' qT ?z54 ?z53
   case' z54=>refine' qG ?z56 ?z55
   case z56=>exact pv 5
   case' z55=>refine' qS ?z57
   case z57=>exact ae
   case' z53=>refine' qT ?z59 ?z58
   case' z59=>refine' qT ?z61 ?z60
   case' z61=>refine' qG ?z63 ?z62
   case z63=>exact pv 5
   case z62=>exact ae
   case z60=>exact ae
   case' z58=>refine' qE ?z65 ?z64
   case z65=>exact pI (oq (pv 5) cb oN) rfl rfl (by simp) (by decide)
   case z64=>exact ae
   case kbhs=>kernel_rfl
  case d4=>exact aq (aG (aA aF (pv 4) (ar Ft GP (aa (pv 0) (aa (aD bu rfl B.len Ct (aa (pv 4) ae)) ae))) (λ_ _=>rfl)))
  case main =>
   have PU:∀x∈GA rs,ba x:=λx hx=>by
    obtain⟨r,hr,rfl⟩:=Cg.mp hx;exact (G.rn r.2 (Co hr)).1
   have nq:bV (.str (Str.ofString "qq")) (GA rs)=false:=decide_eq_false Js;have ne:bV (.str (Str.ofString "")) (GA rs)=false:=ip PU λz=>by have:=z.lo;revert this;decide +kernel
   refine⟨_,rfl,aE (j:=1) (.inr (Gp.of W.tp)) rfl rfl ⟨ra,rfl,⟨_,Gp.of W.rl⟩,eX (xs:=aw rs) (fits (by simp;omega)) (λi ys σ H1=>ys=((rs.take i).map λr=>V.str r.2.1)/\H1=H/\∃x,σ=[x]) ⟨rfl,rfl,_,rfl⟩
    (λi ys σ H1 _ q=>⟨by rw [q.1];simp;omega,by rw [q.2.1];exact Gp.of W.rl⟩) ?_ ?_⟩⟩
   ·rintro i x ys σ H1 hx ⟨rfl,rfl,z,rfl⟩
    obtain⟨r,Gz,rfl⟩:=cG hx;have hm:=Cb Gz;exact⟨_,rfl,aE (j:=0) (.inr (Gp.of (W.rows r hm))) rfl rfl ⟨(dE _ _ _ _ Gz).symm,rfl,_,rfl⟩⟩
   rintro ys σ H1 ⟨rfl,rfl,z,rfl⟩ q hq;have e:((rs.take (aw rs).length).map λr=>V.str r.2.1)=(GA rs).map V.str:=by
    rw [take_all rs (by simp),CH];rfl
   rw [e];refine⟨q,_,rfl,.inl ⟨Gq.of ak,λtq Y3=>?_⟩⟩;have s2:=ao (o:=.tup ((GA rs).map V.str)) (ao (o:=.lst ((GA rs).map V.str)) (ag.refl H1) hq) Y3;have t2:upd (upd H1 q (.lst ((GA rs).map V.str))) tq (.tup ((GA rs).map V.str)) tq=some (.tup ((GA rs).map V.str)):=ak;generalize upd (upd H1 q (.lst ((GA rs).map V.str))) tq (.tup ((GA rs).map V.str))=H2 at s2 t2 ⊢;have P2:=hp.same s2;refine⟨_,rfl,p,3,rfl,P2,by decide,by decide,λr3 H3 c0 c1 P3 K3=>⟨_,_,rfl,rfl,_,rfl,?_⟩⟩;refine oi (K3.tup P2 t2) λg H4 s4 g4=>?_;have K4:Kp [p] H1 H4:=((Kp.same s2).trans K3).of_same s4;have P4:=P3.same s4;obtain⟨ss,Qg,GH,JS⟩:∃ss:List Str,H4 g=some (.tup (ss.map V.str))/\(∀x∈ss,x∈GA rs)/\ss.length<=40:=by
    refine⟨((GA rs).drop (HT.sIx ((GA rs).map V.str).length 0 none)).take (HT.sIx ((GA rs).map V.str).length ((GA rs).map V.str).length (some (1 + r3)) - HT.sIx ((GA rs).map V.str).length 0 none),?_,λx hx=>Ed (Dq hx),?_⟩
    ·rw [g4];unfold ce;rw [<- List.map_drop,<- FO]
    ·rw [Dc,Ey]
     have:(GA rs).length=rs.length:=by simp [GA]
     omega
   clear g4 s4 K3 P3 t2 s2 P2;have Lk:∀d∈ss.map PyData.str,Gw d:=λd hd=>by
    obtain⟨x,hx,rfl⟩:=Cg.mp hd;exact cV (PU x (GH x hx))
   have QO:Ya dm bY [some (.ref p),some (.ref v),some (.ref g),none,none,none] H4 0:=.nil;have QP:=aO (yL .nil) (.inl rfl) QO;have QQ:=aO (yT .nil) (.inl rfl) QP;have QR:=aO (Yd.s "") (.inl (by decide +kernel)) QQ;have QS:=aO (Yd.b true) (.inl rfl) QR;have QT:=aO (Yd.i 7) (.inl rfl) QS;have QU:=aO Yd.n (.inl rfl) QT;have QV:=aO (Yd.s "qq") (.inr rfl) QU;refine⟨_,rfl,_,rfl,lJ dm.keeps QV (by decide) λq5 xs H5 s5 Rw t5 l5 n5=>?_⟩;have Jn:q5≠p:=λz=>by obtain⟨i,j,e,_⟩:=P4;rw [<- z,n5] at e;cases e
   have P5:=P4.same s5;refine⟨_,rfl,p,7,rfl,P5,by decide,by decide,λi H6 b0 b1 P6 K6=>?_⟩;have hi:i.toNat < xs.length:=by omega
   refine aE (j:=i.toNat) (.inl (Gq.of (K6.at Jn Rw))) (by omega) (B7 hi) ?_;obtain⟨d,Rz,Of,PN⟩:=(t5 _ (Cu hi)).kp K6 P5;have oa:=uV PU Js PN;have K46:Kp [p] H1 H6:=(K4.of_same s5).trans K6;refine⟨p,g,xs[i.toNat],ss.map PyData.str,d,rfl,P6,.tup (K6.tup P5 (s5 _ _ Qg)) (Gv.strs ss),Lk,by simp;omega,Rz,Of,λam m H7 P7 K7 hm TR=>?_⟩;have Pi:Kp [p] H1 H7:=K46.trans K7;have ka:Gw (.tuple ((ss.map PyData.str).take m++[d]++(ss.map PyData.str).drop m)):=.tup _ (by simp;omega) λx hx=>by
    rcases Ck.mp hx with z | z
    ·rcases Ck.mp z with z | z
     ·exact Lk x (Dq z)
     ·rw [Cw.mp z];exact Of
    ·exact Lk x (Ed z)
   have W7:bc H7 v pa ra ps rs:=⟨Pi.tup hp W.tp,Pi.tup hp W.pl,Pi.tup hp W.rl,λr hr=>Pi.tup hp (W.rows r hr)⟩
   have y7:Yd (bv 3) [some (.ref p),some (.ref v),some (.ref g),some am,none,none] H7 (Dv (.tuple ((ss.map PyData.str).take m++[d]++(ss.map PyData.str).drop m))):=Yd.var rfl λH' s=>DV.same s TR;have Q0:Ya (bL (GA rs)) bY [some (.ref p),some (.ref v),some (.ref g),some am,none,none] H7 0:=.nil;have Q1:=aI (yT (.cons (Yd.s "") .nil)) (gs (e:=.str (Str.ofString "")) (by simp) ne) Q0;have LZ:=aI (yT (.cons (yL .nil) .nil)) rfl Q1;have HM:=aI (yL .nil) rfl LZ;have HN:=Ya.cons bL.keeps (gZ (f:=bL (GA rs)) λp H z=>.inr ⟨p,_,rfl,z⟩) HM;have HP:=aI (yT (.cons (yT .nil) .nil)) rfl HN;have Kl:=aI (yT (.cons Yd.n .nil)) rfl HP;have Km:=aI (yT (.cons (Yd.s "qq") .nil)) (gs (e:=.str (Str.ofString "qq")) (by simp) nq) Kl;have Kn:=aI (yL (.cons (Yd.s "qq") .nil)) rfl Km;have Ko:=aI (Yd.s "qq") rfl Kn;have Kq:=aI (Yd.b true) rfl Ko;have Kr:=aI (Yd.i 7) rfl Kq;have Ks:=aI Yd.n rfl Kr;have Kt:=aI y7 (gs (CM _ (Cv _ (Cw.mpr rfl))) oa) Ks ka;have Ku:=aI y7 (gs (CM _ (Cv _ (Cw.mpr rfl))) oa) Kt ka;have Kv:=aI y7 (gs (CM _ (Cv _ (Cw.mpr rfl))) oa) Ku ka;refine lr bL.keeps Kv (by decide) λq8 x8 H8 s8 h8 t8 l8 n8=>?_;have W8:=W7.same s8;refine iD (λσ H9=>∃(g5:Option V) (q:Addr) (xs:List V),σ=[some (.ref p),some (.ref v),some (.ref g),some am,some (.ref q),g5]/\GF H9 p/\Kp [p] H7 H9/\H9 q=some (.lst xs)/\(∀x∈xs,bL (GA rs) x H9)/\0 < xs.length/\xs.length < 100/\q≠p) (λN key=>?_) ?_
   ·refine⟨_,rfl,aE (j:=1) (.inr (Gp.of W8.tp)) rfl rfl ⟨Cz _,λMJ S2=>?_⟩⟩
    have s9:=ao (o:=.tup []) (ag.refl H8) S2;have e9:upd H8 MJ (.tup []) MJ=some (.tup []):=ak;generalize upd H8 MJ (.tup [])=H9 at s9 e9 ⊢;have JH:=s8.trans s9;have W9:=W7.same JH;have UU:q8≠p:=λz=>by obtain⟨i,j,e,_⟩:=P7;rw [<- z,n8] at e;cases e
    have P9:=P7.same JH;refine⟨.tuple (rs.map cL),.tuple [],.tup W9.rl (kK W9.rows),.tup e9 .nil,tZ G,by decide,_,rfl,?_⟩
    by_cases SD:rs=[]
    ·have ev:PyData.eqv (.tuple (rs.map cL)) (.tuple [])=true:=by rw [SD];rfl
     rw [ev];exact aL (key _ _ ⟨_,q8,x8,rfl,P9,Kp.same JH,s9 _ _ h8,λx hx=>(t8 x hx).same s9,by omega,by omega,UU⟩)
    ·have ev:PyData.eqv (.tuple (rs.map cL)) (.tuple [])=false:=by
      cases rs with
      | nil=>exact absurd rfl SD
      | cons a b=>rfl
     rw [ev];have GV:0 < rs.length:=Ek.mpr SD;refine aB ⟨_,rfl,aE (j:=1) (.inr (Gp.of W9.tp)) rfl rfl ⟨_,rfl,_,rfl,aE (j:=1) (.inr (Gp.of W9.tp)) rfl rfl ⟨ra,_,rfl,.inr (Gp.of W9.rl),p,_,rfl,P9,by simp;omega,by simp;omega,λr Hs b0 b1 Iq G3=>?_⟩⟩⟩;have Gz:r.toNat < rs.length:=by simp at b1;omega
     refine aE (j:=r.toNat) (v:=.ref rs[r.toNat].1) (.inr (Gp.of (G3.tup P9 W9.rl))) (by omega) (by rw [Cd,B7 Gz];rfl) ?_;have Jq:rs[r.toNat]∈rs:=Cu Gz;have GD:=G3.tup P9 (W9.rows _ Jq);refine aE (j:=0) (.inr (Gp.of GD)) rfl rfl ?_;have Vl:ba rs[r.toNat].2.1:=PU _ (Co (f:=λz:T=>z.2.1) Jq);generalize rs[r.toNat].2.1=ti at Vl ⊢;have kti:Gw (.str ti):=cV Vl;have Ua:Kp [p] H7 Hs:=(Kp.same JH).trans G3;have yt:Yd (bv 5) [some (.ref p),some (.ref v),some (.ref g),some am,some (.ref q8),some (.str ti)] Hs (Dv (.str ti)):=Yd.var rfl λH' s=>.str ti;have QZ:Ya (bL (GA rs)) bY [some (.ref p),some (.ref v),some (.ref g),some am,some (.ref q8),some (.str ti)] Hs 0:=.nil;have NJ:=Ya.cons bL.keeps (w5 (i:=5) (x:=ti) rfl) QZ;have NK:=aI (yT (.cons (yT (.cons yt .nil)) .nil)) rfl NJ (by repeat (first | assumption | exact cQ (by decide +kernel) | apply dN | apply eD | apply fX));have NL:=aI (yT (.cons yt (.cons (Yd.s "qq") .nil))) (gs (e:=.str (Str.ofString "qq")) (by simp) nq) NK (by repeat (first | assumption | exact cQ (by decide +kernel) | apply dN | apply eD | apply fX));have NM:=aI (yL (.cons yt .nil)) rfl NL (by repeat (first | assumption | exact cQ (by decide +kernel) | apply dN | apply eD | apply fX));have NN:=aI yt rfl NM (by repeat (first | assumption | exact cQ (by decide +kernel) | apply dN | apply eD | apply fX));refine oI bL.keeps (i:=4) (q:=q8) (ys:=x8) rfl (G3.at UU (s9 _ _ h8)) (λx hx=>((t8 x hx).same s9).kp G3 P9) NN (by omega) λRx Pt GW J7 O4 NU Vb PY=>?_;exact key _ _ ⟨_,Rx,Pt,rfl,Iq.same J7,Ua.of_same J7,O4,NU,by omega,by omega,λz=>by obtain⟨i,j,e,_⟩:=Iq;rw [<- z,PY] at e;cases e⟩
   rintro σ H9 ⟨g5,q9,x9,rfl,P9,K9,h9,t9,l0,l1,n9⟩;refine⟨_,rfl,_,rfl,_,rfl,q9,_,rfl,.inl (Gq.of h9),p,_,rfl,P9,by omega,by omega,λi Hs b0 b1 Iq G3=>?_⟩;have hi:i.toNat < x9.length:=by omega
   refine aE (j:=i.toNat) (.inl (Gq.of (G3.at n9 h9))) (by omega) (B7 hi) ?_;exact k _ Hs Iq (Pi.trans (K9.trans G3)) ((t9 _ (Cu hi)).kp G3 P9)
theorem vQ (ds:List PyData) (d:PyData):cutD (ds++[d]) (some (-1)) none=[d]:=by
 unfold cutD;simp [HT.sIx];have e:(-1 + ((ds.length:Int) + 1)).toNat=ds.length:=by omega
 rw [e];simp
theorem wf (ds:List PyData) (d:PyData):cutD (ds++[d]) none (some (-1))=ds:=by
 unfold cutD;simp [HT.sIx];have e:(-1 + ((ds.length:Int) + 1)).toNat=ds.length:=by omega
 rw [e];simp
theorem lh (ds:List PyData) (lo hi:Option Int):(cutD ds lo hi).length<=ds.length:=by
 unfold cutD;rw [Dc,Ey];omega
theorem fw {a b:List PyData} (h:Gw (.tuple a)) (g:Gw (.tuple b)) (n:a.length + b.length<=60):Gw (.tuple (a++b)):=by
 cases h with
 | tup _ _ h =>
  cases g with
  | tup _ _ g=>exact .tup _ (by simpa using n) λd hd=>(Ck.mp hd).elim (h d) (g d)
theorem js {a ss:List Str} (hs:a.Sublist ss) (hN:∀x∈ss,ba x) (hz:ss.length<=8):Gw (.tuple (a.map PyData.str)):=iR (λx hx=>hN x (hs.subset hx)) (by have:=hs.length_le;omega)
theorem kT {ds:List PyData} (h:Gw (.tuple ds)) (lo hi:Option Int):Gw (.tuple (cutD ds lo hi)):=by
 cases h with
 | tup _ l h =>
  refine .tup _ ?_ λd hd=>h d (Ed (Dq hd));unfold cutD;rw [Dc,Ey];omega
theorem kn {ps nm a ss:List Str}{root:Str} (hs:a.Sublist ss) (hN:∀x∈ss,ba x) (hP:ss.Pairwise GM) (hl:ss.length=(others ps root).length) (GO:a.length < ss.length):gF ps nm root (.tuple (a.map PyData.str)) :=
 .inr ⟨a,rfl,λx hx=>hN x (hs.subset hx),hP.sublist hs,.inr (by omega)⟩
theorem wF {ss:List Str} (h:ss.Pairwise GM) {i:Nat} (hi:i + 1 < ss.length) (a b:List Str):¬ (a++[ss[i + 1],ss[i]]++b).Pairwise GM:=λz=>by
 have h1:=CL.mp h i (i + 1) (by omega) hi (by omega);have h2:=(EB.mp (EB.mp z).1).2.1;have h3:=(DA.mp h2).1 _ (Cw.mpr rfl);exact oh h1 h3
theorem pf {H H':Hp}:∀{xs:List V}{ds:List PyData},Gv H xs ds->(∀d∈ds,d=.none\/∃s,d=.str s)->Gv H' xs ds
 | _,_,.nil,_=>.nil
 | _,_,.cons a b,h=>.cons (by
   rcases h _ Cf with rfl | ⟨s,rfl⟩
   ·cases a;exact .non
   ·cases a;exact .str s) (pf b λd hd=>h d (Cj _ hd))
theorem kZ {ds:List PyData}{lo hi:Option Int}{d:PyData} (h:d∈cutD ds lo hi):d∈ds:=Ed (Dq h)
theorem yH {f:V->Hp->Prop}{t:TA}{g:TG}{u:TS}{D:Ends}{σ:L2.St}{H:Hp}{n:Nat} (h:Ya f t σ H n) (hn:n<=900) (k:∀(p:Addr) (xs:List V) (Hb:Hp),ag H Hb->Hb p=none->(∀x∈xs,f x Hb)->xs.length=n->g (.ref p) σ (upd Hb p (.lst xs)) (u D)):eh (fq (eB t) g) u D σ H :=
 h H (ag.refl _) _ λxs H2 s2 hx hl=>⟨CO (fits (by omega)),λp hp=>k p xs _ s2 hp hx hl⟩
theorem yc {f:V->Hp->Prop} (kf:Keeps f) {t:TA}{g:TG}{u:TS}{D:Ends}{σ:L2.St}{H:Hp}{n i:Nat}{q:Addr}{ys:List V} (hi:σ[i]?=some (some (.ref q))) (hq:H q=some (.lst ys)) (hy:∀x∈ys,f x H) (h:Ya f t σ H n) (hn:ys.length + n<=900)
  (k:∀(p:Addr) (xs:List V) (Hb:Hp),ag H Hb->Hb p=none->(∀x∈xs,f x Hb)->xs.length=ys.length + n->g (.ref p) σ (upd Hb p (.lst xs)) (u D)):eh (fq (HZ jT (bv i) (eB t)) g) u D σ H :=
 ⟨_,hi,h H (ag.refl _) _ λxs H2 s2 hx hl=>⟨CO (fits (by omega)),λp hp=>by
  have s3:=ao (o:=.lst xs) s2 hp;have h3:upd H2 p (.lst xs) p=some (.lst xs):=ak;have x3:∀x∈xs,f x (upd H2 p (.lst xs)):=λx hm=>kf _ _ _ (hx x hm) (ao (ag.refl _) hp);generalize upd H2 p (.lst xs)=H3 at s3 h3 x3 ⊢;refine⟨q,p,_,_,rfl,rfl,s3 _ _ hq,h3,CO (fits (by omega)),λr hr=>k r (ys++xs) H3 s3 hr (λx hm=>?_) (by simp [hl])⟩
  rcases Ck.mp hm with z | z
  ·exact kf _ _ _ (hy x z) s3
  ·exact x3 x z⟩⟩
theorem oG {ps nm:List Str}{root:Str}{tx:TE}{σ:L2.St}{Hb:Hp}{q:Addr}{xs:List V}{ds:List PyData}{Q:VK} (hq:Hb q=none) (hx:∀x∈xs,bI ps nm root x Hb) (hl:xs.length<=900) (y:Yd tx σ (upd Hb q (.lst xs)) (Dv (.tuple ds))) (sc:∀d∈ds,d=.none\/∃s,d=.str s) (ok:Gw (.tuple ds)) (Xj:gF ps nm root (.tuple ds))
  (k:∀(x:V) (H':Hp),ag Hb H'->H' q=some (.lst (xs++[x]))->(∀z∈xs++[x],bI ps nm root z H')->Q .non H'):bN tx bY σ (upd Hb q (.lst xs)) λvs H2=>pT (.ref q) vs H2 Q :=
 y _ (ag.refl _) _ λx H2 s2 dx=>by
  have s1:=ao (o:=.lst xs) (ag.refl Hb) hq;refine⟨q,xs,x,rfl,rfl,s2 _ _ ak,fits (by omega),?_⟩;have s3:ag Hb (upd H2 q (.lst (xs++[x]))):=ag.upd0 (s1.trans s2) hq;refine k x _ s3 ak λz hz=>?_
  rcases Ck.mp hz with hz | hz
  ·exact (hx z hz).same s3
  ·rw [Cw.mp hz]
   cases dx with
   | @tup a vs _ e d =>
    refine .inl ⟨_,.tup (a:=a) (xs:=vs) ?_ (pf d sc),ok,Xj⟩;have GQ:a≠q:=tup_ne e (s2 _ _ ak);rw [av GQ];exact e
def ou:Sp:=λvs H Q _=>∃(p th:Addr) (ps nm ss:List Str) (root:Str),vs=[.ref p,.ref th]/\GF H p/\H th=some (.tup (ss.map V.str))/\(∀x∈ss,ba x)/\ss.Pairwise GM/\ss.length<=8/\ss.length=(others ps root).length/\Str.ofString "qq"∉nm/\∀(x:V) (H':Hp),GF H' p->Kp [p] H H'->bI ps nm root x H'->Q x H'
abbrev N59:List Str:=["_law_pot_here","_law_tree_here","_law_amid_here","_law_at","_law_other","_law_some"]
theorem gf:aV N59 ["_law_pot_here","_law_tree_here"] (aH (top 59)):=⟨rfl,rfl,rfl,by decide +kernel,rfl,by decide +kernel,by decide +kernel⟩
theorem uB (F:Gy K "_law_no_tree" "_law_no_tree" (top 59) f fd) (B:Bl mg) (Ft:Fn P w K mg base 1 "_law_digit" ["_law_pot_here","_law_many"] dZ) (Fa:Fn P w K mg base 2 "_law_amid" ["_law_pot_here","_law_good","_law_odd"] ll):au P w K mg base GB 3 f fd ["_law_pot_here","_law_tree_here"] ou:=by
 refine F.ok gf (λvs H Q E h=>?_) (λ_ _ _ _ H vs Q E hr h=>?_)
 ·obtain⟨p,th,ps,nm,ss,root,rfl,_⟩:=h
  rfl
 ·obtain⟨p,th,ps,nm,ss,root,rfl,hp,JR,hN,hP,Qc,Gs,Js,k⟩:=h
  have GP:aT 1 _:=hr.mono (by decide);refine' ⟨_,?d1,?main⟩
  case' d1=>refine' aj (aJ (i:=2) gf.nd rfl (Or.inl rfl) (ar Fa hr (aa (pv 0) (aa (pv 1) (aa (aA aF (bD ?kzl0) (ar Ft GP (aa (pv 0) (aa ai ae))) ?zh) ae))))) ?d2
  case' kzl0=>refine' qS ?z1
  case' z1=>refine' qN ?z2
  case' z2=>refine' qI ?z3
  case' z3=>refine' qB ?z4
  case' z4=>refine' qS ?z5
  case' z5=>refine' qT ?z7 ?z6
  case z7=>exact ae
  case' z6=>refine' qL ?z9 ?z8
  case z9=>exact ae
  case z8=>exact ae
  case zh=>exact λ_ _=>rfl
  case' d2=>refine' aj (aJ (i:=3) gf.nd rfl (Or.inl rfl) (ar Ft GP (aa (pv 0) (aa (aD (iU rfl) rfl B.max jD (aa ai (aa (aK fN (aD bu rfl B.len Ct (aa (pv 1) ae)) ai) ae))) ae)))) ?d3
  case' d3=>refine' aj (aJ (i:=4) gf.nd rfl (Or.inl rfl) (ar Ft GP (aa (pv 0) (aa (aD (iU rfl) rfl B.max jD (aa ai (aa (aD bu rfl B.len Ct (aa (pv 1) ae)) ae))) ae)))) ?d4
  case' d4=>refine' aj ?s0 ?d5
  case s0 =>
   refine' aJ (i:=5) ?kand ?kax ?kay ?kaz ?kahs ?kahf
   case kand=>exact gf.nd
   case kax=>exact rfl
   case kay=>exact Or.inl rfl
   case kahf=>first | exact .inl rfl | exact .inr rfl
   case' kaz=>refine' bD ?z10
   case' z10=>refine' qG ?z12 ?z11
   case z12=>exact pv 2
   case' z11=>refine' qG ?z14 ?z13
   case z14=>exact pv 2
   case' z13=>refine' qN ?z15
   case' z15=>refine' qI ?z16
   case' z16=>refine' qS ?z17
   case' z17=>refine' qL ?z19 ?z18
   case' z19=>refine' qS ?z20
   case z20=>exact ae
   case' z18=>refine' qT ?z22 ?z21
   case' z22=>refine' qS ?z23
   case z23=>exact ae
   case' z21=>refine' qC ?z25 ?z24
   case z25=>exact cP gS rfl B.list iu (aa (pv 1) ae)
   case' z24=>refine' qO ?z27 ?z26
   case' z27=>refine' aK dF ?z28 ?z29
   case z28=>exact pv 1
   case' z29=>refine' br ?z30
   case' z30=>refine' qS ?z31
   case z31=>exact ae
   case' z26=>refine' qD ?z32
   case' z32=>refine' qT ?z34 ?z33
   case' z34=>refine' qN ?z35
   case z35=>exact ae
   case' z33=>refine' qL ?z37 ?z36
   case z37=>exact ae
   case z36=>exact ae
   case kahs=>kernel_rfl
  case' d5=>refine' aj (bp (c8 CQ C7 C8 dR (pv 5) (aa ?ax ae))) ?d6
  case' ax=>refine' aK dF ?z38 ?z39
  case' z38=>refine' aK dF ?z40 ?z41
  case z40=>exact pv 1
  case z41=>exact cy cW (pv 1) cB (ck ai)
  case' z39=>refine' br ?z42
  case' z42=>refine' qN ?z43
  case z43=>exact ae
  case' d6=>refine' aj (aQ (aU (cS hr) (pv 1) (br ae) (aM _)) (aj ?s1 (aq (bp (c8 CQ C7 C8 dR (pv 5) (aa ?ay ae))))) aS) ?d7
  case s1 =>
   refine' aJ (i:=5) ?kbnd ?kbx ?kby ?kbz ?kbhs ?kbhf
   case kbnd=>exact gf.nd
   case kbx=>exact rfl
   case kby=>exact Or.inl rfl
   case kbhf=>first | exact .inl rfl | exact .inr rfl
   case' kbz=>refine' aK ?z45 ?z46 (bD ?z44)
   case z45=>exact dH
   case z46=>exact pv 5
   case' z44=>refine' qT ?z48 ?z47
   case z48=>exact ae
   case' z47=>refine' qU ?z50 ?z49
   case z50=>exact cy cW (pv 1) cB (ck (gG gC ai))
   case' z49=>refine' qU ?z52 ?z51
   case z52=>exact cy cW (pv 1) (ck ai) cB
   case' z51=>refine' qO ?z54 ?z53
   case' z54=>refine' aK dF ?z55 ?z56
   case z55=>exact pv 1
   case z56=>exact cy cW (pv 1) (ck (gG gC ai)) cB
   case' z53=>refine' qU ?z58 ?z57
   case z58=>exact aA aF (pv 1) (ai) (λ_ _=>rfl)
   case z57=>exact ae
   case kbhs=>kernel_rfl
  case' ay=>refine' aK dF ?z59 ?z60
  case' z59=>refine' aK dF ?z61 ?z62
  case z61=>exact cy cW (pv 1) cB (ck (pv 4))
  case' z62=>refine' br ?z63
  case' z63=>refine' qS ?z64
  case z64=>exact ae
  case z60=>exact cy cW (pv 1) (ck (aK dJ (pv 4) ai)) cB
  case' d7=>refine' aj (aQ (aU jG (aD bu rfl B.len Ct (aa (pv 1) ae)) ai (aM _)) (aq ?s2) aS) ?d8
  case s2 =>
   refine' aJ (i:=5) ?kcnd ?kcx ?kcy ?kcz ?kchs ?kchf
   case kcnd=>exact gf.nd
   case kcx=>exact rfl
   case kcy=>exact Or.inl rfl
   case kchf=>first | exact .inl rfl | exact .inr rfl
   case' kcz=>refine' aK ?z66 ?z67 (bD ?z65)
   case z66=>exact dH
   case z67=>exact pv 5
   case' z65=>refine' qU ?z69 ?z68
   case z69=>exact xJ (λo i=>[o,i]) (pv 1) (ck (gG gC ai)) (λ_ _=>by with_unfolding_all rfl)
   case' z68=>refine' qO ?z71 ?z70
   case' z71=>refine' aK dF ?z72 ?z73
   case' z72=>refine' aK dF ?z74 ?z75
   case z74=>exact cy cW (pv 1) cB (ck (pv 3))
   case' z75=>refine' br ?z76
   case' z76=>refine' qU ?z78 ?z77
   case z78=>exact aA aF (pv 1) (aK dJ (pv 3) ai) (λ_ _=>rfl)
   case' z77=>refine' qU ?z80 ?z79
   case z80=>exact aA aF (pv 1) (pv 3) (λ_ _=>rfl)
   case z79=>exact ae
   case z73=>exact cy cW (pv 1) (ck (aK dJ (pv 3) ai)) cB
   case z70=>exact ae
   case kchs=>kernel_rfl
  case d8=>exact aq (aG (aA aF (pv 5) (ar Ft GP (aa (pv 0) (aa (aD bu rfl B.len Ct (aa (pv 5) ae)) ae))) (λ_ _=>rfl)))
  case main =>
   have MX:Gw (.tuple (ss.map PyData.str)):=iR hN (by omega)
   have YH:Gw (.list (ss.map PyData.str)):=.lst _ (by simp;omega) (λd hd=>by obtain⟨x,hx,rfl⟩:=Cg.mp hd;exact cV (hN x hx)) (λi j e=>by
    cases ss with
    | nil=>simp at e
    | cons a b=>simp at e)
   have Lk:∀d∈ss.map PyData.str,Gw d:=λd hd=>by
    obtain⟨x,hx,rfl⟩:=Cg.mp hd;exact cV (hN x hx)
   have Pr:∀d∈ss.map PyData.str,d=.none\/∃s,d=PyData.str s:=λd hd=>by
    obtain⟨x,hx,rfl⟩:=Cg.mp hd;exact .inr ⟨x,rfl⟩
   have QO:Ya dm bY [some (.ref p),some (.ref th),none,none,none,none] H 0:=.nil;have QP:=aO (yL .nil) (.inl rfl) QO;have QQ:=aO (yT .nil) (.inl rfl) QP;have QR:=aO (Yd.s "") (.inl (by decide +kernel)) QQ;have QS:=aO (Yd.b true) (.inl rfl) QR;have QT:=aO (Yd.i 7) (.inl rfl) QS;have QU:=aO Yd.n (.inl rfl) QT;have QV:=aO (Yd.s "qq") (.inr rfl) QU;refine⟨_,rfl,_,rfl,lJ dm.keeps QV (by decide) λq5 xs H5 s5 Rw t5 l5 n5=>?_⟩;have Jn:q5≠p:=λz=>by obtain⟨i,j,e,_⟩:=hp;rw [<- z,n5] at e;cases e
   have P5:=hp.same s5;refine⟨_,rfl,p,7,rfl,P5,by decide,by decide,λi H6 b0 b1 P6 K6=>?_⟩;have hi:i.toNat < xs.length:=by omega
   refine aE (j:=i.toNat) (.inl (Gq.of (K6.at Jn Rw))) (by omega) (B7 hi) ?_;obtain⟨d,Rz,Of,PN⟩:=(t5 _ (Cu hi)).kp K6 P5;have QF:Kp [p] H H6:=(Kp.same s5).trans K6;refine⟨p,th,xs[i.toNat],ss.map PyData.str,d,rfl,P6,.tup (QF.tup hp JR) (Gv.strs ss),Lk,by simp;omega,Rz,Of,λam m H7 P7 K7 hm TR=>?_⟩;have Wv:Kp [p] H H7:=QF.trans K7;have ka:Gw (.tuple ((ss.map PyData.str).take m++[d]++(ss.map PyData.str).drop m)):=.tup _ (by simp;omega) λx hx=>by
    rcases Ck.mp hx with z | z
    ·rcases Ck.mp z with z | z
     ·exact Lk x (Dq z)
     ·rw [Cw.mp z];exact Of
    ·exact Lk x (Ed z)
   have VE:(ss.map V.str).length=ss.length:=by simp
   refine⟨_,rfl,_,rfl,th,_,rfl,.inr (Gp.of (Wv.tup hp JR)),_,_,rfl,rfl,_,_,rfl,p,_,rfl,P7,by split <;> omega,by split <;> omega,λUJ H8 a0 a1 P8 K8=>?_⟩;obtain⟨ta,rfl⟩:∃m:Nat,UJ=(m:Int):=⟨UJ.toNat,by omega⟩
   have Wu:=Wv.trans K8;refine⟨_,rfl,_,rfl,th,_,rfl,.inr (Gp.of (Wu.tup hp JR)),_,_,rfl,p,_,rfl,P8,by split <;> omega,by split <;> omega,λUH H9 o0 o1 P9 K9=>?_⟩;obtain⟨ot,rfl⟩:∃m:Nat,UH=(m:Int):=⟨UH.toNat,by omega⟩
   have QE:=Wu.trans K9;have Ma:=QE.tup hp JR;have TQ:=DV.kp (K8.trans K9) P7 TR ka;have Uk:Yd (bv 1) [some (.ref p),some (.ref th),some am,some (.int ta),some (.int ot),none] H9 (Dv (.tuple (ss.map PyData.str))):=Yd.var rfl λH' s=>.tup (s _ _ Ma) (Gv.strs ss);have Um:Yd (bv 2) [some (.ref p),some (.ref th),some am,some (.int ta),some (.int ot),none] H9 (Dv (.tuple ((ss.map PyData.str).take m++[d]++(ss.map PyData.str).drop m))):=Yd.var rfl λH' s=>DV.same s TQ;have HM:Ya (bI ps nm root) bY [some (.ref p),some (.ref th),some am,some (.int ta),some (.int ot),none] H9 0:=.nil;have HN:=aR (yL .nil) (.inl rfl) HM;have HP:=aR (yT (.cons Yd.n .nil)) (fG (e:=.none) (by simp) Js (.inl rfl)) HN;have Kl:=Ya.cons bI.keeps (gZ (f:=bI ps nm root) λp H z=>.inr ⟨p,rfl,z⟩) HP;have Km:=aR (Yd.catD (K:=K) Uk (yT (.cons (Yd.s "qq") .nil)) (by first | (simp;done) | (simp;omega))) (fG (e:=.str (Str.ofString "qq")) (by simp) Js (.inr rfl)) Kl (fw MX (dN (sU (by decide +kernel) (by decide +kernel))) (by simp;omega));have Kn:=aR (Yd.lsO (K:=K) Uk) (.inl rfl) Km YH;have Ko:=aR (yT (.cons (Yd.s "qq") .nil)) (fG (e:=.str (Str.ofString "qq")) (by simp) Js (.inr rfl)) Kn;have Kq:=aR (yL (.cons (Yd.s "qq") .nil)) (.inl rfl) Ko;have Kr:=aR (Yd.s "qq") (.inl rfl) Kq;have Ks:=aR (Yd.i 7) (.inl rfl) Kr;have Kt:=aR Yd.n (.inl rfl) Ks;have Ku:=aR Um (fG (CM _ (Cv _ (Cw.mpr rfl))) Js PN) Kt ka;have Kv:=aR Um (fG (CM _ (Cv _ (Cw.mpr rfl))) Js PN) Ku ka;refine yH Kv (by decide) λq x8 Hb sb SF t8 l8=>?_;have RB:q≠p:=λz=>by obtain⟨i,j,e,_⟩:=P9.same sb;rw [<- z,SF] at e;cases e
   have Xm:=sb _ _ Ma;have hc1:(cutD (ss.map PyData.str) none (some 1)).length<=8:=by have:=lh (ss.map PyData.str) none (some 1);simp at this;omega
   have M7:(cutD (ss.map PyData.str) none (some (ot:Int))).length<=8:=by have:=lh (ss.map PyData.str) none (some (ot:Int));simp at this;omega
   have VS:(cutD (ss.map PyData.str) (some ((ot:Int) + 1)) none).length<=8:=by have:=lh (ss.map PyData.str) (some ((ot:Int) + 1)) none;simp at this;omega
   have NC:Yd (bv 1) [some (.ref p),some (.ref th),some am,some (.int ta),some (.int ot),some (.ref q)] (upd Hb q (.lst x8)) (Dv (.tuple (ss.map PyData.str))):=Yd.var rfl λH' s=>.tup (s _ _ (ao (ag.refl _) SF _ _ Xm)) (Gv.strs ss);refine⟨_,rfl,.inl ⟨rfl,_,Gq.of ak⟩,oG SF t8 (by omega) (Yd.catD (K:=K) (Yd.catD (K:=K) NC (Yd.cast (Yd.slD (K:=K) (tlo:=dG) (thi:=dz (tC (.int 1))) (lo:=none) (hi:=some 1) NC (λ_ _ q=>q) (λ_ _ q=>⟨1,rfl,q⟩)) rfl) (by first | (simp;done) | (simp;omega))) (yT (.cons Yd.n .nil)) (by first | (simp;done) | (simp;omega))) (λd hd=>?_) (fw (fw MX (kT MX _ _) (by simp;omega)) (dN .non) (by simp;omega)) (fG (e:=.none) (by simp) Js (.inl rfl)) λxn GW J7 O4 NU=>?_⟩
   ·rcases Ck.mp hd with z | z
    ·rcases Ck.mp z with z | z
     ·exact Pr d z
     ·exact Pr d (kZ z)
    ·exact .inl (Cw.mp z)
   have Md:=sb.trans J7;have Xo:=Md _ _ Ma;have Lf:=P9.same Md;have Vb:(x8++[xn]).length=13:=by rw [Di,l8];rfl
   generalize x8++[xn]=Pt at O4 NU Vb
   dsimp only
   refine iD (λσ HD=>∃(q:Addr) (xs:List V),σ=[some (.ref p),some (.ref th),some am,some (.int ta),some (.int ot),some (.ref q)]/\ag H9 HD/\HD q=some (.lst xs)/\(∀x∈xs,bI ps nm root x HD)/\0 < xs.length/\xs.length < 100/\q≠p) (λN key=>?_) ?_
   ·refine⟨_,rfl,Cz _,λMJ S2=>?_⟩
    have Jk:=ao (o:=.tup []) (ag.refl GW) S2;have Wf:upd GW MJ (.tup []) MJ=some (.tup []):=ak;generalize upd GW MJ (.tup [])=HD at Jk Wf ⊢;have HR:=Md.trans Jk;refine⟨.tuple (ss.map PyData.str),.tuple [],.tup (HR _ _ Ma) (Gv.strs ss),.tup Wf .nil,(cJ hN).2,by decide,_,rfl,?_⟩
    by_cases LB:ss=[]
    ·have ev:PyData.eqv (.tuple (ss.map PyData.str)) (.tuple [])=true:=by rw [LB];rfl
     rw [ev];exact aL (key _ _ ⟨q,Pt,rfl,HR,Jk _ _ O4,λx hx=>(NU x hx).same Jk,by omega,by omega,RB⟩)
    ·have ev:PyData.eqv (.tuple (ss.map PyData.str)) (.tuple [])=false:=by
      cases ss with
      | nil=>exact absurd rfl LB
      | cons a b=>rfl
     rw [ev];have GV:0 < ss.length:=Ek.mpr LB;obtain⟨hd,tl,O8⟩:∃a b,ss=a::b:=by
      cases ss with
      | nil=>exact absurd rfl LB
      | cons a b=>exact⟨a,b,rfl⟩
     obtain⟨Ox,lst,Jg⟩:∃Ox l,ss=Ox++[l]:=⟨ss.dropLast,ss.getLast LB,(DF LB).symm⟩
     have eI:Ox.Sublist ss:=by rw [Jg];exact List.sublist_append_left _ _
     have eIl:Ox.length < ss.length:=by rw [Jg];simp
     have eS:tl.Sublist ss:=by rw [O8];exact List.sublist_cons_self _ _
     have eSl:tl.length < ss.length:=by rw [O8];simp
     have TM:PyData.tuple (cutD (ss.map PyData.str) none (some (-1)))=.tuple (Ox.map PyData.str):=by rw [Jg,CA];exact congrArg PyData.tuple (wf _ _)
     have TK:PyData.tuple (cutD (ss.map PyData.str) (some (-1)) none)=.tuple [.str lst]:=by rw [Jg,CA];exact congrArg PyData.tuple (vQ _ _)
     have Z6:PyData.tuple (cutD (ss.map PyData.str) (some 1) none)=.tuple (tl.map PyData.str):=by
      have:=j5 (ss.map PyData.str) (m:=1) (by simp;omega);rw [show (some 1:Option Int)=some ((1:Nat):Int) from rfl,this,O8];rfl
     have kL:Gw (.str lst):=cV (hN lst (by rw [Jg];simp));have khd:Gw (.str hd):=cV (hN hd (by rw [O8];simp));have X1:bU (.tuple (ss.map PyData.str++[.str lst]))=false:=by
      have:=NZ (wY (ps:=ss) (x:=lst) (by rw [Jg];simp))
      rwa [CA] at this
     have O9:IR (ss.map PyData.str).length 0=some 0:=eY (j:=0) (by simp;omega);have Z9:(ss.map PyData.str)[0]?=some (.str hd):=by rw [O8];rfl
     refine aB ?_;have JF:Yd (bv 1) [some (.ref p),some (.ref th),some am,some (.int ta),some (.int ot),some (.ref q)] HD (Dv (.tuple (ss.map PyData.str))):=Yd.var rfl λH' s=>.tup (s _ _ (HR _ _ Ma)) (Gv.strs ss);have QZ:Ya (bI ps nm root) bY [some (.ref p),some (.ref th),some am,some (.int ta),some (.int ot),some (.ref q)] HD 0:=.nil;have NJ:=aR (Yd.ixD (K:=K) (ti:=tC (.int 0)) (j:=0) (i:=0) JF (λ_ _ q=>q) ⟨O9,Z9⟩) (.inl rfl) QZ (by repeat (first | assumption | exact cQ (by decide +kernel) | apply dN | apply eD | apply fX));have NK:=aR (Yd.catD (K:=K) JF (Yd.cast (Yd.slD (K:=K) (tlo:=dz (NR (rU λi=>.int (-i)) (tC (.int 1)))) (thi:=dG) (lo:=some (-1)) (hi:=none) JF (λ_ _ q=>⟨1,rfl,_,rfl,q⟩) (λ_ _ q=>q)) TK) (by first | (simp;done) | (simp;omega))) (.inl X1) NJ (fw MX (dN kL) (by simp;omega));have NL:=aR (Yd.cast (Yd.slD (K:=K) (tlo:=dz (tC (.int 1))) (thi:=dG) (lo:=some 1) (hi:=none) JF (λ_ _ q=>⟨1,rfl,q⟩) (λ_ _ q=>q)) Z6) (kn eS hN hP Gs eSl) NK (js eS hN Qc);have NM:=aR (Yd.cast (Yd.slD (K:=K) (tlo:=dG) (thi:=dz (NR (rU λi=>.int (-i)) (tC (.int 1)))) (lo:=none) (hi:=some (-1)) JF (λ_ _ q=>q) (λ_ _ q=>⟨1,rfl,_,rfl,q⟩)) TM) (kn eI hN hP Gs eIl) NL (js eI hN Qc);have NN:=aR (yT .nil) (kn (List.nil_sublist _) hN hP Gs (by simp;omega)) NM;refine yc bI.keeps (i:=5) (q:=q) (ys:=Pt) rfl (Jk _ _ O4) (λx hx=>(NU x hx).same Jk) NN (by omega) λr QN Hc sc SC NT l13=>?_;have Rf:=HR.trans sc;have XX:r≠p:=λz=>by obtain⟨i,j,e,_⟩:=P9.same Rf;rw [<- z,SC] at e;cases e
     have Xl:=Rf _ _ Ma;have NB:Yd (bv 1) [some (.ref p),some (.ref th),some am,some (.int ta),some (.int ot),some (.ref r)] (upd Hc r (.lst QN)) (Dv (.tuple (ss.map PyData.str))):=Yd.var rfl λH' s=>.tup (s _ _ (ao (ag.refl _) SC _ _ Xl)) (Gv.strs ss);refine⟨_,rfl,.inl ⟨rfl,_,Gq.of ak⟩,oG SC NT (by omega) (Yd.catD (K:=K) (Yd.catD (K:=K) (Yd.cast (Yd.slD (K:=K) (tlo:=dG) (thi:=dz (bv 4)) (lo:=none) (hi:=some (ot:Int)) NB (λ_ _ q=>q) (λ_ _ q=>⟨_,rfl,_,rfl,q⟩)) rfl) (yT (.cons (Yd.s "qq") .nil)) (by first | (simp;done) | (simp;omega))) (Yd.cast (Yd.slD (K:=K) (tlo:=dz (HZ (J8 λi j=>.int (i + j)) (bv 4) (tC (.int 1)))) (thi:=dG) (lo:=some ((ot:Int) + 1)) (hi:=none) NB (λ_ _ q=>⟨_,rfl,_,_,rfl,rfl,_,rfl,q⟩) (λ_ _ q=>q)) rfl) (by first | (simp;done) | (simp;omega))) (λd hd=>?_) (fw (fw (kT MX _ _) (dN (sU (by decide +kernel) (by decide +kernel))) (by simp;omega)) (kT MX _ _) (by simp;omega)) (fG (e:=.str (Str.ofString "qq")) (by simp) Js (.inr rfl)) λxn LR Rm O3 Xu=>?_⟩
     ·rcases Ck.mp hd with z | z
      ·rcases Ck.mp z with z | z
       ·exact Pr d (kZ z)
       ·exact .inr ⟨_,Cw.mp z⟩
      ·exact Pr d (kZ z)
     exact key _ _ ⟨r,_,rfl,Rf.trans Rm,O3,Xu,by simp,by simp;omega,XX⟩
   rintro σ HD ⟨Oa,Up,rfl,HR,Qr,Uz,l0,l1,RE⟩;have NQ:=HR _ _ Ma;refine iD (λσ Li=>∃(q:Addr) (xs:List V),σ=[some (.ref p),some (.ref th),some am,some (.int ta),some (.int ot),some (.ref q)]/\ag H9 Li/\Li q=some (.lst xs)/\(∀x∈xs,bI ps nm root x Li)/\0 < xs.length/\xs.length < 200/\q≠p) (λN key=>?_) ?_
   ·refine⟨_,rfl,th,_,rfl,.inr (Gp.of NQ),_,_,rfl,rfl,_,rfl,?_⟩
    refine bJ (λc=>?_) (λc=>key _ _ ⟨Oa,Up,rfl,HR,Qr,Uz,l0,by omega,RE⟩);have h1:1 < ss.length:=by have:=of_decide_eq_true c;simp at this;omega
    have Vm:ta + 1 < ss.length:=by
     have:=a1;rw [VE] at this;split at this <;> omega
    have XW:bU (.tuple (ss.map PyData.str).reverse)=false:=by
     have:=NZ (ye hP h1)
     rwa [List.map_reverse] at this
    have YG:Gw (.tuple (ss.map PyData.str).reverse):=.tup _ (by simp;omega) λd hd=>Lk d (List.mem_reverse.mp hd);have eA1:PyData.tuple (cutD (ss.map PyData.str) none (some (ta:Int)))=.tuple ((ss.take ta).map PyData.str):=congrArg PyData.tuple (by rw [pO _ (by simp;omega),FO])
    have eA2:PyData.tuple (cutD (ss.map PyData.str) (some ((ta:Int) + 2)) none)=.tuple ((ss.drop (ta + 2)).map PyData.str):=congrArg PyData.tuple (by
     have:=j5 (ss.map PyData.str) (m:=ta + 2) (by simp;omega)
     rw [show ((ta:Int) + 2)=((ta + 2:Nat):Int) by omega,this,List.map_drop])
    have eJ1:IR (ss.map PyData.str).length ((ta:Int) + 1)=some (ta + 1):=by
     rw [show ((ta:Int) + 1)=((ta + 1:Nat):Int) by omega];exact eY (by simp;omega)
    have Z8:(ss.map PyData.str)[ta + 1]?=some (.str ss[ta + 1]):=by rw [Cd,B7 Vm];rfl
    have eJ2:IR (ss.map PyData.str).length (ta:Int)=some ta:=eY (by simp;omega);have Z7:(ss.map PyData.str)[ta]?=some (.str ss[ta]):=by rw [Cd,B7 (by omega)];rfl
    have XU:bU (.tuple ((ss.take ta).map PyData.str++[.str ss[ta + 1],.str ss[ta]]++(ss.drop (ta + 2)).map PyData.str))=false:=by
     have:=NZ (wF hP Vm (ss.take ta) (ss.drop (ta + 2)))
     rwa [CA,CA] at this
    have YN:Gw (.tuple ((ss.take ta).map PyData.str)):=js (EZ _ _) hN Qc;have YM:Gw (.tuple ((ss.drop (ta + 2)).map PyData.str)):=js (List.drop_sublist _ _) hN Qc;have YL:Gw (.str ss[ta + 1]):=cV (hN _ (Cu _));have YK:Gw (.str ss[ta]):=cV (hN _ (Cu _));have JE:Yd (bv 1) [some (.ref p),some (.ref th),some am,some (.int ta),some (.int ot),some (.ref Oa)] HD (Dv (.tuple (ss.map PyData.str))):=Yd.var rfl λH' s=>.tup (s _ _ NQ) (Gv.strs ss);have QW:Ya (bI ps nm root) bY [some (.ref p),some (.ref th),some am,some (.int ta),some (.int ot),some (.ref Oa)] HD 0:=.nil;have QX:=aR (Yd.catD (K:=K) (Yd.catD (K:=K) (Yd.cast (Yd.slD (K:=K) (tlo:=dG) (thi:=dz (bv 3)) (lo:=none) (hi:=some (ta:Int)) JE (λ_ _ q=>q) (λ_ _ q=>⟨_,rfl,_,rfl,q⟩)) eA1) (yT (.cons (Yd.ixD (K:=K) (ti:=HZ (J8 λi j=>.int (i + j)) (bv 3) (tC (.int 1))) (j:=ta + 1) (i:=(ta:Int) + 1) JE (λ_ _ q=>⟨_,rfl,_,_,rfl,rfl,q⟩) ⟨eJ1,Z8⟩) (.cons (Yd.ixD (K:=K) (ti:=bv 3) (j:=ta) (i:=(ta:Int)) JE (λ_ _ q=>⟨_,rfl,q⟩) ⟨eJ2,Z7⟩) .nil))) (by first | (simp;done) | (simp;omega))) (Yd.cast (Yd.slD (K:=K) (tlo:=dz (HZ (J8 λi j=>.int (i + j)) (bv 3) (tC (.int 2)))) (thi:=dG) (lo:=some ((ta:Int) + 2)) (hi:=none) JE (λ_ _ q=>⟨_,rfl,_,_,rfl,rfl,_,rfl,q⟩) (λ_ _ q=>q)) eA2) (by first | (simp;done) | (simp;omega))) (.inl XU) QW (fw (fw YN (eD YL YK) (by simp;omega)) YM (by simp;omega));have QY:=aR (Yd.revD (K:=K) JE) (.inl XW) QX YG;refine oI bI.keeps (i:=5) (q:=Oa) (ys:=Up) rfl Qr Uz QY (by omega) λXJ WM LS Mh ZW Xv l14 Mn=>?_;have MN:=P9.same HR;exact key _ _ ⟨XJ,WM,rfl,HR.trans Mh,ZW,Xv,by omega,by omega,λz=>by obtain⟨i,j,e,_⟩:=MN;rw [<- z,Mn] at e;cases e⟩
   rintro σ Li ⟨PL,QN,rfl,N0,VZ,NT,l0',l1',RD⟩;have Pe:=P9.same N0;refine⟨_,rfl,_,rfl,_,rfl,PL,_,rfl,.inl (Gq.of VZ),p,_,rfl,Pe,by omega,by omega,λi LS b0 b1 Ni Ub=>?_⟩;have hi:i.toNat < QN.length:=by omega
   refine aE (j:=i.toNat) (.inl (Gq.of (Ub.at RD VZ))) (by omega) (B7 hi) ?_;exact k _ LS Ni ((QE.of_same N0).trans Ub) ((NT _ (Cu hi)).kp Ub Pe)
theorem jg {ps:List Str}{rs:List Row} (G:Good ps rs):Ir ps rs:=λr hr=>by
 obtain⟨_,h2,h3,_⟩:=G.rn r hr;exact⟨h2,h3⟩
theorem kc {ps:List Str}{root:Str}:root∉others ps root:=λz=>(cx.mp z).2 rfl
theorem iO {ps:List Str}{root:Str} (nd:ps.Nodup) (h:root∈ps):(others ps root).length + 1=ps.length:=by
 have n1:(root::others ps root).Nodup:=CG.mpr ⟨kc,nd.filter _⟩;have h1:=fQ n1 (b:=ps) λx hx=>by
  rcases Ci.mp hx with rfl | z
  ·exact h
  ·exact (cx.mp z).1
 have h2:=fQ nd (b:=root::others ps root) λx hx=>by
  by_cases e:x=root
  ·rw [e];exact Cf
  ·exact Cj _ (cx.mpr ⟨hx,e⟩)
 rw [C5] at h1 h2;omega
theorem oZ {O K:List Str}{root:Str}{c rows:List Row} (KH:O.Nodup) (hO:root∉O) (hc:c.map (·.2.2)=O) (GH:∀r∈c,r∈rows) (HY:∀r∈rows,r.2.1∈K->r.2.2∈K) (Je:∀r∈c,In O root r.2.1) (hr:root∈K) {x:Str} (hx:In O root x) (hn:x∉K) :
  ∀n,In O root (IE O root (c.map (·.2.1)) n x)/\IE O root (c.map (·.2.1)) n x∉K
 | 0=>⟨hx,hn⟩
 | n + 1=>by
  obtain⟨h1,h2⟩:=oZ KH hO hc GH HY Je hr hx hn n;have e:IE O root (c.map (·.2.1)) (n + 1) x=IZ O root (c.map (·.2.1)) (IE O root (c.map (·.2.1)) n x):=rfl;rw [e];generalize IE O root (c.map (·.2.1)) n x=z at h1 h2 ⊢;have hz:z∈O:=h1.resolve_left λq=>h2 (q ▸ hr);rw [<- hc] at hz;obtain⟨r,Gz,rfl⟩:=Cg.mp hz;rw [(pB KH hO hc Gz).2];exact⟨Je r Gz,λq=>h2 (HY r (GH r Gz) q)⟩
theorem cnt_none {ps K:List Str}{root:Str}{rows:List Row} (G:Good ps rows) (Gr:root∈K) (HY:∀r∈rows,r.2.1∈K->r.2.2∈K) {x:Str} (hx:x∈ps) (hn:x∉K):a9 ps root rows=0:=by
 have GE:=cz G.so;rw [kI GE (jg G)];have e:((IW rows (others ps root)).filter (NO ps root))=[]:=by
  rw [E8];intro c hc ht;obtain⟨c1,c2⟩:=xN _ _ c hc;have hI:∀y∈ps,In (others ps root) root y:=λy hy=>by
   by_cases e:y=root
   ·exact .inl e
   ·exact .inr (cx.mpr ⟨hy,e⟩)
  have h1:=(oZ (O:=others ps root) (GE.filter _) kc c2 c1 HY (λr hr=>hI _ (G.rn r (c1 r hr)).2.1) Gr (hI x hx) hn (others ps root).length).2;have h2:=CY.mp ht x hx;rw [of_decide_eq_true h2] at h1;exact h1 Gr
 rw [e];rfl
theorem nZ {O:List Str}{root:Str}{cs:List Str}{d:Str->Nat} (h:∀x∈O,In O root (IZ O root cs x)/\d (IZ O root cs x) < d x):∀(n:Nat) (x:Str),In O root x->d x<=n->IE O root cs n x=root
 | 0,x,hx,hd=>by
  rcases hx with rfl | hx
  ·rfl
  ·have:=(h x hx).2;omega
 | n + 1,x,hx,hd=>by
  have e:∀k y,IE O root cs (k + 1) y=IE O root cs k (IZ O root cs y):=λk=>by
   induction k with
   | zero=>intro y;rfl
   | succ k ih=>intro y;show IZ O root cs (IE O root cs (k + 1) y)=_;rw [ih y];rfl
  rcases hx with rfl | hx
  ·exact kh _ _ _ _
  ·rw [e]
   obtain⟨h1,h2⟩:=h x hx;exact nZ h n _ h1 (by omega)
theorem ni {R:List Row}:∀O:List Str,(∀x∈O,∃r∈R,r.2.2=x)->∃c:List Row,(∀r∈c,r∈R)/\c.map (·.2.2)=O
 | [],_=>⟨[],by simp,rfl⟩
 | x::O,h=>by
  obtain⟨r,hr,e⟩:=h x Cf;obtain⟨c,h1,h2⟩:=ni O λy hy=>h y (Cj _ hy);exact⟨r::c,λq hq=>(Ci.mp hq).elim (λe=>e ▸ hr) (h1 q),by rw [CD,h2,e]⟩
theorem IY.cnt {root:Str}{ps:List Str}{rs tr:List T} (G:Good ps (rs.map (·.2))) (S:IY root ps tr) (GH:∀r∈tr,r∈rs) (hl:tr.length + 1=ps.length):1<=a9 ps root (rs.map (·.2)):=by
 have GE:=cz G.so;have Gr:root∈ps:=S.sub root Cf;have o1:=iO GE Gr;have Hr:=qe S.nd S.sub GE (by rw [C5,B8];omega);obtain⟨c,c1,c2⟩:=ni (R:=tr.map (·.2)) (others ps root) λx hx=>by
  obtain⟨h1,h2⟩:=cx.mp hx;obtain⟨r,hr,e⟩:=Cg.mp ((Ci.mp (Hr x h1)).resolve_left h2);exact⟨r.2,Co hr,e⟩
 have cR:∀r∈c,r∈rs.map (·.2):=λr hr=>by
  obtain⟨q,hq,rfl⟩:=Cg.mp (c1 r hr);exact Co (GH q hq)
 have hc:=yY (rs:=rs.map (·.2)) _ c cR c2;have hI:∀y∈ps,In (others ps root) root y:=λy hy=>by
  by_cases e:y=root
  ·exact .inl e
  ·exact .inr (cx.mpr ⟨hy,e⟩)
 have ht:NO ps root c=true:=by
  unfold NO gQ;rw [CY];intro x hx;refine decide_eq_true (nZ (d:=λy=>(root::ends tr).idxOf y) (λy hy=>?_) _ x (hI x hx) ?_)
  ·have Vg:=hy
   rw [<- c2] at Vg;obtain⟨r,hr,rfl⟩:=Cg.mp Vg;rw [(pB (O:=others ps root) (GE.filter _) kc c2 hr).2];refine⟨hI _ (G.rn r (cR r hr)).2.1,?_⟩;obtain⟨q,hq,rfl⟩:=Cg.mp (c1 r hr);obtain⟨i,hi⟩:=De hq;have IA:=(Ca.mp hi).1;have o:=S.ord i q hi;have e1:(root::ends tr).idxOf q.2.2.2=i + 1:=by
    have hk:(root::ends tr)[i + 1]?=some q.2.2.2:=by
     rw [List.getElem?_cons_succ,Cd,hi];rfl
    obtain⟨hk1,Jv⟩:=Ca.mp hk;rw [<- Jv];exact S.nd.idxOf_getElem _ _
   have e2:(root::ends tr).idxOf q.2.2.1 < i + 1:=by
    have o':q.2.2.1∈(root::ends tr).take (i + 1):=by
     rw [List.take_succ_cons]
     rcases Ci.mp o with z | z
     ·rw [z];exact Cf
     ·refine Cj _ ?_
      rw [ends,<- FO];exact z
    obtain⟨j,hj⟩:=De o';have HJ:j < i + 1:=by
     have:=(Ca.mp hj).1;rw [Dc] at this;omega
    rw [EJ HJ] at hj;obtain⟨hj1,Zv⟩:=Ca.mp hj;rw [<- Zv,S.nd.idxOf_getElem];exact HJ
   show (root::ends tr).idxOf q.2.2.1 < (root::ends tr).idxOf q.2.2.2;omega
  ·have:=FL (Hr x hx)
   rw [C5,B8] at this;show (root::ends tr).idxOf x<=_;omega
 rw [kI GE (jg G)];have:=E9 (Cr.mpr ⟨hc,ht⟩);omega
theorem IY.treeOf {root:Str}{ps:List Str}{rs tr:List T}{ss:List Str} (G:Good ps (rs.map (·.2))) (S:IY root ps tr) (GH:∀r∈tr,r∈rs) (hl:tr.length + 1=ps.length) (Hf:ss.Perm (GA tr)) (Lw:PyProof.Rows.sortedS ss=true):eL root ps rs ss/\ss.length=(others ps root).length:=by
 have GE:=cz G.so;have gn:=G.names;have UR:(GA rs).Nodup:=cz gn;have X7:(ends tr).Nodup:=(CG.mp S.nd).2;have OO:∀a∈rs,∀b∈rs,a.2.1=b.2.1->a=b:=λa ha b hb e=>oX (f:=λz:T=>z.2.1) UR ha hb e;have UQ:tr.Nodup:=by
  refine List.Pairwise.of_map (λz:T=>z.2.2.2) ?_ X7;intro a b h e;exact h (by rw [e])
 have X5:(GA tr).Nodup:=FQ.mpr (UQ.imp_of_mem λ{a b} ha hb KZ e=>KZ (OO a (GH a ha) b (GH b hb) e));have YX:ss.Nodup:=Hf.nodup_iff.mpr X5;have X6:rs.Nodup:=by
  refine List.Pairwise.of_map (λz:T=>z.2.1) ?_ UR;intro a b h e;exact h (by rw [e])
 have pR:(bF rs ss).Perm tr:=(List.perm_ext_iff_of_nodup (X6.sublist El) UQ).mpr λr=>by
  constructor
  ·intro hr
   obtain⟨h1,h2⟩:=Cr.mp hr;obtain⟨q,hq,e⟩:=Cg.mp (Hf.mem_iff.mp (of_decide_eq_true h2));rw [<- OO q (GH q hq) r h1 e];exact hq
  ·intro hr
   exact Cr.mpr ⟨GH r hr,decide_eq_true (Hf.mem_iff.mpr (Co (f:=λz:T=>z.2.1) hr))⟩
 have pE:(root::((bF rs ss).map (·.2)).map (·.2.2)).Perm (root::ends tr):=by
  refine List.Perm.cons _ ?_;rw [CH];exact pR.map _
 have S4:=qe S.nd S.sub GE (by rw [C5,B8];omega);have o1:=iO GE (S.sub root Cf);refine⟨⟨j3 Lw YX,λy hy=>?_,Tree.of_walk (pE.nodup_iff.mpr S.nd) (λy hy=>pE.mem_iff.mpr (S4 y hy)) λr Gz=>?_⟩,?_⟩
 ·obtain⟨q,hq,e⟩:=Cg.mp (Hf.mem_iff.mp hy)
  rw [<- e];exact Co (f:=λz:T=>z.2.1) (GH q hq)
 ·obtain⟨q,hq,rfl⟩:=Cg.mp Gz
  have hq:=pR.mem_iff.mp hq;obtain⟨j,hj,SV⟩:=DR.mp hq;obtain⟨k,wk⟩:=S.walk j j q (Cc _) (by rw [B7 hj,SV]);exact⟨k,Walk.mono (λr hr=>(pR.map (·.2)).mem_iff.mpr hr) wk⟩
 ·have:=Hf.length_eq
  rw [GA,B8] at this;omega
theorem vG (root:Str) (C:List T) (r:T):root::ends (C++[r])=(root::ends C)++[r.2.2.2]:=by simp [ends]
theorem wy (C:List T) (r:T):GA (C++[r])=GA C++[r.2.1]:=by simp [GA]
def QK (rs:List T) (K:List Str):Prop:=∀r∈rs,r.2.2.1∈K->r.2.2.2∈K
def qy:Sp:=λvs H Q _=>∃(v pa ra:Addr) (root:Str) (ps:List Str) (rs:List T),vs=[.ref v,.str root]/\bc H v pa ra ps rs/\Good ps (rs.map (·.2))/\ps.length<=8/\rs.length<=40/\root∈ps/\(a9 ps root (rs.map (·.2))=0->∀H',ag H H'->Q .non H') /\
 ∀(th:Addr) (ss:List Str) (H':Hp),ag H H'->H' th=some (.tup (ss.map V.str))->eL root ps rs ss->1<=a9 ps root (rs.map (·.2))->ss.length=(others ps root).length->Q (.ref th) H'
abbrev N58:List Str:=["_law_web_here","_law_root","_law_there","_law_found","_law_turn","_law_tie","_law_begin","_law_end"]
theorem gh:aV N58 ["_law_web_here","_law_root"] (aH (top 58)):=⟨rfl,rfl,rfl,by decide +kernel,rfl,by decide +kernel,by decide +kernel⟩
theorem ud (F:Gy K "_law_tree" "_law_tree" (top 58) f fd) (B:Bl mg):au P w K mg base GB 1 f fd ["_law_web_here","_law_root"] qy:=by
 refine F.ok gh (λvs H Q E h=>?_) (λ_ _ _ _ H vs Q E hr h=>?_)
 ·obtain⟨v,pa,ra,root,ps,rs,rfl,_⟩:=h
  rfl
 ·obtain⟨v,pa,ra,root,ps,rs,rfl,W,G,p8,J9,Gr,k0,k1⟩:=h
  refine' ⟨_,?d0,?main⟩
  case' d0=>refine' aj (aJ (i:=2) gh.nd rfl (Or.inl rfl) (pI (oq (pv 1) cb oN) rfl rfl (by simp) (by decide))) (aj (aJ (i:=3) gh.nd rfl (Or.inl rfl) (bD ae)) ?d1)
  case' d1=>refine' aj (cY C6 rfl (bW (aA aF (pv 0) ai (λ_ _=>rfl))) (bt (i:=4) gh.nd rfl (Or.inl rfl)) (aq (cY C6 rfl (bW (aA aF (pv 0) ai (λ_ _=>rfl))) (dI rfl (n:=3) (bB (bt (i:=5) gh.nd rfl (Or.inl rfl)) (bB (bt (i:=6) gh.nd rfl (Or.inl rfl)) (bB (bt (i:=7) gh.nd rfl (Or.inl rfl)) cX)))) ?b0))) ?d2
  case b0=>exact aq (aQ (PW.pt (qu (qQ (zB (fZ hr) (pv 6) (pv 2)) (by with_unfolding_all rfl)) (oO (qQ (vq (fZ hr) (pv 7) (pv 2)) (by with_unfolding_all rfl))))) (aj (yj (fZ hr) (pv 2) (pv 7) cb rfl) (aq (bp (c8 CQ C7 C8 dR (pv 3) (aa (pv 5) ae))))) aS)
  case' d2=>refine' aj (aQ (aU jF (aD vL rfl B.len Ct (aa (pv 2) ae)) (aD bu rfl B.len Ct (aa (aA aF (pv 0) ai (λ_ _=>rfl)) ae)) (aM _)) (aq (aG eM)) aS) ?d3
  case d3=>exact aq (aG (cP fz rfl B.tuple cA (aa (aD iL rfl B.sorted hX (aa (pv 3) ae)) ae)))
  case main =>
  have GE:=cz G.so;have rz:rs.length<=60:=by omega
  intro D hD;refine⟨_,rfl,ak,[(.inr root,.bl true)],rfl,by simp,?_⟩;have s1:ag H (upd (upd H D (.dK [])) D (.dK (eZ [] [(.inr root,.bl true)]))):=ag.upd0 (ao (ag.refl H) hD) hD;have d1:upd (upd H D (.dK [])) D (.dK (eZ [] [(.inr root,.bl true)])) D=some (.dK (IH (root::ends []))):=ak;generalize upd (upd H D (.dK [])) D (.dK (eZ [] [(.inr root,.bl true)]))=H1 at s1 d1 ⊢;refine⟨Cz _,λfo MF=>?_⟩;have s2:=ao (o:=.lst []) (ag.refl H1) MF;have Im:=s1.free MF;have UT:D≠fo:=bh d1 MF;have f2:upd H1 fo (.lst []) fo=some (.lst ((GA []).map V.str)):=ak;have d2:=s2 _ _ d1;have IF:=s1.trans s2;generalize upd H1 fo (.lst [])=H2 at s2 f2 d2 IF ⊢;refine⟨_,rfl,aE (j:=0) (.inr (Gp.of (IF _ _ W.tp))) rfl rfl ⟨pa,rfl,⟨_,Gp.of (IF _ _ W.pl)⟩,?_⟩⟩;refine fH (K:=K) (a:=pa) (xs:=ps.map V.str) (λi σ H3=>∃(C:List T) (g4 g5 g6 g7:Option V),σ=[some (.ref v),some (.str root),some (.ref D),some (.ref fo),g4,g5,g6,g7]/\ag H H3/\H3 D=some (.dK (IH (root::ends C)))/\H3 fo=some (.lst ((GA C).map V.str))/\IY root ps C/\(∀r∈C,r∈rs)/\(QK rs (root::ends C)\/i<=C.length))
   ⟨[],none,none,none,none,rfl,IF,d2,f2,IY.start Gr,(λr hr=>nomatch hr),.inr (Cz _)⟩ (λi σ H3 _ z=>by obtain⟨_,_,_,_,_,_,s3,_⟩:=z;exact Gp.of (s3 _ _ W.pl)) ?_ ?_
  ·rintro i x σ H3 hx ⟨C0,g4,g5,g6,g7,rfl,s3,d3,f3,S0,LB,S9⟩
   refine⟨_,rfl,aE (j:=1) (.inr (Gp.of (s3 _ _ W.tp))) rfl rfl ⟨ra,rfl,⟨_,Gp.of (s3 _ _ W.rl)⟩,?_⟩⟩;refine fH (K:=K) (a:=ra) (xs:=aw rs) (λm σ H4=>∃(C:List T) (g4 g5 g6 g7:Option V),σ=[some (.ref v),some (.str root),some (.ref D),some (.ref fo),g4,g5,g6,g7]/\ag H H4/\H4 D=some (.dK (IH (root::ends C)))/\H4 fo=some (.lst ((GA C).map V.str))/\IY root ps C/\(∀r∈C,r∈rs)/\((C=C0/\QK (rs.take m) (root::ends C))\/(¬ QK rs (root::ends C0)/\C0.length + 1<=C.length)))
    ⟨C0,_,_,_,_,rfl,s3,d3,f3,S0,LB,.inl ⟨rfl,λr hr=>by simp at hr⟩⟩ (λm σ H4 _ z=>by obtain⟨_,_,_,_,_,_,s4,_⟩:=z;exact Gp.of (s4 _ _ W.rl)) ?_ ?_
   ·rintro m x σ H4 hx ⟨C,g4,g5,g6,g7,rfl,s4,d4,f4,S,hs,HY⟩
    obtain⟨r,Gz,rfl⟩:=cG hx;have hm:=Cb Gz;have r4:=s4 _ _ (W.rows r hm);have Zd:=G.rn r.2 (Co hm);have tk:rs.take (m + 1)=rs.take m++[r]:=by rw [Dd,Gz];rfl
    have ZR:C.length + 1<=ps.length:=by
     have:=fQ S.nd S.sub;rw [C5,B8] at this;exact this
    refine⟨r.1,_,rfl,Gp.of r4,rfl,_,_,rfl,_,_,rfl,_,_,rfl,rfl,?_⟩;refine⟨_,rfl,_,rfl,D,_,rfl,.inl ⟨_,.inr r.2.2.1,.inl d4,rfl,rfl⟩,_,rfl,?_⟩;rw [ij]
    by_cases hk:r.2.2.1∈root::ends C
    ·rw [if_pos hk]
     refine aB ⟨_,rfl,_,rfl,D,_,rfl,.inl ⟨_,.inr r.2.2.2,.inl d4,rfl,rfl⟩,_,rfl,?_⟩;rw [ij]
     by_cases Jv:r.2.2.2∈root::ends C
     ·rw [if_pos Jv]
      refine aL ⟨C,_,_,_,_,rfl,s4,d4,f4,S,hs,HY.imp (λh=>⟨h.1,?_⟩) id⟩;rw [tk];intro q hq hb
      rcases Ck.mp hq with z | z
      ·exact h.2 q z hb
      ·rw [Cw.mp z];exact Jv
     ·rw [if_neg Jv]
      refine aB ⟨_,rfl,_,rfl,D,_,rfl,.inl ⟨_,.inr r.2.2.2,d4,rfl,fits (by simp [ends];omega),rfl⟩,?_⟩;rw [xy,if_neg Jv,<- vG];have s5:=ag.upd0 (o:=.dK (IH (root::ends (C++[r])))) s4 hD;have d5:upd H4 D (.dK (IH (root::ends (C++[r])))) D=some (.dK (IH (root::ends (C++[r])))):=ak;have f5:upd H4 D (.dK (IH (root::ends (C++[r])))) fo=some (.lst ((GA C).map V.str)):=by rw [av UT.symm];exact f4
      generalize upd H4 D (.dK (IH (root::ends (C++[r]))))=H5 at s5 d5 f5 ⊢;refine⟨_,rfl,.inl ⟨rfl,_,Gq.of f5⟩,_,rfl,fo,_,_,rfl,rfl,f5,fits (by simp;omega),?_⟩;have e6:(GA C).map V.str++[V.str r.2.1]=(GA (C++[r])).map V.str:=by rw [wy];simp
      rw [e6];refine⟨C++[r],_,_,_,_,rfl,ag.upd0 s5 Im,by rw [av UT];exact d5,ak,S.add hk Jv Zd.2.2.1,λq hq=>?_,.inr ?_⟩
      ·rcases Ck.mp hq with z | z
       ·exact hs q z
       ·rw [Cw.mp z];exact hm
      ·rcases HY with ⟨e,_⟩ | ⟨h1,h2⟩
       ·subst e
        exact⟨λz=>Jv (z r hm hk),by simp⟩
       ·exact⟨h1,by simp;omega⟩
    ·rw [if_neg hk]
     refine aL ⟨C,_,_,_,_,rfl,s4,d4,f4,S,hs,HY.imp (λh=>⟨h.1,?_⟩) id⟩;rw [tk];intro q hq hb
     rcases Ck.mp hq with z | z
     ·exact h.2 q z hb
     ·rw [Cw.mp z] at hb;exact absurd hb hk
   ·rintro σ H4 ⟨C,g4,g5,g6,g7,rfl,s4,d4,f4,S,hs,HY⟩
    rw [Df (by simp)] at HY;refine⟨C,_,_,_,_,rfl,s4,d4,f4,S,hs,?_⟩
    rcases HY with ⟨_,h⟩ | ⟨h1,h2⟩
    ·exact .inl h
    ·exact .inr (by have:=S9.resolve_left h1;omega)
  rintro σ H3 ⟨C,g4,g5,g6,g7,rfl,s3,d3,f3,S,hs,HY⟩;have ZR:C.length + 1<=ps.length:=by
   have:=fQ S.nd S.sub;rw [C5,B8] at this;exact this
  have Ta:QK rs (root::ends C):=HY.resolve_right (by rw [B8];omega);refine⟨_,rfl,D,_,rfl,d3,_,rfl,aE (j:=0) (.inr (Gp.of (s3 _ _ W.tp))) rfl rfl ⟨pa,_,rfl,.inr (Gp.of (s3 _ _ W.pl)),_,_,rfl,rfl,_,rfl,?_⟩⟩;have el:((IH (root::ends C)).length:Int)=(C.length:Int) + 1:=by simp [ends]
  refine bJ (λc=>?_) (λc=>?_)
  ·have c':C.length + 1 < ps.length:=by have:=of_decide_eq_true c;rw [el,B8] at this;omega
   obtain⟨x,hx,hn⟩:=yR (a:=root::ends C) GE (by rw [C5,B8];exact c');refine k0 (cnt_none G Cf (λr hr hb=>?_) hx hn) H3 s3;obtain⟨q,hq,rfl⟩:=Cg.mp hr;exact Ta q hq hb
  ·have c':C.length + 1=ps.length:=by
    have:¬ ((IH (root::ends C)).length:Int) < ((ps.map V.str).length:Int):=by simpa using c
    rw [el,B8] at this;omega
   refine⟨_,rfl,fo,GA C,rfl,Gq.of f3,by simp;omega,λss q Hf Lw hq=>?_⟩;have s4:=ao (o:=.lst (ss.map V.str)) (ag.refl H3) hq;refine⟨q,_,rfl,.inl ⟨Gq.of ak,λth JR=>?_⟩⟩;obtain⟨t1,t2⟩:=S.treeOf G hs c' Hf Lw;exact k1 th ss _ (s3.trans (ao s4 JR)) ak t1 (S.cnt G hs c') t2
end K85
namespace L2
open PySem PySem.Spec PyProof.Rows
section
variable {X:Cx}{pos:Pos}
def Ai (i j k:Nat) (ta:TA):TS:=λD σ H=>ta σ H λvs H1=>∃v w z,vs=[v,w,z]/\D.nx (((σ.set i (some v)).set j (some w)).set k (some z)) H1
theorem xq {i j k:Nat}{x y z:Str}{a b c:Expr}{ta:TA}{px py pz pt:Pos}{kt k2 Ry} (hc:X.calm=true) (hN:X.N.Nodup) (hi:X.N[i]?=some x) (hj:X.N[j]?=some y) (hk:X.N[k]?=some z) (Hw:i≠j) (Zx:i≠k) (Zu:j≠k)
  (hx:X.env.scope.names.lookup x=some .local) (hy:X.env.scope.names.lookup y=some .local) (hz:X.env.scope.names.lookup z=some .local) (ha:PA X [a,b,c] ta)
  (hw:swappedStores [.Tuple [.Name x px,.Name y py,.Name z pz] kt pt] (.Tuple [a,b,c] k2 Ry) X.env=pure (some [x,y,z]))
  (hs:swapsWithSole [.Tuple [.Name x px,.Name y py,.Name z pz] kt pt] (.Tuple [a,b,c] k2 Ry) pos.line X.env=pure false:=by rfl) :
  PS X (.Assign [.Tuple [.Name x px,.Name y py,.Name z pz] kt pt] (.Tuple [a,b,c] k2 Ry) pos) (Ai i j k ta):=by
 intro pins s σ H D I h;rw [exec_Assign_arm];refine B6 (EC ?_);rw [hs];refine B6 (B9 ?_);rw [if_neg (by decide)];refine B6 (Tuple_ (Gu (ha _ pins s σ H _ I h) λus s1 ⟨vs,H1,I1,r1,q1⟩=>?_));obtain⟨v,w,t,e1,q1⟩:=q1;subst e1;obtain⟨u1,u2,u3,rfl,rv,Hl,rt⟩:∃u1 u2 u3,us=[u1,u2,u3]/\RelV v u1/\RelV w u2/\RelV t u3:=by
  cases r1 with
  | cons p q =>
   cases q with
   | cons p' q' =>
    cases q' with
    | cons XO XM =>
     cases XM;exact⟨_,_,_,rfl,p,p',XO⟩
 refine CS ?_ (by show 3<=sizeLine;decide);have I2:Inv X pins σ H1 { s1 with heap:=s1.heap.push { cls:=.type "tuple",data:=.seq [u1,u2,u3].toArray } }:=I1.kept (t':=s1.toks) λb o e=>Ce _ e;rw [hw];refine B6 (B9 ?_);show wpAny (model X.prog X.w) X.A (do rule "assign.swapped-stores";let items <- unpackItems (.ref s1.heap.objs.size) 3 none;assignInOrder [λv=>bindName X.env z v,λv=>bindName X.env y v,λv=>bindName X.env x v] items.reverse;pure Flow.next) _ _ _;refine B6 (FX (B6 (unpackItems_tuple (items:=#[u1,u2,u3]) (I.ok.hd hc) (IsTup.new s1.heap _) λh' Jo=>?_)));have I3:=I2.kept (h':=h') (t':=s1.toks) λb o e=>Jo b o (CU (Cp e)) e;show wpAny _ _ (assignInOrder [λv=>bindName X.env z v,λv=>bindName X.env y v,λv=>bindName X.env x v] [u3,u2,u1] >>= λ_=>pure Flow.next) _ _ _;refine B6 (EH (FC (eW I3 hN hk (.inl hz) rt (λs2 I4=>?_) (.inr hz))));refine EH (FC (eW I4 hN hj (.inl hy) Hl (λs3 I5=>?_) (.inr hy)));refine EH (FC (eW I5 hN hi (.inl hx) rv (λs4 I6=>assignInOrder_nil (B9 ?_)) (.inr hx)));have e:((σ.set k (some t)).set j (some w)).set i (some v)=((σ.set i (some v)).set j (some w)).set k (some t):=by
  rw [List.set_comm _ _ Zu,List.set_comm _ _ Zx,List.set_comm _ _ Hw]
 rw [e] at I6;exact⟨_,H1,I6,q1⟩
end
end L2
namespace K85
open PySem L2
theorem qb {ps:List Str}{root:Str}{rs:List Row} (G:Good ps rs) (p5:ps.length<=5) (KG:rs.length<=10) (Gr:root∈ps):a9 ps root rs<=63:=by
 have GE:ps.Nodup:=cz G.so;have o4:(others ps root).length<=4:=by have:=iO GE Gr;omega
 rw [kI GE (jg G)];have h1:=Af (rs:=rs) (O:=others ps root) (GE.filter _) o4 KG;have h2:=CF (NO ps root) (IW rs (others ps root));omega
theorem qA {ps:List Str}{root:Str}{rs:List Row} (G:Good ps rs):0<=a9 ps root rs:=lI (cz G.so) (jg G)
theorem vR {ps:List Str}{root:Str}{rs:List Row} (h:(others ps root).length=0):a9 ps root rs=1:=by
 unfold a9;rw [h];rfl
theorem HF {x:Str} (h:dY x=true):SeqAt.shaped (.tuple [.str x])=true:=(cJ (ss:=[x]) (λy hy=>by rw [Cw.mp hy];exact gT.mp h)).2
theorem neT (a:Str):(!PyData.eqv (.tuple [.str a]) (.tuple [.str a]))=false:=by
 rw [show PyData.eqv (.tuple [.str a]) (.tuple [.str a])=true from (fB [a] [a]).trans (by simp)];rfl
theorem eqT (a:Str):PyData.eqv (.tuple [.str a]) (.tuple [.str a])=true:=(fB [a] [a]).trans (by simp)
theorem HB {H:Hp}{q:Addr}{x:Str} (h:H q=some (.tup [.str x])):DV H (.ref q) (.tuple [.str x]):=.tup h (.cons (.str x) .nil)
section
variable {P:Program}{w:World}{K:zz7}{mg:Str->Option zz9}{base:Heap}{CW CP CI CR CN:Addr}
def oM:Sp:=λvs H Q _=>∃(p v pa ra:Addr) (root:Str) (ps:List Str) (rs:List T),vs=[.ref p,.ref v,.str root]/\GF H p/\bc H v pa ra ps rs/\Good ps (rs.map (·.2))/\ps.length<=5/\rs.length<=10/\root∈ps/\Str.ofString "qq"∉ps/\Str.ofString "qq"∉GA rs/\∀H',GF H' p->Kp [p] H H'->Q (.bl true) H'
abbrev N61:List Str:=["_law_pot_here","_law_web_here","_law_root","_law_none","_law_place","_law_ties","_law_which","_law_tree_here"]
theorem jL:aV N61 ["_law_pot_here","_law_web_here","_law_root"] (aH (top 61)):=⟨rfl,rfl,rfl,by decide +kernel,rfl,by decide +kernel,by decide +kernel⟩
theorem w4 (F:Gy K "_law_right" "_law_right" (top 61) f fd) (F1:Fn P w K mg base 2 "_law_no_web" ["_law_pot_here","_law_web_here"] pN) (F2:Fn P w K mg base 2 "_law_no_place" ["_law_pot_here","_law_web_here"] m7) (F3:Fn P w K mg base 3 "_law_no_ties" ["_law_pot_here","_law_web_here"] nD)
  (F4:Fn P w K mg base 8 "_law_asked" ["_law_which","_law_web_here","_law_root","_law_one","_law_other"] (kO CW CP CI CR CN)) (F5:Fn P w K mg base 2 "_law_no_number" ["_law_pot_here"] o6) (F6:Fn P w K mg base 1 "_law_tree" ["_law_web_here","_law_root"] qy) (F7:Fn P w K mg base 3 "_law_no_tree" ["_law_pot_here","_law_tree_here"] ou) (B:Bl mg) :
  au P w K mg base GB 9 f fd ["_law_pot_here","_law_web_here","_law_root"] oM:=by
 refine F.ok jL (λvs H Q E h=>?_) (λ_ _ _ _ H vs Q E hr h=>?_)
 ·obtain⟨p,v,pa,ra,root,ps,rs,rfl,_⟩:=h
  rfl
 ·obtain⟨p,v,pa,ra,root,ps,rs,rfl,hp,W,G,p5,KG,Gr,G6,He,k⟩:=h
  have GP:aT 1 _:=hr.mono (by decide);have Hd:aT 2 _:=hr.mono (by decide);have HI:aT 3 _:=hr.mono (by decide);refine' ⟨_,?d0,?main⟩
  case' d0=>refine' aj (xq (i:=3) (j:=4) (k:=5) rfl jL.nd rfl rfl rfl (by decide) (by decide) (by decide) rfl rfl rfl (aa (ar F1 Hd (aa (pv 0) (aa (pv 1) ae))) (aa (ar F2 Hd (aa (pv 0) (aa (pv 1) ae))) (aa (ar F3 HI (aa (pv 0) (aa (pv 1) ae))) ae))) (by first | rfl | decide +kernel)) ?d1
  case' d1=>refine' aj (cY C6 rfl (eF rfl B.range (aa ai ae)) (bt (i:=6) jL.nd rfl (Or.inl rfl)) (aj ?e0 (aq ?e1))) ?d2
  case e0=>exact aQ (aU (cS hr) (ar F4 hr (aa (pv 6) (aa (pv 3) (aa (pv 4) (aa (pv 5) (aa (pv 5) ae)))))) (br (aa bq ae)) (aM _)) bO aS
  case e1=>exact aQ (aU (cS hr) (ar F4 hr (aa (pv 6) (aa (pv 1) (aa (pv 4) (aa (pv 5) (aa (pv 5) ae)))))) (br (aa bq ae)) (aM _)) bO aS
  case' d2=>refine' aj (aQ (PW.pt (cM ?f0 (cZ ?f1))) bO aS) ?d3
  case f0=>exact aU (cS hr) (ar F4 hr (aa ai (aa (pv 1) (aa (pv 2) (aa (pv 5) (aa (br ae) ae)))))) (br (aa bq ae)) (aM _)
  case f1=>exact aU (cS hr) (ar F4 hr (aa ai (aa (pv 1) (aa (pv 2) (aa (br ae) (aa (pv 5) ae)))))) (br (aa bq ae)) (aM _)
  case' d3=>refine' aj (aQ ?g0 bO aS) ?d4
  case g0=>exact aU (cS hr) (ar F4 hr (aa ai (aa (pv 1) (aa (pv 2) (aa (ar F5 Hd (aa (pv 0) ae)) (aa eM ae)))))) (br (aa bq ae)) (aM _)
  case' d4=>refine' aj (aJ (i:=7) jL.nd rfl (Or.inl rfl) (ar F6 GP (aa (pv 1) (aa (pv 2) ae)))) ?d5
  case' d5=>refine' aj (aQ (aU zl (pv 7) eM (aM _)) (aq (aG (cH ?h0 (di ?h1)))) aS) ?d6
  case h0=>exact du (ir hr) (ar F4 hr (aa ai (aa (pv 1) (aa (pv 2) (aa ai (aa eM ae)))))) (br (aa bq ae)) (aM _)
  case h1=>exact du (ir hr) (ar F4 hr (aa ai (aa (pv 1) (aa (pv 2) (aa (br ae) (aa eM ae)))))) (br (aa bq ae)) (aM _)
  case' d6=>refine' aj (aQ ?i0 bO aS) ?d7
  case i0=>exact aU (cS hr) (ar F4 hr (aa ai (aa (pv 1) (aa (pv 2) (aa (ar F7 HI (aa (pv 0) (aa (pv 7) ae))) (aa eM ae)))))) (br (aa bq ae)) (aM _)
  case' d7=>refine' aq (aG (cH ?j0 (di ?j1)))
  case j0=>exact du (ir hr) (ar F4 hr (aa ai (aa (pv 1) (aa (pv 2) (aa ai (aa eM ae)))))) (br (aa bq ae)) (aM _)
  case j1=>exact du (ir hr) (ar F4 hr (aa ai (aa (pv 1) (aa (pv 2) (aa (pv 7) (aa eM ae)))))) (br (aa bq ae)) (aM _)
  case main =>
  have Rv:(rs.map (·.2)).length<=10:=by rw [B8];exact KG
  have Qu:=qb G p5 Rv Gr;have c0:=qA (root:=root) G;refine⟨_,rfl,_,rfl,p,v,pa,ra,ps,rs,rfl,hp,W,G,by omega,λxw H1 P1 K1 XT=>?_⟩;have WK:∀{H'},Kp [p] H H'->bc H' v pa ra ps rs:=λ{H'} K=>⟨K.tup hp W.tp,K.tup hp W.pl,K.tup hp W.rl,λr hr=>K.tup hp (W.rows r hr)⟩
  refine⟨_,rfl,_,rfl,p,v,pa,ra,ps,rs,rfl,P1,WK K1,G,by omega,G6,λxp H2 P2 K2 MV=>?_⟩;have Wy:=K1.trans K2;refine⟨_,rfl,_,rfl,p,v,pa,ra,ps,rs,rfl,P2,WK Wy,G,by omega,He,λxt H3 P3 K3 UO=>⟨_,_,_,rfl,?_⟩⟩;have Wx:=Wy.trans K3;have PP:=XT.kp (K2.trans K3) P1;have XY:=MV.kp K3 P2;have W3:=WK Wx;refine⟨6,rfl,by decide,by decide,iT (λi σ H4=>ag H3 H4/\∃g,σ=[some (.ref p),some (.ref v),some (.str root),some xw,some xp,some xt,g,none]) ⟨ag.refl _,_,rfl⟩ ?_ ?_⟩
  ·rintro i σ H4 hi ⟨s4,g,rfl⟩
   have Il:(i:Int) < 6:=by omega
   refine⟨_,rfl,_,rfl,_,rfl,_,rfl,_,rfl,_,xw,xp,xt,xt,some CW,_,rfl,by omega,by omega,.web (PP.same s4),λq5 H5 s5 h5=>⟨by show 1<=sizeLine;decide,λt6 Y6=>?_⟩⟩;have s6:=ao (o:=.tup [.str ("web":Str)]) (ag.refl H5) Y6;refine⟨_,_,HB (s6 _ _ h5),HB ak,HF (by decide +kernel),HF (by decide +kernel),_,rfl,?_⟩;rw [neT];refine aL ?_;generalize upd H5 t6 (.tup [.str ("web":Str)])=H6 at s6 ⊢;have Rj:=s4.trans (s5.trans s6);refine⟨_,rfl,_,rfl,_,rfl,_,rfl,_,rfl,_,.ref v,xp,xt,xt,some CP,_,rfl,by omega,by omega,.place rfl (W3.same Rj) G (XY.same Rj),λq7 H7 s7 h7=>⟨by show 1<=sizeLine;decide,λt8 Sk=>?_⟩⟩;have s8:=ao (o:=.tup [.str ("place":Str)]) (ag.refl H7) Sk;refine⟨_,_,HB (s8 _ _ h7),HB ak,HF (by decide +kernel),HF (by decide +kernel),_,rfl,?_⟩;rw [neT];exact aL ⟨Rj.trans (s7.trans s8),_,rfl⟩
  rintro σ H4 ⟨s4,g,rfl⟩;refine⟨_,rfl,_,rfl,_,rfl,Cz _,λem ZF=>?_⟩;have s5:=ao (o:=.tup []) (ag.refl H4) ZF;generalize upd H4 em (.tup [])=H5 at s5 ⊢;have Ia:=s4.trans s5;refine⟨3,.ref v,.str root,xt,_,some CI,_,rfl,by decide,by decide,.tie rfl rfl (W3.same Ia) G Gr rfl (.inl (UO.same Ia)),λq6 H6 s6 h6=>⟨by show 1<=sizeLine;decide,λt7 Y5=>?_⟩⟩;have s7:=ao (o:=.tup [.str ("tie":Str)]) (ag.refl H6) Y5;refine⟨_,_,HB (s7 _ _ h6),HB ak,HF (by decide +kernel),HF (by decide +kernel),_,rfl,?_⟩;rw [neT];refine aL ?_;generalize upd H6 t7 (.tup [.str ("tie":Str)])=H7 at s7 ⊢;have XB:=Ia.trans (s6.trans s7);refine⟨_,rfl,_,rfl,Cz _,λO7 S6=>⟨_,rfl,?_⟩⟩;have s8:=ao (o:=.tup []) (ag.refl H7) S6;have e8:upd H7 O7 (.tup []) O7=some (.tup []):=ak;generalize upd H7 O7 (.tup [])=H8 at s8 e8 ⊢;have Ri:=XB.trans s8;refine⟨3,.ref v,.str root,.ref O7,xt,some CI,_,rfl,by decide,by decide,.tie rfl rfl (W3.same Ri) G Gr rfl (.inr ⟨O7,rfl,e8,UO.same Ri⟩),λq9 H9 s9 h9=>⟨by show 1<=sizeLine;decide,λXw Ss=>?_⟩⟩;have Ls:=ao (o:=.tup [.str ("tie":Str)]) (ag.refl H9) Ss;refine⟨_,_,HB (Ls _ _ h9),HB ak,HF (by decide +kernel),HF (by decide +kernel),_,rfl,?_⟩;rw [neT];refine aL ?_;generalize upd H9 Xw (.tup [.str ("tie":Str)])=Hs at Ls ⊢;have N3:=Ri.trans (s9.trans Ls);have Iq:=P3.same N3;refine⟨_,rfl,_,rfl,_,rfl,p,a9 ps root (rs.map (·.2)) - 1,rfl,Iq,by omega,λxn GW Lf Kf RG=>?_⟩;have J4:Kp [p] H GW:=(Wx.of_same N3).trans Kf;refine⟨4,.ref v,.str root,xn,_,some CN,_,rfl,by decide,by decide,.num rfl rfl (WK J4) G (by omega) Gr rfl Qu RG,λOa HD Jk Qr=>⟨by show 1<=sizeLine;decide,λNT Sr=>?_⟩⟩;have Rn:=ao (o:=.tup [.str ("number":Str)]) (ag.refl HD) Sr;refine⟨_,_,HB (Rn _ _ Qr),HB ak,HF (by decide +kernel),HF (by decide +kernel),_,rfl,?_⟩;rw [neT];refine aL ?_;generalize upd HD NT (.tup [.str ("number":Str)])=Li at Rn ⊢;have Lr:=Jk.trans Rn;have Pe:=Lf.same Lr;have MP:=J4.of_same Lr;refine⟨_,rfl,_,rfl,v,pa,ra,root,ps,rs,rfl,WK MP,G,by omega,by omega,Gr,λhz LS Mh=>?_,λth ss LS Mh JR T1 c1 JS=>?_⟩
  ·have Lg:=MP.of_same Mh
   have Ni:=Pe.same Mh;refine⟨_,rfl,rfl,_,rfl,aB ?_⟩;refine⟨_,rfl,_,rfl,4,.ref v,.str root,.int 0,_,some CN,_,rfl,by decide,by decide,.num rfl rfl (WK Lg) G (by omega) Gr rfl Qu (.inl ⟨.int 0,.int 0,.int 0,λi e z=>?_⟩),λq15 LR Rm O3=>⟨by show 1<=sizeLine;decide,λXt So=>?_⟩⟩
   ·cases e
    rw [hz] at z;omega
   have N4:=ao (o:=.tup [.str ("number":Str)]) (ag.refl LR) So;refine⟨_,_,HB (N4 _ _ O3),HB ak,HF (by decide +kernel),HF (by decide +kernel),_,rfl,?_⟩;rw [eqT];refine aB ?_;generalize upd LR Xt (.tup [.str ("number":Str)])=LQ at N4 ⊢;have Lq:=Rm.trans N4;refine⟨_,rfl,_,rfl,Cz _,λQs S5=>?_⟩;have Mg:=ao (o:=.tup []) (ag.refl LQ) S5;have We:upd LQ Qs (.tup []) Qs=some (.tup []):=ak;generalize upd LQ Qs (.tup [])=H17 at Mg We ⊢;have J3:=Lg.of_same (Lq.trans Mg);refine⟨5,.ref v,.str root,.ref Qs,_,some CR,_,rfl,by decide,by decide,.tree rfl rfl (WK J3) G (by omega) (by omega) Gr rfl (.inl ⟨.tuple [],.tup We .nil,jS,.inr ⟨[],rfl,by simp,.nil,.inr (λz=>?_)⟩⟩),λXI QJ PJ Tq=>⟨by show 1<=sizeLine;decide,λUy Mr=>?_⟩⟩
   ·have:=vR (rs:=rs.map (·.2)) z.symm
    rw [hz] at this;cases this
   have Mf:=ao (o:=.tup [.str ("tree":Str)]) (ag.refl QJ) Mr;refine⟨_,_,HB (Mf _ _ Tq),HB ak,HF (by decide +kernel),HF (by decide +kernel),?_⟩;rw [eqT];exact k _ (Ni.same ((Lq.trans Mg).trans (PJ.trans Mf))) (J3.of_same (PJ.trans Mf))
  ·have Lg:=MP.of_same Mh
   have Ni:=Pe.same Mh;refine⟨_,rfl,rfl,_,rfl,aL ?_⟩;refine⟨_,rfl,_,rfl,_,rfl,_,rfl,p,th,ps,GA rs,ss,root,rfl,Ni,JR,T1.nameP G,T1.so,?_,JS,He,λxb LR P15 Wt RQ=>?_⟩
   ·have:=iO (cz G.so) Gr;omega
   have Pl:=Lg.trans Wt;have Q3:=Wt.tup Ni JR;refine⟨5,.ref v,.str root,xb,_,some CR,_,rfl,by decide,by decide,.tree rfl rfl (WK Pl) G (by omega) (by omega) Gr rfl RQ,λq16 LQ N4 ZV=>⟨by show 1<=sizeLine;decide,λXs Sn=>?_⟩⟩;have Mg:=ao (o:=.tup [.str ("tree":Str)]) (ag.refl LQ) Sn;refine⟨_,_,HB (Mg _ _ ZV),HB ak,HF (by decide +kernel),HF (by decide +kernel),_,rfl,?_⟩;rw [neT];refine aL ?_;generalize upd LQ Xs (.tup [.str ("tree":Str)])=H17 at Mg ⊢;have JJ:=N4.trans Mg;have J3:=Pl.of_same JJ;refine⟨_,rfl,_,rfl,4,.ref v,.str root,.int 0,_,none,_,rfl,by decide,by decide,.at rfl rfl (WK J3) G (by omega) Gr rfl rfl (Int.le_refl 0) (Int.lt_of_lt_of_le (by decide) c1),λXI QJ PJ Tq=>⟨by show 1<=sizeLine;decide,λUy Mr=>?_⟩⟩;have Mf:=ao (o:=.tup [.str ("told":Str)]) (ag.refl QJ) Mr;refine⟨_,_,HB (Mf _ _ Tq),HB ak,HF (by decide +kernel),HF (by decide +kernel),_,rfl,?_⟩;rw [eqT];refine aB ?_;generalize upd QJ Uy (.tup [.str ("told":Str)])=H19 at Mf ⊢;have JI:=PJ.trans Mf;have Pk:=J3.of_same JI;refine⟨_,rfl,_,rfl,_,rfl,5,.ref v,.str root,.ref th,_,none,_,rfl,by decide,by decide,.no rfl rfl rfl rfl ⟨WK Pk,G,by omega,by omega,Gr,JI _ _ (JJ _ _ Q3),T1⟩,λq20 H20 UE ZU=>⟨by show 1<=sizeLine;decide,λt21 Sm=>?_⟩⟩;have Rl:=ao (o:=.tup [.str ("told":Str)]) (ag.refl H20) Sm;refine⟨_,_,HB (Rl _ _ ZU),HB ak,HF (by decide +kernel),HF (by decide +kernel),?_⟩;rw [eqT];exact k _ (P15.same (JJ.trans (JI.trans (UE.trans Rl)))) (Pk.of_same (UE.trans Rl))
end
theorem oW {p:Addr}{H H1 H2:Hp} (s:ag H H1) (hp:H p=none) (k:Kp [p] H1 H2):ag H H2:=λb o e=>k b o (s b o e) (by simp;exact bh e hp)
theorem Ag (xs:List V):ce xs none (some 10)=xs.take 10:=by
 unfold ce;rw [HT.BK,show (10:Int)=((10:Nat):Int) from rfl,HT.BN];rw [Gk,Nat.sub_zero]
 rcases F9 10 xs.length with h | h
 ·rw [EG h]
 ·rw [Gd h,Dg,Df h]
theorem uX {ps:List Str}{rs:List (Addr×Row)} (G:Good ps (rs.map (·.2))) (n:Nat):Good ps ((rs.take n).map (·.2)):=by
 have hs:((rs.take n).map (·.2)).Sublist (rs.map (·.2)):=(EZ n rs).map _;exact⟨G.ne,G.nm,G.so,λr hr=>G.rn r (hs.subset hr),G.rso.sublist (hs.map _),G.pz,CB hs.length_le G.rz⟩
abbrev Au:PyData:=.tuple [.str (Str.ofString "told")]
def eN (n:Nat):List PyData:=List.replicate n Au
theorem jb {H:Hp}:∀qs:List Addr,(∀q∈qs,H q=some (.tup [.str (Str.ofString "told")]))->Gv H (qs.map V.ref) (eN qs.length)
 | [],_=>.nil
 | q::t,h=>.cons (HB (h q Cf)) (jb t λx hx=>h x (Cj _ hx))
theorem PH:SeqAt.shaped (.list (eN 4))=true:=by decide +kernel
theorem eq4:PyData.eqv (.list (eN 4)) (.list (eN 4))=true:=by decide +kernel
section
variable {P:Program}{w:World}{K:zz7}{mg:Str->Option zz9}{base:Heap}{CW CP CI CR CN:Addr}
def jK (K:zz7):Sp:=λvs H Q _=>∃(a:Addr) (ns:List Int),vs=[.ref a]/\Gq K H a (ns.map V.int)/\ns.length<=63/\∀H',Q (.bl true) H'
abbrev N62:List Str:=["_law_script","_law_k","_law_pot_here","_law_web_here","_law_root","_law_ahead"]
theorem gc:aV N62 ["_law_script"] (aH (top 62)):=⟨rfl,rfl,rfl,by decide +kernel,rfl,by decide +kernel,by decide +kernel⟩
theorem zP (F:Gy K "law" "law" (top 62) f fd) (B:Bl mg) (Fp:Fn P w K mg base 1 "_law_pot" ["_law_script","_law_k"] (rL K)) (Fg:Fn P w K mg base 3 "_law_web" ["_law_pot_here","_law_most_places","_law_most_trees","_law_most_more"] qh)
  (Fk:Fn P w K mg base 8 "_law_asked" ["_law_which","_law_web_here","_law_root","_law_one","_law_other"] (kO CW CP CI CR CN)) (Fr:Fn P w K mg base 9 "_law_right" ["_law_pot_here","_law_web_here","_law_root"] oM):au P w K mg base GB 10 f fd ["_law_script"] (jK K):=by
 refine F.ok gc (λvs H Q E h=>?_) (λ_ _ _ _ H vs Q E hr h=>?_)
 ·obtain⟨a,ns,rfl,_⟩:=h
  rfl
 ·obtain⟨a,sc,rfl,hS,Gs,k⟩:=h
  have GP:aT 1 _:=hr.mono (by decide);have HI:aT 3 _:=hr.mono (by decide);have Vp:aT 8 _:=hr.mono (by decide);refine' ⟨_,?d0,?main⟩
  case' d0=>refine' aj (cY C6 rfl (eF rfl B.range (aa (aD (iU rfl) rfl B.max jD (aa ai (aa (aD (uO rfl) rfl B.min AC (aa ai (aa (aD bu rfl B.len Ct (aa (pv 0) ae)) ae))) ae))) ae)) (bt (i:=1) gc.nd rfl (Or.inl rfl)) ?e0) (aq (aG cb))
  case' e0=>refine' aj (aJ (i:=2) gc.nd rfl (Or.inl rfl) (ar Fp GP (aa (pv 0) (aa (pv 1) ae)))) ?e1
  case' e1=>refine' aj (dX (ar Fg HI (aa (pv 2) (aa ai (aa ai (aa ai ae))))) (dI rfl (n:=2) (bB (bt (i:=3) gc.nd rfl (Or.inr rfl)) (bB (bt (i:=4) gc.nd rfl (Or.inr rfl)) cX)))) ?e2
  case' e2=>refine' aj (aJ (i:=3) gc.nd rfl (Or.inr rfl) (br (aa (aA aF (pv 3) ai (λ_ _=>rfl)) (aa (cy cW (aA aF (pv 3) ai (λ_ _=>rfl)) cB (ck ai)) ae)))) ?e3
  case' e3=>refine' aj (eJ (i:=5) (N:=["_law_which","_law_web_here","_law_root"]) (ix:=[none,some 3,some 4]) gc.nd rfl (Or.inl rfl) ⟨rfl,rfl,rfl,by decide⟩ rfl (eF rfl B.range (aa ai ae)) (λ_ _ _ _=>bj 0 (by decide) rfl rfl) (λ_ _ _ _=>bR) (λ_ _ _ _=>ar Fk Vp (aa (pv 0) (aa (pv 1) (aa (pv 2) (aa (br ae) (aa (br ae) ae))))))) ?e4
  case' e4=>refine' aj (aQ (PW.pt (cM ?f0 (cZ ?f1))) bO aS) (aq (aQ ?g0 bO aS))
  case f0=>exact aU (cS hr) (pv 5) (aK qJ (bD (aa (br (aa bq ae)) ae)) ai) (aM _)
  case f1=>exact bz (bG (ar Fr hr (aa (pv 2) (aa (pv 3) (aa (pv 4) ae)))))
  case g0=>exact aU (cS hr) (bS (N:=["_law_which","_law_web_here","_law_root"]) (ix:=[none,some 3,some 4]) ⟨rfl,rfl,rfl,by decide⟩ rfl (eF rfl B.range (aa ai ae)) (λ_ _ _ _=>bj 0 (by decide) rfl rfl) (λ_ _ _ _=>bR) (λ_ _ _ _=>ar Fk Vp (aa (pv 0) (aa (pv 1) (aa (pv 2) (aa (br ae) (aa (br ae) ae))))))) (pv 5) (aM _)
  case main =>
  refine⟨_,rfl,a,_,rfl,.inl hS,_,_,rfl,_,_,rfl,_,rfl,?_,?_,?_⟩
  ·repeat' split
   all_goals omega
  ·repeat' split
   all_goals omega
  have Zl:∀x:Int,x=(if (if ((sc.map V.int).length:Int) < (5:Int) then ((sc.map V.int).length:Int) else 5) > 1 then (if ((sc.map V.int).length:Int) < (5:Int) then ((sc.map V.int).length:Int) else 5) else 1)->x.toNat<=8:=λx hx=>by
   subst hx
   repeat' split
   all_goals omega
  refine iT (λi σ H1=>(∃g1 g2 g3 g4 g5,σ=[some (.ref a),g1,g2,g3,g4,g5])/\ag H H1) ⟨⟨_,_,_,_,_,rfl⟩,ag.refl _⟩ ?_ (λσ H1 _=>k H1);rintro i σ H1 hi ⟨⟨g1,g2,g3,g4,g5,rfl⟩,s1⟩;have hi8:i < 8:=CC hi (Zl _ rfl);refine⟨_,rfl,_,rfl,a,sc,_,rfl,s1.seq hS,by omega,by omega,λp H2 s2 p0 P2=>?_⟩;refine⟨_,rfl,p,rfl,P2,λw0 u pa ra root ps rs H3 P3 w3 W3 G p5 r26 Gr G6 He K3=>?_⟩;refine⟨w0,_,rfl,Gp.of w3,rfl,_,_,rfl,_,_,rfl,rfl,?_⟩;have N5:=s1.trans (oW s2 p0 K3);refine⟨_,rfl,aE (j:=0) (.inr (Gp.of W3.tp)) rfl rfl ?_⟩;refine⟨_,rfl,aE (j:=1) (.inr (Gp.of W3.tp)) rfl rfl ?_⟩;refine⟨_,rfl,oi W3.rl λrb H4 s4 r4=>⟨by show 2<=sizeLine;decide,λv hv=>?_⟩⟩;rw [Ag] at r4;have s5:=ao (o:=.tup [.ref pa,.ref rb]) (ag.refl H4) hv;have W5:bc (upd H4 v (.tup [.ref pa,.ref rb])) v pa rb ps (rs.take 10):=⟨ak,s5 _ _ (s4 _ _ W3.pl),by rw [s5 _ _ r4];simp [aw],λr hr=>s5 _ _ (s4 _ _ (W3.rows r (Dq hr)))⟩
  have G5:=uX G 10;have KG:(rs.take 10).length<=10:=by rw [Dc];omega
  have OF:Str.ofString "qq"∉GA (rs.take 10):=λz=>He (by
   obtain⟨r,hr,e⟩:=Cg.mp z;rw [<- e]
   exact Co (f:=λz:Addr×Row=>z.2.1) (Dq hr))
  have Ia:=s4.trans s5;have P5:=P3.same Ia;have npv:v≠p:=λz=>by obtain⟨x,y,e,_⟩:=P3.same s4;rw [<- z,hv] at e;cases e
  generalize upd H4 v (.tup [.ref pa,.ref rb])=H5 at s5 W5 Ia P5 ⊢;generalize rs.take 10=rt at W5 G5 KG OF;have Rq:=N5.trans Ia;have Qu:=qb G5 p5 (by rw [B8];exact KG) Gr;have ahead:∀{H6:Hp},bc H6 v pa rb ps rt->∀(m:Nat),m < 4->∀(e1 e2:Addr),H6 e1=some (.tup [])->H6 e2=some (.tup [])->Ask CW CP CI CR CN (0 + (m:Int)) (.ref v) (.str root) (.ref e1) (.ref e2) H6 none "told":=λ{H6} W6 m hm e1 e2 h1 h2 =>
   .told (by omega) rfl W6 G5 (by omega) Gr rfl (Int.le_trans Qu (by decide)) rfl h1 rfl h2
  refine⟨4,rfl,by decide,by decide,fC (fits (by decide)) (λm ys σ H6=>(∃qs:List Addr,ys=qs.map V.ref/\qs.length=m/\(∀q∈qs,H6 q=some (.tup [.str (Str.ofString "told")])))/\ag H5 H6/\∃g,σ=[g,some (.ref v),some (.str root)]) ⟨⟨[],rfl,rfl,(λq hq=>nomatch hq)⟩,ag.refl _,_,rfl⟩ (λm ys σ H6 hm z=>by obtain⟨⟨qs,rfl,e,_⟩,_⟩:=z;simp;omega) ?_ ?_⟩
  ·rintro m ys σ H6 hm ⟨⟨qs,rfl,el,SE⟩,s6,g,rfl⟩
   refine⟨_,rfl,_,rfl,_,rfl,Cz _,λe1 S7=>⟨Cz _,λe2 OT=>?_⟩⟩;have u1:=ao (o:=.tup []) (ag.refl H6) S7;have u2:=ao (o:=.tup []) (ag.refl _) OT;have a1:=u2 _ _ (show upd H6 e1 (.tup []) e1=some (.tup []) from ak);have a2:upd (upd H6 e1 (.tup [])) e2 (.tup []) e2=some (.tup []):=ak;have Kw:=u1.trans u2;generalize upd (upd H6 e1 (.tup [])) e2 (.tup [])=H7 at Kw a1 a2 ⊢;refine⟨_,.ref v,.str root,.ref e1,.ref e2,none,_,rfl,by omega,by omega,ahead (W5.same (s6.trans Kw)) m (by omega) e1 e2 a1 a2,λq H8 s8 h8=>⟨⟨qs++[q],by simp,by simp [el],λx hx=>?_⟩,s6.trans (Kw.trans s8),_,rfl⟩⟩
   rcases Ck.mp hx with z | z
   ·exact s8 _ _ (Kw _ _ (SE x z))
   ·rw [Cw.mp z];exact h8
  rintro ys σ H6 ⟨⟨qs,rfl,el,SE⟩,s6,g,rfl⟩ ah Qo;have s7:=ao (o:=.lst (qs.map V.ref)) (ag.refl H6) Qo;have a7:upd H6 ah (.lst (qs.map V.ref)) ah=some (.lst (qs.map V.ref)):=ak;generalize upd H6 ah (.lst (qs.map V.ref))=H7 at s7 a7 ⊢;have Z5:qs.length=4:=el;have UD:=s6.trans s7;have P7:=P5.same UD;have Yb:ah≠p:=λz=>by obtain⟨x,y,e,_⟩:=P5.same s6;rw [<- z,Qo] at e;cases e
  have Vr:∀q∈qs,H7 q=some (.tup [.str (Str.ofString "told")]):=λq hq=>s7 _ _ (SE q hq);refine⟨_,rfl,by show 1<=sizeLine;decide,λt8 Sk=>⟨by show 1<=sizeLine;decide,λl8 Zq=>⟨l8,4,_,rfl,rfl,ak,by decide,by decide,by show 1 * 4<=sizeLine;decide,λm8 Zm=>?_⟩⟩⟩;have v1:=ao (o:=.tup [.str (Str.ofString "told")]) (ag.refl H7) Sk;have v2:=ao (o:=.lst [.ref t8]) (ag.refl _) Zq;have v3:=ao (o:=.lst (List.replicate (4:Int).toNat [V.ref t8]).flatten) (ag.refl _) Zm;have t9:=v3 _ _ (v2 _ _ (show upd H7 t8 (.tup [.str (Str.ofString "told")]) t8=some (.tup [.str (Str.ofString "told")]) from ak));have m9:upd (upd (upd H7 t8 (.tup [.str (Str.ofString "told")])) l8 (.lst [.ref t8])) m8 (.lst (List.replicate (4:Int).toNat [V.ref t8]).flatten) m8=some (.lst ([t8,t8,t8,t8].map V.ref)):=ak;have JH:=(v1.trans v2).trans v3;generalize upd (upd (upd H7 t8 (.tup [.str (Str.ofString "told")])) l8 (.lst [.ref t8])) m8 (.lst (List.replicate (4:Int).toNat [V.ref t8]).flatten)=H9 at t9 m9 JH ⊢;have dA:∀{H':Hp},H' ah=some (.lst (qs.map V.ref))->(∀q∈qs,H' q=some (.tup [.str (Str.ofString "told")]))->DV H' (.ref ah) (.list (eN 4)):=λ{H'} h1 h2=>.lst h1 (by rw [<- Z5];exact jb qs h2)
  refine⟨.list (eN 4),.list (eN 4),dA (JH _ _ a7) (λq hq=>JH _ _ (Vr q hq)),.lst m9 (jb [t8,t8,t8,t8] (λq hq=>by
   have:q=t8:=by simpa using hq
   rw [this];exact t9)),PH,PH,_,rfl,?_⟩
  rw [eq4];refine aL ?_;have Me:=UD.trans JH;have P9:=P5.same Me;refine⟨_,rfl,_,rfl,_,rfl,p,v,pa,rb,root,ps,rt,rfl,P9,W5.same Me,G5,p5,KG,Gr,G6,OF,λHs Iq G3=>⟨_,rfl,aL ?_⟩⟩;have W10:bc Hs v pa rb ps rt:=⟨G3.tup P9 (Me _ _ W5.tp),G3.tup P9 (Me _ _ W5.pl),G3.tup P9 (Me _ _ W5.rl),λr hr=>G3.tup P9 (Me _ _ (W5.rows r hr))⟩
  have T4:=G3.at Yb (JH _ _ a7);have SG:∀q∈qs,Hs q=some (.tup [.str (Str.ofString "told")]):=λq hq=>G3.tup P9 (JH _ _ (Vr q hq));refine⟨4,rfl,by decide,by decide,fC (fits (by decide)) (λm ys σ GW=>(∃qs:List Addr,ys=qs.map V.ref/\qs.length=m/\(∀q∈qs,GW q=some (.tup [.str (Str.ofString "told")])))/\ag Hs GW/\∃g,σ=[g,some (.ref v),some (.str root)]) ⟨⟨[],rfl,rfl,(λq hq=>nomatch hq)⟩,ag.refl _,_,rfl⟩ (λm ys σ H6 hm z=>by obtain⟨⟨qs,rfl,e,_⟩,_⟩:=z;simp;omega) ?_ ?_⟩
  ·rintro m ys σ GW hm ⟨⟨Lu,rfl,TF,Mv⟩,J7,g,rfl⟩
   refine⟨_,rfl,_,rfl,_,rfl,Cz _,λe1 S7=>⟨Cz _,λe2 OT=>?_⟩⟩;have u1:=ao (o:=.tup []) (ag.refl GW) S7;have u2:=ao (o:=.tup []) (ag.refl _) OT;have a1:=u2 _ _ (show upd GW e1 (.tup []) e1=some (.tup []) from ak);have a2:upd (upd GW e1 (.tup [])) e2 (.tup []) e2=some (.tup []):=ak;have Kw:=u1.trans u2;generalize upd (upd GW e1 (.tup [])) e2 (.tup [])=HD at Kw a1 a2 ⊢;refine⟨_,.ref v,.str root,.ref e1,.ref e2,none,_,rfl,by omega,by omega,ahead (W10.same (J7.trans Kw)) m (by omega) e1 e2 a1 a2,λq H8 s8 h8=>⟨⟨Lu++[q],by simp,by simp [TF],λx hx=>?_⟩,J7.trans (Kw.trans s8),_,rfl⟩⟩
   rcases Ck.mp hx with z | z
   ·exact s8 _ _ (Kw _ _ (Mv x z))
   ·rw [Cw.mp z];exact h8
  rintro ys σ GW ⟨⟨Lu,rfl,TF,Mv⟩,J7,g,rfl⟩ T5 Tf;have Jk:=ao (o:=.lst (Lu.map V.ref)) (ag.refl GW) Tf;have Wn:upd GW T5 (.lst (Lu.map V.ref)) T5=some (.lst (Lu.map V.ref)):=ak;generalize upd GW T5 (.lst (Lu.map V.ref))=HD at Jk Wn ⊢;have JK:=J7.trans Jk;have TC:Lu.length=4:=TF;refine⟨_,rfl,.list (eN 4),.list (eN 4),.lst Wn (by rw [<- TC];exact jb Lu λq hq=>Jk _ _ (Mv q hq)),dA (JK _ _ T4) (λq hq=>JK _ _ (SG q hq)),PH,PH,_,rfl,?_⟩;rw [eq4];have Rh:Kp [p] H5 Hs:=(Kp.same Me).trans G3;have fin:ag H HD:=(oW (s1.trans s2) (s1.free p0) (((K3.of_same Ia).trans Rh).of_same JK))
  exact aL ⟨⟨_,_,_,_,_,rfl⟩,fin⟩
end
def aY (K:zz7) (x:Str) (st:Stmt):Prop:=∃(f:Addr) (oc:zz9) (od:Option Addr) (kV doc pm:zz9) (an:Option Addr) (cd ct:zz9) (sl:Array (Option zz9)),
 PySem.W.nsIn K mainGlobals x=some (some (.ref f))/\K.lookup f=some ⟨oc,od,.func (PySem.W.fnOf x x (dW st) (dh st) (aH st) .none kV doc pm an cd ct),sl⟩/\PySem.W.codeIn K cd x=true/\PySem.W.keepIn K (.ref f)=true
theorem BS {K:zz7}{x:Str}{st:Stmt}{f:Addr}{oc:zz9}{od:Option Addr}{kV doc pm:zz9}{an:Option Addr}{cd ct:zz9}{sl:Array (Option zz9)} (a:PySem.W.nsIn K mainGlobals x=some (some (.ref f)))
  (l:K.lookup f=some ⟨oc,od,.func (PySem.W.fnOf x x (dW st) (dh st) (aH st) .none kV doc pm an cd ct),sl⟩) (c:PySem.W.codeIn K cd x=true) (k:PySem.W.keepIn K (.ref f)=true):aY K x st :=
 ⟨f,oc,od,kV,doc,pm,an,cd,ct,sl,a,l,c,k⟩
theorem aZ {P:Program}{w:World}{K:zz7}{mg:Str->Option zz9}{base h:Heap}{x:Str}{st:Stmt}{k:Nat}{ps:List Str}{sp:Sp} (D:aY K x st) (X:K.In h) (G:h.Ns mainGlobals mg)
  (hb:∀(kV doc pm:zz9) (an:Option Addr) (GL ct:zz9) (us:List zz9),us.length=ps.length->bindArgs (PySem.W.fnOf x x (dW st) (dh st) (aH st) .none kV doc pm an GL ct) ⟨us,[]⟩=pure (ps.zip us))
  (ok:∀(f:Addr) (fd:FuncData),Gy K x x st f fd->au P w K mg base GB k f fd ps sp):Fn P w K mg base k x ps sp:=by
 obtain⟨f,oc,od,kV,doc,pm,an,cd,ct,sl,a,l,c,kk⟩:=D;have F:=jv (st:=st) l c kk;exact⟨f,_,Dl X G a,kk,F.binds hb,ok f _ F⟩
theorem df {P:Program}{w:World}{K:zz7}{mg:Str->Option zz9}{base h:Heap}{x:Str}{st:Stmt}{k:Nat}{ps:List Str}{sp:Sp} (D:aY K x st) (X:K.In h) (G:h.Ns mainGlobals mg)
  (hb:∀(kV doc pm:zz9) (an:Option Addr) (GL ct:zz9) (us:List zz9),us.length=ps.length->bindArgs (PySem.W.fnOf x x (dW st) (dh st) (aH st) .none kV doc pm an GL ct) ⟨us,[]⟩=pure (ps.zip us))
  (ok:∀(f:Addr) (fd:FuncData),Gy K x x st f fd->au P w K mg base (GX P w) k f fd ps sp):Hj P w K mg base k x ps sp:=by
 obtain⟨f,oc,od,kV,doc,pm,an,cd,ct,sl,a,l,c,kk⟩:=D;have F:=jv (st:=st) l c kk;exact⟨f,_,Dl X G a,kk,F.binds hb,ok f _ F⟩
theorem xj {P:Program}{w:World}{K:zz7}{mg:Str->Option zz9}{base h:Heap}{x:Str}{st:Stmt}{k:Nat}{ps:List Str}{sp:Option zz9->Sp} (D:aY K x st) (X:K.In h) (G:h.Ns mainGlobals mg)
  (hb:∀(kV doc pm:zz9) (an:Option Addr) (GL ct:zz9) (us:List zz9),us.length=ps.length->bindArgs (PySem.W.fnOf x x (dW st) (dh st) (aH st) .none kV doc pm an GL ct) ⟨us,[]⟩=pure (ps.zip us))
  (ok:∀(f:Addr) (fd:FuncData),Gy K x x st f fd->cT P w K mg base GB k f fd ps sp):Uh P w K mg base k x ps sp:=by
 obtain⟨f,oc,od,kV,doc,pm,an,cd,ct,sl,a,l,c,kk⟩:=D;have F:=jv (st:=st) l c kk;exact⟨f,_,Dl X G a,kk,F.binds hb,ok f _ F⟩
theorem zz1 {P:zz9->zz9->zz9->Option Addr->zz9->zz9->List zz9->Prop} (h:∀a b c d e f x0,P a b c d e f [x0]) a b c d e f:∀us:List zz9,us.length=1->P a b c d e f us
 | [_],_=>h _ _ _ _ _ _ _
theorem zz2 {P:zz9->zz9->zz9->Option Addr->zz9->zz9->List zz9->Prop} (h:∀a b c d e f x0 x1,P a b c d e f [x0,x1]) a b c d e f:∀us:List zz9,us.length=2->P a b c d e f us
 | [_,_],_=>h _ _ _ _ _ _ _ _
theorem zz3 {P:zz9->zz9->zz9->Option Addr->zz9->zz9->List zz9->Prop} (h:∀a b c d e f x0 x1 x2,P a b c d e f [x0,x1,x2]) a b c d e f:∀us:List zz9,us.length=3->P a b c d e f us
 | [_,_,_],_=>h _ _ _ _ _ _ _ _ _
theorem zz4 {P:zz9->zz9->zz9->Option Addr->zz9->zz9->List zz9->Prop} (h:∀a b c d e f x0 x1 x2 x3,P a b c d e f [x0,x1,x2,x3]) a b c d e f:∀us:List zz9,us.length=4->P a b c d e f us
 | [_,_,_,_],_=>h _ _ _ _ _ _ _ _ _ _
theorem zz5 {P:zz9->zz9->zz9->Option Addr->zz9->zz9->List zz9->Prop} (h:∀a b c d e f x0 x1 x2 x3 x4,P a b c d e f [x0,x1,x2,x3,x4]) a b c d e f:∀us:List zz9,us.length=5->P a b c d e f us
 | [_,_,_,_,_],_=>h _ _ _ _ _ _ _ _ _ _ _
theorem BR {l:PySem.W.OpenLaw}{w:World}{K:zz7}{h:Heap}{mg:Str->Option zz9}{fa:Addr} (X:K.In h) (G:h.Ns mainGlobals mg) (ZD:mg "law"=some (.ref fa)) (B:Bl mg) {Rc Wc Pc Ic Rr Nc Tc:Addr}
  (cRc:PySem.W.nsIn K mainGlobals "RootError"=some (some (.ref Rc))) (eRc:PySem.W.excIn K Rc Lm "ValueError.__new__"=true)
  (cWc:PySem.W.nsIn K mainGlobals "NoWeb"=some (some (.ref Wc))) (eWc:PySem.W.excIn K Wc Lm "ValueError.__new__"=true)
  (cPc:PySem.W.nsIn K mainGlobals "NoPlace"=some (some (.ref Pc))) (ePc:PySem.W.excIn K Pc Lm "ValueError.__new__"=true)
  (cIc:PySem.W.nsIn K mainGlobals "NoTie"=some (some (.ref Ic))) (eIc:PySem.W.excIn K Ic Lm "ValueError.__new__"=true)
  (cRr:PySem.W.nsIn K mainGlobals "NoTree"=some (some (.ref Rr))) (eRr:PySem.W.excIn K Rr Lm "ValueError.__new__"=true)
  (cNc:PySem.W.nsIn K mainGlobals "NoNumber"=some (some (.ref Nc))) (eNc:PySem.W.excIn K Nc Lm "ValueError.__new__"=true)
  (cTc:PySem.W.nsIn K mainGlobals "TooMany"=some (some (.ref Tc))) (eTc:PySem.W.excIn K Tc Lm "ValueError.__new__"=true)
  (uWcRc:fL K Wc Rc=true)
  (uPcRc:fL K Pc Rc=true)
  (uIcRc:fL K Ic Rc=true)
  (uRrRc:fL K Rr Rc=true)
  (uNcRc:fL K Nc Rc=true)
  (zve:PySem.W.nsIn K mainGlobals "ValueError"=some none)
  (qw0:PySem.W.kitOne K (.ref Wc) (.ref Wc)=some true)
  (qw1:PySem.W.kitOne K (.ref Wc) (.ref Pc)=some false)
  (qw2:PySem.W.kitOne K (.ref Wc) (.ref Ic)=some false)
  (qw3:PySem.W.kitOne K (.ref Wc) (.ref Rr)=some false)
  (qw4:PySem.W.kitOne K (.ref Wc) (.ref Nc)=some false)
  (qw5:PySem.W.kitOne K (.ref Wc) (.ref Tc)=some false)
  (qwv:PySem.W.kitOne K (.ref Wc) (.type "ValueError")=some true)
  (qwx:fM K Wc=true)
  (qp0:PySem.W.kitOne K (.ref Pc) (.ref Wc)=some false)
  (qp1:PySem.W.kitOne K (.ref Pc) (.ref Pc)=some true)
  (qp2:PySem.W.kitOne K (.ref Pc) (.ref Ic)=some false)
  (qp3:PySem.W.kitOne K (.ref Pc) (.ref Rr)=some false)
  (qp4:PySem.W.kitOne K (.ref Pc) (.ref Nc)=some false)
  (qp5:PySem.W.kitOne K (.ref Pc) (.ref Tc)=some false)
  (qpv:PySem.W.kitOne K (.ref Pc) (.type "ValueError")=some true)
  (qpx:fM K Pc=true)
  (qi0:PySem.W.kitOne K (.ref Ic) (.ref Wc)=some false)
  (qi1:PySem.W.kitOne K (.ref Ic) (.ref Pc)=some false)
  (qi2:PySem.W.kitOne K (.ref Ic) (.ref Ic)=some true)
  (qi3:PySem.W.kitOne K (.ref Ic) (.ref Rr)=some false)
  (qi4:PySem.W.kitOne K (.ref Ic) (.ref Nc)=some false)
  (qi5:PySem.W.kitOne K (.ref Ic) (.ref Tc)=some false)
  (qiv:PySem.W.kitOne K (.ref Ic) (.type "ValueError")=some true)
  (qix:fM K Ic=true)
  (qr0:PySem.W.kitOne K (.ref Rr) (.ref Wc)=some false)
  (qr1:PySem.W.kitOne K (.ref Rr) (.ref Pc)=some false)
  (qr2:PySem.W.kitOne K (.ref Rr) (.ref Ic)=some false)
  (qr3:PySem.W.kitOne K (.ref Rr) (.ref Rr)=some true)
  (qr4:PySem.W.kitOne K (.ref Rr) (.ref Nc)=some false)
  (qr5:PySem.W.kitOne K (.ref Rr) (.ref Tc)=some false)
  (qrv:PySem.W.kitOne K (.ref Rr) (.type "ValueError")=some true)
  (qrx:fM K Rr=true)
  (qn0:PySem.W.kitOne K (.ref Nc) (.ref Wc)=some false)
  (qn1:PySem.W.kitOne K (.ref Nc) (.ref Pc)=some false)
  (qn2:PySem.W.kitOne K (.ref Nc) (.ref Ic)=some false)
  (qn3:PySem.W.kitOne K (.ref Nc) (.ref Rr)=some false)
  (qn4:PySem.W.kitOne K (.ref Nc) (.ref Nc)=some true)
  (qn5:PySem.W.kitOne K (.ref Nc) (.ref Tc)=some false)
  (qnv:PySem.W.kitOne K (.ref Nc) (.type "ValueError")=some true)
  (qnx:fM K Nc=true)
  (d10:aY K "is_name" (top 10))
  (d11:aY K "is_whole" (top 11))
  (d12:aY K "is_rising" (top 12))
  (d13:aY K "is_sorted_names" (top 13))
  (d14:aY K "is_among" (top 14))
  (d15:aY K "is_tie_row" (top 15))
  (d16:aY K "is_web" (top 16))
  (d17:aY K "tie_names" (top 17))
  (d18:aY K "rows_of" (top 18))
  (d19:aY K "need_web" (top 19))
  (d20:aY K "need_number" (top 20))
  (d21:aY K "need_place" (top 21))
  (d22:aY K "need_tie" (top 22))
  (d23:aY K "need_ties" (top 23))
  (d24:aY K "first_rows" (top 24))
  (d25:aY K "come_to" (top 25))
  (d27:aY K "table_of" (top 27))
  (d28:aY K "table" (top 28))
  (d29:aY K "cleared" (top 29))
  (d30:aY K "determinant" (top 30))
  (d32:aY K "spans" (top 32))
  (d33:aY K "need_tree" (top 33))
  (d36:aY K "count_of" (top 36))
  (d37:aY K "only" (top 37))
  (d38:aY K "count_by" (top 38))
  (d39:aY K "tree_of_number" (top 39))
  (d40:aY K "count" (top 40))
  (d41:aY K "all_trees" (top 41))
  (d42:aY K "count_with" (top 42))
  (d43:aY K "tree_at" (top 43))
  (d44:aY K "number_of" (top 44))
  (d46:aY K "_law_pot" (top 46))
  (d47:aY K "_law_digit" (top 47))
  (d48:aY K "_law_name" (top 48))
  (d49:aY K "_law_grown" (top 49))
  (d50:aY K "_law_web" (top 50))
  (d51:aY K "_law_no_web" (top 51))
  (d52:aY K "_law_no_place" (top 52))
  (d53:aY K "_law_amid" (top 53))
  (d54:aY K "_law_no_ties" (top 54))
  (d55:aY K "_law_class" (top 55))
  (d56:aY K "_law_call" (top 56))
  (d57:aY K "_law_asked" (top 57))
  (d58:aY K "_law_tree" (top 58))
  (d59:aY K "_law_no_tree" (top 59))
  (d60:aY K "_law_no_number" (top 60))
  (d61:aY K "_law_right" (top 61))
  (d62:aY K "law" (top 62)) :
  ∃fd:FuncData,(∀(s:zz8) (v:zz9),BindsTo s fd ⟨[v],[]⟩ [("_law_script",v)])/\∀base:Heap,K.In base->base.Ns mainGlobals mg->au l.prog w K mg base GB 10 fa fd ["_law_script"] (jK K):=by
 obtain⟨f,oc,od,kV,doc,pm,an,cd,ct,sl,a,lk,c,kk⟩:=d62;have e:=ZD.symm.trans (Dl X G a);cases e;refine⟨PySem.W.fnOf "law" "law" (dW (top 62)) (dh (top 62)) (aH (top 62)) .none kV doc pm an cd ct,λs v=>.of_eq rfl,λbase KB _=>?_⟩;have ZX:=Dl X G cRc;have WI:=fJ KB eRc;have V4:=Dl X G cWc;have WF:=fJ KB eWc;have V7:=Dl X G cPc;have WJ:=fJ KB ePc;have Ts:=Dl X G cIc;have Uo:=fJ KB eIc;have V6:=Dl X G cRr;have WH:=fJ KB eRr;have V8:=Dl X G cNc;have WL:=fJ KB eNc;have V5:=Dl X G cTc;have WG:=fJ KB eTc;have ND:=hU KB uWcRc;have NG:=hU KB uPcRc;have NI:=hU KB uIcRc;have NF:=hU KB uRrRc;have NH:=hU KB uNcRc;have Z:Nm mg Wc Pc Ic Rr Nc Tc:=⟨V4,V7,Ts,V6,V8,V5,CJ X G zve⟩
 have Ow:Nh K Wc Wc Pc Ic Rr Nc Tc true false false false false false:=⟨ia qwx,qw0,qw1,qw2,qw3,qw4,qw5,qwv⟩
 have Op:Nh K Pc Wc Pc Ic Rr Nc Tc false true false false false false:=⟨ia qpx,qp0,qp1,qp2,qp3,qp4,qp5,qpv⟩
 have Oi:Nh K Ic Wc Pc Ic Rr Nc Tc false false true false false false:=⟨ia qix,qi0,qi1,qi2,qi3,qi4,qi5,qiv⟩
 have Or:Nh K Rr Wc Pc Ic Rr Nc Tc false false false true false false:=⟨ia qrx,qr0,qr1,qr2,qr3,qr4,qr5,qrv⟩
 have On:Nh K Nc Wc Pc Ic Rr Nc Tc false false false false true false:=⟨ia qnx,qn0,qn1,qn2,qn3,qn4,qn5,qnv⟩
 have FD:=@aZ l.prog w K mg base h;have U6:=FD d10 X G (ps:=["thing"]) (zz1 (by intros;rfl)) λf fd F=>uI F B;have Mp:=FD d10 X G (ps:=["thing"]) (zz1 (by intros;rfl)) λf fd F=>wg F B;have PY:=FD d11 X G (ps:=["thing"]) (zz1 (by intros;rfl)) λf fd F=>my F B;have Sb:=FD d11 X G (ps:=["thing"]) (zz1 (by intros;rfl)) λf fd F=>au.or (my F B) (uK F B);have U5:=FD d12 X G (ps:=["names"]) (zz1 (by intros;rfl)) λf fd F=>mq F B;have Mo:=FD d12 X G (ps:=["names"]) (zz1 (by intros;rfl)) λf fd F=>ux F B;have U4:=FD d13 X G (ps:=["thing"]) (zz1 (by intros;rfl)) λf fd F=>tP F B U6 U5;have Sa:=FD d13 X G (ps:=["thing"]) (zz1 (by intros;rfl)) λf fd F=>mD F B Mp Mo;have R9:=FD d13 X G (ps:=["thing"]) (zz1 (by intros;rfl)) λf fd F=>au.or (mD F B Mp Mo) (uF F B);have Mn:=FD d14 X G (ps:=["thing","names"]) (zz2 (by intros;rfl)) λf fd F=>tV F B;have R8:=FD d14 X G (ps:=["thing","names"]) (zz2 (by intros;rfl)) λf fd F=>vA F B;have Ot:=FD d14 X G (ps:=["thing","names"]) (zz2 (by intros;rfl)) λf fd F=>vH F B;have YC:=FD d15 X G (ps:=["thing","places"]) (zz2 (by intros;rfl)) λf fd F=>tH F B U6 Mn;have R7:=FD d15 X G (ps:=["thing","places"]) (zz2 (by intros;rfl)) λf fd F=>yM F B Mp R8;have U3:=FD d16 X G (ps:=["thing"]) (zz1 (by intros;rfl)) λf fd F=>u5 F B U4 YC U5;have R0:=FD d16 X G (ps:=["thing"]) (zz1 (by intros;rfl)) λf fd F=>xS F B Sa R7 Mo;have RZ:=FD d17 X G (ps:=["web"]) (zz1 (by intros;rfl)) λf fd F=>tL F;have RY:=FD d18 X G (ps:=["web","names"]) (zz2 (by intros;rfl)) λf fd F=>ui F;have Os:=FD d19 X G (ps:=["thing"]) (zz1 (by intros;rfl)) λf fd F=>mx F U3;have KN:=df (P:=l.prog) (w:=w) (base:=base) d19 X G (ps:=["thing"]) (zz1 (by intros;rfl)) λf fd F=>au.or (mx F U3).lift (tN F V4 WF R0);have YB:=FD d20 X G (ps:=["thing","low","high"]) (zz3 (by intros;rfl)) λf fd F=>mi F PY;have RX:=df (P:=l.prog) (w:=w) (base:=base) d20 X G (ps:=["thing","low","high"]) (zz3 (by intros;rfl)) λf fd F=>au.or (mi F PY).lift (tj F B V8 WL Sb);have Oq:=FD d21 X G (ps:=["web","thing"]) (zz2 (by intros;rfl)) λf fd F=>mj F Mn;have KM:=df (P:=l.prog) (w:=w) (base:=base) d21 X G (ps:=["web","thing"]) (zz2 (by intros;rfl)) λf fd F=>au.or (mj F Mn).lift (tE F V7 WJ Ot);have U2:=FD d22 X G (ps:=["web","thing"]) (zz2 (by intros;rfl)) λf fd F=>qP F Mn RZ;have RW:=df (P:=l.prog) (w:=w) (base:=base) d22 X G (ps:=["web","thing"]) (zz2 (by intros;rfl)) λf fd F=>au.or (qP F Mn RZ).lift (xu F Ts Uo Ot RZ);have YA:=FD d23 X G (ps:=["web","thing"]) (zz2 (by intros;rfl)) λf fd F=>pd F B U2;have RV:=df (P:=l.prog) (w:=w) (base:=base) d23 X G (ps:=["web","thing"]) (zz2 (by intros;rfl)) λf fd F=>au.or (pd F B U2).lift (wR F B Ts Uo RW);have Yz:=FD d24 X G (ps:=["rows","start"]) (zz2 (by intros;rfl)) λf fd F=>tG F B;have Yy:=FD d25 X G (ps:=["rows","start"]) (zz2 (by intros;rfl)) λf fd F=>uE F Yz;have U1:=FD d27 X G (ps:=["places","root","rows"]) (zz3 (by intros;rfl)) λf fd F=>wM F B;have Yx:=df (P:=l.prog) (w:=w) (base:=base) d28 X G (ps:=["web","root"]) (zz2 (by intros;rfl)) λf fd F=>au.or (vI F Os Oq U1).lift (vJ F KN KM);have Yw:=FD d29 X G (ps:=["left","last"]) (zz2 (by intros;rfl)) λf fd F=>uw F B;have Yv:=FD d30 X G (ps:=["rows"]) (zz1 (by intros;rfl)) λf fd F=>zA F B Yw;have U0:=FD d32 X G (ps:=["web","root","thing"]) (zz3 (by intros;rfl)) λf fd F=>wU F B U4 RY Yy;have RU:=FD d32 X G (ps:=["web","root","thing"]) (zz3 (by intros;rfl)) λf fd F=>uU F B R9 RY;have Yu:=FD d33 X G (ps:=["web","root","thing"]) (zz3 (by intros;rfl)) λf fd F=>pw F U0;have RT:=df (P:=l.prog) (w:=w) (base:=base) d33 X G (ps:=["web","root","thing"]) (zz3 (by intros;rfl)) λf fd F=>au.or (pw F U0).lift (wL F V6 WH RU);have PX:=FD d36 X G (ps:=["places","root","rows"]) (zz3 (by intros;rfl)) λf fd F=>tU F Yv U1;have RS:=FD d37 X G (ps:=["rows","row"]) (zz2 (by intros;rfl)) λf fd F=>yn F;have UZ:=FD d38 X G (ps:=["places","root","rows","row"]) (zz4 (by intros;rfl)) λf fd F=>ub F PX RS;have UY:=FD d39 X G (ps:=["web","root","number"]) (zz3 (by intros;rfl)) λf fd F=>Am F B UZ RS;have UX:=FD d40 X G (ps:=["web","root"]) (zz2 (by intros;rfl)) λf fd F=>nV F Os Oq PX;have Mm:=df (P:=l.prog) (w:=w) (base:=base) d40 X G (ps:=["web","root"]) (zz2 (by intros;rfl)) λf fd F=>au.or (nV F Os Oq PX).lift (vg F KN KM);have Yt:=df (P:=l.prog) (w:=w) (base:=base) d41 X G (ps:=["web","root"]) (zz2 (by intros;rfl)) λf fd F=>au.or (ze F B V5 WG UX UY) (xo F Mm);have Ys:=df (P:=l.prog) (w:=w) (base:=base) d42 X G (ps:=["web","root","some","others"]) (zz4 (by intros;rfl)) λf fd F=>au.or (Az F Os Oq YA RY PX).lift (zL F KN KM RV);have Yr:=df (P:=l.prog) (w:=w) (base:=base) d43 X G (ps:=["web","root","number"]) (zz3 (by intros;rfl)) λf fd F=>au.or (Aw F YB UX UY).lift (zD F RX Mm λps root rs G _=>qA G);have Yq:=df (P:=l.prog) (w:=w) (base:=base) d44 X G (ps:=["web","root","tree"]) (zz3 (by intros;rfl)) λf fd F=>au.or (AA F Os Oq Yu RS UZ).lift (yW F KN KM RT);have Yp:=FD d46 X G (ps:=["_law_script","_law_k"]) (zz2 (by intros;rfl)) λf fd F=>zC F B;have KL:=FD d47 X G (ps:=["_law_pot_here","_law_many"]) (zz2 (by intros;rfl)) λf fd F=>wG F B;have Yo:=FD d48 X G (ps:=["_law_pot_here","_law_k"]) (zz2 (by intros;rfl)) λf fd F=>xh F B KL;have Yn:=FD d49 X G (ps:=["_law_pot_here","_law_places","_law_root"]) (zz3 (by intros;rfl)) λf fd F=>v8 F B KL;have Ym:=FD d50 X G (ps:=["_law_pot_here","_law_most_places","_law_most_trees","_law_most_more"]) (zz4 (by intros;rfl)) λf fd F=>zm F B KL Yo Yn;have Yl:=FD d51 X G (ps:=["_law_pot_here","_law_web_here"]) (zz2 (by intros;rfl)) λf fd F=>vd F B KL;have Yk:=FD d52 X G (ps:=["_law_pot_here","_law_web_here"]) (zz2 (by intros;rfl)) λf fd F=>tY F B KL;have UW:=FD d53 X G (ps:=["_law_pot_here","_law_good","_law_odd"]) (zz3 (by intros;rfl)) λf fd F=>xR F B KL;have Yj:=FD d54 X G (ps:=["_law_pot_here","_law_web_here"]) (zz2 (by intros;rfl)) λf fd F=>ut F B KL UW;have Yi:=xj (P:=l.prog) (w:=w) (base:=base) d55 X G (ps:=["_law_e"]) (zz1 (by intros;rfl)) λf fd F=>cT.or (hV (nm:="web") (j:=0) F B Z Ow (by decide) (by decide) (by decide) (by decide)) (cT.or (hV (nm:="place") (j:=1) F B Z Op (by decide) (by decide) (by decide) (by decide)) (cT.or (hV (nm:="tie") (j:=2) F B Z Oi (by decide) (by decide) (by decide) (by decide)) (cT.or (hV (nm:="tree") (j:=3) F B Z Or (by decide) (by decide) (by decide) (by decide)) (hV (nm:="number") (j:=4) F B Z On (by decide) (by decide) (by decide) (by decide)))));have Yh:=df (P:=l.prog) (w:=w) (base:=base) d56 X G (ps:=["_law_which","_law_web_here","_law_root","_law_one","_law_other"]) (zz5 (by intros;rfl)) λf fd F=>yJ F Yx Mm Yt Ys Yr Yq;have UV:=FD d57 X G (ps:=["_law_which","_law_web_here","_law_root","_law_one","_law_other"]) (zz5 (by intros;rfl)) λf fd F=>vX F ZX WI ND NG NI NF NH Yh Yi;have Yg:=FD d58 X G (ps:=["_law_web_here","_law_root"]) (zz2 (by intros;rfl)) λf fd F=>ud F B;have Yf:=FD d59 X G (ps:=["_law_pot_here","_law_tree_here"]) (zz2 (by intros;rfl)) λf fd F=>uB F B KL UW;have Ye:=FD d60 X G (ps:=["_law_pot_here"]) (zz1 (by intros;rfl)) λf fd F=>tK F B KL;have Yc:=FD d61 X G (ps:=["_law_pot_here","_law_web_here","_law_root"]) (zz3 (by intros;rfl)) λf fd F=>w4 F Yl Yk Yj UV Ye Yg Yf B;exact zP (jv (st:=top 62) lk c kk) B Yp Ym UV Yc
theorem BY {K:zz7}{h:Heap}{mg:Str->Option zz9} (X:K.In h) (G:h.Ns mainGlobals mg) {JG:Tok}{Lo:Tok}
  (Nv:PySem.W.nsIn K mainGlobals "len"=some none)
  (HL:PySem.W.nsIn K mainGlobals "isinstance"=some none)
  (Ny:PySem.W.nsIn K mainGlobals "all"=some none)
  (Kj:PySem.W.nsIn K mainGlobals "range"=some none)
  (JC:PySem.W.nsIn K mainGlobals "sorted"=some none)
  (LU:PySem.W.nsIn K mainGlobals "repr"=some none)
  (Nt:PySem.W.nsIn K mainGlobals "max"=some none)
  (Nr:PySem.W.nsIn K mainGlobals "min"=some none)
  (Np:PySem.W.nsIn K mainGlobals "str"=some none)
  (Ki:PySem.W.nsIn K mainGlobals "tuple"=some none)
  (LW:PySem.W.nsIn K mainGlobals "list"=some none)
  (Nw:PySem.W.nsIn K mainGlobals "int"=some none)
  (LY:PySem.W.nsIn K mainGlobals "bool"=some none)
  (Nn:PySem.W.nsIn K mainGlobals "zip"=some none)
  (JD:PySem.W.nsIn K mainGlobals "divmod"=some none)
  (Nz:PySem.W.nsIn K mainGlobals "abs"=some none)
  (Nq:PySem.W.nsIn K mainGlobals "set"=some none)
  (Ih:PySem.W.nsIn K mainGlobals "enumerate"=some none)
  (LX:PySem.W.nsIn K mainGlobals "dict"=some none)
  (LV:PySem.W.nsIn K mainGlobals "MOST_LISTED"=some (some (.int 100 JG)))
  (Nu:PySem.W.nsIn K mainGlobals "LONGEST_NAME"=some (some (.int 8 Lo)))
  : Bl mg :=
 ⟨CJ X G Nv,CJ X G HL,CJ X G Ny,CJ X G Kj,CJ X G JC,CJ X G LU,CJ X G Nt,CJ X G Nr,CJ X G Np,CJ X G Ki,CJ X G LW,CJ X G Nw,CJ X G LY,CJ X G Nn,CJ X G JD,CJ X G Nz,CJ X G Nq,CJ X G Ih,CJ X G LX,⟨JG,Dl X G LV⟩,⟨Lo,Dl X G Nu⟩⟩
theorem walk {l:PySem.W.OpenLaw}{q:Program}{loose:List Str}{XP:(Str->Option zz9)->Heap->Prop}{YP:World->Heap->Prop}{d:DefRec}{K:Params->zz7} (hn:l.most=some 63) (OU:d.params.defaults=[])
  (hY:∀(w:World) (h:Heap),YP w h->(K w.params).In h)
  (F:∀(w:World) (mg:Str->Option zz9) (fa:Addr) (h:Heap),(K w.params).In h->h.Ns mainGlobals mg->mg d.name=some (.ref fa) ->
   ∃fd:FuncData,(∀(s:zz8) (u:zz9),BindsTo s fd ⟨[u],[]⟩ [("_law_script",u)])/\∀base:Heap,(K w.params).In base->base.Ns mainGlobals mg->au l.prog w (K w.params) mg base GB 10 fa fd ["_law_script"] (jK (K w.params))) :
  PySem.W.WalkO q loose XP YP l.row.toRowW d [] (λf vs=>PySem.call f vs) :=
 L2.BL (n:=63) (k:=10) (x:="_law_script") (CX:=λ_=>GB) (sp:=λw=>jK (K w.params)) hn (by decide) OU ⟨rfl,by decide,by decide,rfl⟩ hY F (λ_ _ a ns hl _ hS=>⟨a,ns,rfl,hS,hl,λ_=>rfl⟩) λ_ _ _ _ _ z=>z
end K85
namespace PySem.W.Fast
def tw10423270713683166911:=0
def tw15669427529927468934:=0
def tw131838778797239499:=0
def tw4479479341440334897:=0
def tw1479467803819478149:=0
def tw10769955951861233058:=0
def tw273369432395057247:=0
def tw5246462417791934619:=0
def tw622800142402652069:=0
def tw5661439644601727911:=0
def tw12282325457144108281:=0
def tw1197285496924868654:=0
def tw1040579973122631451:=0
def tw3693486818890578622:=0
def tw4317422998029847320:=0
def tw12043685691657817888:=0
def tw11390217322720543864:=0
def tw778787205548741523:=0
def tw11124507298595199915:=0
def tw15566885934788084858:=0
def tw10601611056829074132:=0
def tw497290816164488527:=0
def tw1594878380365395340:=0
def tw13754293126315245069:=0
def tw6288420061722307002:=0
def tw15840442893652493175:=0
def tw5853677579577391899:=0
def tw1259347344956948615:=0
def tw13450739329782093940:=0
def tw140621565268393612:=0
def tw7812307726983647003:=0
def tw281265881394853410:=0
def tw1375826128438829197:=0
def tw7612321378131644334:=0
def tw3349958830444123879:=0
def tw6248693426537183213:=0
def tw1602386959187441605:=0
def tw3765321568303383363:=0
def tw10523198460119131961:=0
def tw2790843773562683137:=0
def tw14504300348986457768:=0
def tw7511586217123104635:=0
def tw9018155426788953963:=0
def tw9427247523842439175:=0
def tw539944672941581974:=0
def tw13893285241154616221:=0
def tw1201060892991247978:=0
def tw8063830992699549437:=0
def tw13179049054321770250:=0
def tw15153731873580803363:=0
def tw1555933854880614868:=0
def tw18209856784118898150:=0
def tw11814827616041548891:=0
def tw875275789239644116:=0
def tw2356888340693654993:=0
def tw10417519794454384589:=0
def tw7827373335861821320:=0
def tw6696136068683428380:=0
def tw1654766455639722724:=0
def tw18222447829587610978:=0
def tw17340981281382998546:=0
def tw2488976830895317278:=0
def tw14475379869187967442:=0
def tw12511188020406935496:=0
def tw2450511694910581583:=0
def tw11272249744505922967:=0
def tw11168688334343563291:=0
def tw7406921027712581080:=0
def tw7371807824263329702:=0
def tw10172442010614449789:=0
def tw3628134038437444043:=0
def tw15018154727353922339:=0
def tw16777246821655415082:=0
def tw9963809738610107481:=0
def tw16943266448343853763:=0
def tw1149665959004444557:=0
def tw15916581243650607917:=0
def tw7202368399907717017:=0
def tw14574031618854035211:=0
def tw15340057240011433863:=0
def tw346025486525358149:=0
def tw8115949942889846970:=0
def tw14984778174214234355:=0
def tw15172958453982977746:=0
def tw6038418328492957796:=0
def tw11636722124966005165:=0
def tw10678567750898398715:=0
def tw5201246212426760898:=0
def tw2375723671615207475:=0
def tw5698861970817761231:=0
def tw16780993751819243835:=0
def tw14312956357958214701:=0
def tw15898388089158984559:=0
def tw10523530360572023078:=0
def tw14446488090863065160:=0
def tw15659088264969551488:=0
def tw9149587777220416255:=0
def tw17994958581302042370:=0
def tw760115906025626465:=0
def tw8698549068792707346:=0
def tw18231983163484216987:=0
def tw18391333627306072494:=0
def tw16637344852308271239:=0
def tw13298193090710826699:=0
def tw12702531455401410689:=0
def tw18327901526576708112:=0
def tw7457146596236125856:=0
def tw4182774651515636167:=0
def tw14087456992829010469:=0
def tw1687197877540625594:=0
def tw13114301821168507138:=0
def tw4694730926417990498:=0
def tw10321130428875975784:=0
def tw4669076113341540924:=0
def tw8875394479576718604:=0
def tw11236388061241526601:=0
def tw8134423678913925948:=0
def tw1248092666345760196:=0
def tw12062947027674172219:=0
def tw12259322771011980537:=0
def tw14787907332705209257:=0
def tw11654203957675469251:=0
end PySem.W.Fast
open PySem PySem.W PyProof.Rows
set_option maxRecDepth 100000 in
set_option maxHeartbeats 0 in
theorem PySem.Challenge.cw_rootshares_k85_trees_counted_refused_holds : PySem.Challenge.rw_rootshares_k85_trees_counted_refused.Holds := by
 w_on;o_law;k_head;(case hw=>w_witness2)
 k_fill
 refine K85.walk (l:=PySem.Challenge.rw_rootshares_k85_trees_counted_refused) rfl rfl (λw h Y=>PySem.W.kIn_of Y) ?F
 case F =>
  intro w mg fa h KX G MC;have B:K85.Bl mg:=by
   refine' K85.BY KX G ?len ?isinstance ?all ?range ?sorted ?repr ?max ?min ?str ?tuple ?list ?int ?bool ?zip ?divmod ?abs ?set ?enumerate ?dict ?most ?lng
   (case len=>k_is)
   (case isinstance=>k_is)
   (case all=>k_is)
   (case range=>k_is)
   (case sorted=>k_is)
   (case repr=>k_is)
   (case max=>k_is)
   (case min=>k_is)
   (case str=>k_is)
   (case tuple=>k_is)
   (case list=>k_is)
   (case int=>k_is)
   (case bool=>k_is)
   (case zip=>k_is)
   (case divmod=>k_is)
   (case abs=>k_is)
   (case set=>k_is)
   (case enumerate=>k_is)
   (case dict=>k_is)
   (case most=>k_is)
   (case lng=>k_is)
  refine' K85.BR KX G MC B ?cRc ?eRc ?cWc ?eWc ?cPc ?ePc ?cIc ?eIc ?cRr ?eRr ?cNc ?eNc ?cTc ?eTc ?uWcRc ?uPcRc ?uIcRc ?uRrRc ?uNcRc ?zve ?qw0 ?qw1 ?qw2 ?qw3 ?qw4 ?qw5 ?qwv ?qwx ?qp0 ?qp1 ?qp2 ?qp3 ?qp4 ?qp5 ?qpv ?qpx ?qi0 ?qi1 ?qi2 ?qi3 ?qi4 ?qi5 ?qiv ?qix ?qr0 ?qr1 ?qr2 ?qr3 ?qr4 ?qr5 ?qrv ?qrx ?qn0 ?qn1 ?qn2 ?qn3 ?qn4 ?qn5 ?qnv ?qnx ?d10 ?d11 ?d12 ?d13 ?d14 ?d15 ?d16 ?d17 ?d18 ?d19 ?d20 ?d21 ?d22 ?d23 ?d24 ?d25 ?d27 ?d28 ?d29 ?d30 ?d32 ?d33 ?d36 ?d37 ?d38 ?d39 ?d40 ?d41 ?d42 ?d43 ?d44 ?d46 ?d47 ?d48 ?d49 ?d50 ?d51 ?d52 ?d53 ?d54 ?d55 ?d56 ?d57 ?d58 ?d59 ?d60 ?d61 ?d62
  (case cRc=>k_is)
  (case cWc=>k_is)
  (case cPc=>k_is)
  (case cIc=>k_is)
  (case cRr=>k_is)
  (case cNc=>k_is)
  (case cTc=>k_is)
  (case eRc=>kernel_rfl)
  (case eWc=>kernel_rfl)
  (case ePc=>kernel_rfl)
  (case eIc=>kernel_rfl)
  (case eRr=>kernel_rfl)
  (case eNc=>kernel_rfl)
  (case eTc=>kernel_rfl)
  (case uWcRc=>kernel_rfl)
  (case uPcRc=>kernel_rfl)
  (case uIcRc=>kernel_rfl)
  (case uRrRc=>kernel_rfl)
  (case uNcRc=>kernel_rfl)
  (case zve=>k_is)
  (case qw0=>kernel_rfl)
  (case qw1=>kernel_rfl)
  (case qw2=>kernel_rfl)
  (case qw3=>kernel_rfl)
  (case qw4=>kernel_rfl)
  (case qw5=>kernel_rfl)
  (case qwv=>kernel_rfl)
  (case qwx=>kernel_rfl)
  (case qp0=>kernel_rfl)
  (case qp1=>kernel_rfl)
  (case qp2=>kernel_rfl)
  (case qp3=>kernel_rfl)
  (case qp4=>kernel_rfl)
  (case qp5=>kernel_rfl)
  (case qpv=>kernel_rfl)
  (case qpx=>kernel_rfl)
  (case qi0=>kernel_rfl)
  (case qi1=>kernel_rfl)
  (case qi2=>kernel_rfl)
  (case qi3=>kernel_rfl)
  (case qi4=>kernel_rfl)
  (case qi5=>kernel_rfl)
  (case qiv=>kernel_rfl)
  (case qix=>kernel_rfl)
  (case qr0=>kernel_rfl)
  (case qr1=>kernel_rfl)
  (case qr2=>kernel_rfl)
  (case qr3=>kernel_rfl)
  (case qr4=>kernel_rfl)
  (case qr5=>kernel_rfl)
  (case qrv=>kernel_rfl)
  (case qrx=>kernel_rfl)
  (case qn0=>kernel_rfl)
  (case qn1=>kernel_rfl)
  (case qn2=>kernel_rfl)
  (case qn3=>kernel_rfl)
  (case qn4=>kernel_rfl)
  (case qn5=>kernel_rfl)
  (case qnv=>kernel_rfl)
  (case qnx=>kernel_rfl)
  (case d10=>(refine' K85.BS ?a ?l ?c ?k;(case a=>k_is);(case l=>k_is);(case c=>k_is);(case k=>k_is)))
  (case d11=>(refine' K85.BS ?a ?l ?c ?k;(case a=>k_is);(case l=>k_is);(case c=>k_is);(case k=>k_is)))
  (case d12=>(refine' K85.BS ?a ?l ?c ?k;(case a=>k_is);(case l=>k_is);(case c=>k_is);(case k=>k_is)))
  (case d13=>(refine' K85.BS ?a ?l ?c ?k;(case a=>k_is);(case l=>k_is);(case c=>k_is);(case k=>k_is)))
  (case d14=>(refine' K85.BS ?a ?l ?c ?k;(case a=>k_is);(case l=>k_is);(case c=>k_is);(case k=>k_is)))
  (case d15=>(refine' K85.BS ?a ?l ?c ?k;(case a=>k_is);(case l=>k_is);(case c=>k_is);(case k=>k_is)))
  (case d16=>(refine' K85.BS ?a ?l ?c ?k;(case a=>k_is);(case l=>k_is);(case c=>k_is);(case k=>k_is)))
  (case d17=>(refine' K85.BS ?a ?l ?c ?k;(case a=>k_is);(case l=>k_is);(case c=>k_is);(case k=>k_is)))
  (case d18=>(refine' K85.BS ?a ?l ?c ?k;(case a=>k_is);(case l=>k_is);(case c=>k_is);(case k=>k_is)))
  (case d19=>(refine' K85.BS ?a ?l ?c ?k;(case a=>k_is);(case l=>k_is);(case c=>k_is);(case k=>k_is)))
  (case d20=>(refine' K85.BS ?a ?l ?c ?k;(case a=>k_is);(case l=>k_is);(case c=>k_is);(case k=>k_is)))
  (case d21=>(refine' K85.BS ?a ?l ?c ?k;(case a=>k_is);(case l=>k_is);(case c=>k_is);(case k=>k_is)))
  (case d22=>(refine' K85.BS ?a ?l ?c ?k;(case a=>k_is);(case l=>k_is);(case c=>k_is);(case k=>k_is)))
  (case d23=>(refine' K85.BS ?a ?l ?c ?k;(case a=>k_is);(case l=>k_is);(case c=>k_is);(case k=>k_is)))
  (case d24=>(refine' K85.BS ?a ?l ?c ?k;(case a=>k_is);(case l=>k_is);(case c=>k_is);(case k=>k_is)))
  (case d25=>(refine' K85.BS ?a ?l ?c ?k;(case a=>k_is);(case l=>k_is);(case c=>k_is);(case k=>k_is)))
  (case d27=>(refine' K85.BS ?a ?l ?c ?k;(case a=>k_is);(case l=>k_is);(case c=>k_is);(case k=>k_is)))
  (case d28=>(refine' K85.BS ?a ?l ?c ?k;(case a=>k_is);(case l=>k_is);(case c=>k_is);(case k=>k_is)))
  (case d29=>(refine' K85.BS ?a ?l ?c ?k;(case a=>k_is);(case l=>k_is);(case c=>k_is);(case k=>k_is)))
  (case d30=>(refine' K85.BS ?a ?l ?c ?k;(case a=>k_is);(case l=>k_is);(case c=>k_is);(case k=>k_is)))
  (case d32=>(refine' K85.BS ?a ?l ?c ?k;(case a=>k_is);(case l=>k_is);(case c=>k_is);(case k=>k_is)))
  (case d33=>(refine' K85.BS ?a ?l ?c ?k;(case a=>k_is);(case l=>k_is);(case c=>k_is);(case k=>k_is)))
  (case d36=>(refine' K85.BS ?a ?l ?c ?k;(case a=>k_is);(case l=>k_is);(case c=>k_is);(case k=>k_is)))
  (case d37=>(refine' K85.BS ?a ?l ?c ?k;(case a=>k_is);(case l=>k_is);(case c=>k_is);(case k=>k_is)))
  (case d38=>(refine' K85.BS ?a ?l ?c ?k;(case a=>k_is);(case l=>k_is);(case c=>k_is);(case k=>k_is)))
  (case d39=>(refine' K85.BS ?a ?l ?c ?k;(case a=>k_is);(case l=>k_is);(case c=>k_is);(case k=>k_is)))
  (case d40=>(refine' K85.BS ?a ?l ?c ?k;(case a=>k_is);(case l=>k_is);(case c=>k_is);(case k=>k_is)))
  (case d41=>(refine' K85.BS ?a ?l ?c ?k;(case a=>k_is);(case l=>k_is);(case c=>k_is);(case k=>k_is)))
  (case d42=>(refine' K85.BS ?a ?l ?c ?k;(case a=>k_is);(case l=>k_is);(case c=>k_is);(case k=>k_is)))
  (case d43=>(refine' K85.BS ?a ?l ?c ?k;(case a=>k_is);(case l=>k_is);(case c=>k_is);(case k=>k_is)))
  (case d44=>(refine' K85.BS ?a ?l ?c ?k;(case a=>k_is);(case l=>k_is);(case c=>k_is);(case k=>k_is)))
  (case d46=>(refine' K85.BS ?a ?l ?c ?k;(case a=>k_is);(case l=>k_is);(case c=>k_is);(case k=>k_is)))
  (case d47=>(refine' K85.BS ?a ?l ?c ?k;(case a=>k_is);(case l=>k_is);(case c=>k_is);(case k=>k_is)))
  (case d48=>(refine' K85.BS ?a ?l ?c ?k;(case a=>k_is);(case l=>k_is);(case c=>k_is);(case k=>k_is)))
  (case d49=>(refine' K85.BS ?a ?l ?c ?k;(case a=>k_is);(case l=>k_is);(case c=>k_is);(case k=>k_is)))
  (case d50=>(refine' K85.BS ?a ?l ?c ?k;(case a=>k_is);(case l=>k_is);(case c=>k_is);(case k=>k_is)))
  (case d51=>(refine' K85.BS ?a ?l ?c ?k;(case a=>k_is);(case l=>k_is);(case c=>k_is);(case k=>k_is)))
  (case d52=>(refine' K85.BS ?a ?l ?c ?k;(case a=>k_is);(case l=>k_is);(case c=>k_is);(case k=>k_is)))
  (case d53=>(refine' K85.BS ?a ?l ?c ?k;(case a=>k_is);(case l=>k_is);(case c=>k_is);(case k=>k_is)))
  (case d54=>(refine' K85.BS ?a ?l ?c ?k;(case a=>k_is);(case l=>k_is);(case c=>k_is);(case k=>k_is)))
  (case d55=>(refine' K85.BS ?a ?l ?c ?k;(case a=>k_is);(case l=>k_is);(case c=>k_is);(case k=>k_is)))
  (case d56=>(refine' K85.BS ?a ?l ?c ?k;(case a=>k_is);(case l=>k_is);(case c=>k_is);(case k=>k_is)))
  (case d57=>(refine' K85.BS ?a ?l ?c ?k;(case a=>k_is);(case l=>k_is);(case c=>k_is);(case k=>k_is)))
  (case d58=>(refine' K85.BS ?a ?l ?c ?k;(case a=>k_is);(case l=>k_is);(case c=>k_is);(case k=>k_is)))
  (case d59=>(refine' K85.BS ?a ?l ?c ?k;(case a=>k_is);(case l=>k_is);(case c=>k_is);(case k=>k_is)))
  (case d60=>(refine' K85.BS ?a ?l ?c ?k;(case a=>k_is);(case l=>k_is);(case c=>k_is);(case k=>k_is)))
  (case d61=>(refine' K85.BS ?a ?l ?c ?k;(case a=>k_is);(case l=>k_is);(case c=>k_is);(case k=>k_is)))
  (case d62=>(refine' K85.BS ?a ?l ?c ?k;(case a=>k_is);(case l=>k_is);(case c=>k_is);(case k=>k_is)))
