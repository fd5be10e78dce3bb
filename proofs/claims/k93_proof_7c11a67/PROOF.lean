import PyProof.Rows.All
import Wide.All
import OpenK.AllK
import Wide.FinOn
import Lean
import PyProof.EqAt
import PyProof.EqKinds
import PyProof.TupleCall
import KE.KSortTup
import KE.KDictSum
import KE.KDictOf
import PyProof.AttrMissHeap
import PyProof.WalksEnum
import PyProof.EnumMake
import PyProof.Draws
import PyProof.Rows.SetFrom
import KE.KTryOn
import KE.KTryDeep
import PySem.Challenge.RW_rootshares_k93_whole_parted_and_together
set_option Elab.async false
set_option linter.all false
set_option maxRecDepth 100000
noncomputable section
open PySem.W renaming Frag→zz7
open PySem renaming Shared→zz8,Value→zz9
open List renaming length_map→Av,mem_of_getElem?→AB,mem_map_of_mem→AC,getElem?_eq_getElem→AD,getElem?_eq_some_iff→AE,mem_map→AG,getElem?_map→AH,mem_cons→AI,mem_cons_self→AJ,mem_append_right→AK,length_filter_le→AL,mem_filter→AM,mem_cons_of_mem→AN,mem_append→AO,size_toArray→AR,map_append→AU,length_take→AW,mem_append_left→AZ,length_append→Ba,pairwise_iff_getElem→Bb,nodup_cons→Bc,mem_singleton→Bd,map_map→Bf,take_add_one→Bg,filter_sublist→Bi,map_cons→Bj,getD_eq_getElem?_getD→Bs,getElem_mem→Bt,length_cons→Bv,getElem?_append_left→By,nodup_append→BF,not_mem_nil→BM,flatten_cons→BO,getElem?_append_right→BQ,getElem?_of_mem→BS,mem_of_find?_eq_some→BU,all_eq_true→B4,take_length→B6,length_filter_lt_length_iff_exists→B8,pairwise_map→Ca,replicate_succ'→Cg,append_assoc→Ci,filter_map→Cm,replicate_succ→Co,map_congr_left→Cp,map_replicate→Cs,pairwise_cons→Ct,mem_iff_getElem→Cw,length_eq_zero_iff→CB,getElem_map→CH,countP_eq_length_filter→CI,filter_filter→CN,mem_range→CS,lookup_cons→CV,filter_cons→CY,find?_cons→C1,take_sublist→C4,length_reverse→Dd,append_nil→De,map_nil→Dk,filter_append→Dl,nodup_nil→Do,length_range→Dt,any_cons→Dx,length_drop→DA,any_eq_true→DB,mem_flatten→DC,length_replicate→DD,getElem?_toArray→DG,length_eraseIdx→DO,nil_append→DR,find?_some→DT,mem_of_mem_take→DU,filterMap_cons→DW,map_eq_nil_iff→DY,lt_irrefl→D0,mem_filterMap→D3,find?_eq_none→Ed,lt_trans→Ef,sum_cons→Eh,drop_eq_getElem_cons→Et,getElem?_take_of_lt→Ey,ext_getElem→EA,of_mem_zip→EC,length_nil→ED
open PySem renaming wpAny_bind→Aw,wpAny_pure→Az,boot_len→AY,wpAny_newObj_type→Bp,sizeLine_eq→Br,wpAny_call_entry→BG,wpAny_holding→BJ,wpAny_callSpecial?_slot→BK,codeAny_builtin→BR,wpAny_mono→BW,wpAny_truthy_bool→BX,wpAny_standAt→B7,wpAny_comprehension_free→Cd,wpAny_setField→Ce,mem_of_lookup→Cn,wpAny_of_eq→Cv,plainId_quiet→Cz,wpAny_typeNameOfWhole_keyiter→CA,wpAny_fieldsOf→CF,wpAny_askSetting→CG,codeAny_mono→CJ,wpAny_passesOwn→CO,wpAny_setState_of→CQ,wpAny_seqItems→CT,isSubtype_type→CU,wpAny_typeNameOf_keyiter→CW,wpAny_setEntries_of→CZ,wpAny_updateSeq→C2,wpAny_rule→C5,wpAny_newFunctionEnv→C6,wpAny_attempt→C9,wpAny_field→Dc,wpAny_pyIter_tuple→Dh,wpAny_typeOf→Dj,wpAny_pyIter_list→Ds,wpAny_newList→Dz,wpAny_isOneOf_keyiter→DF,builtinLookup_eq_fast→DH,wpAny_execs_nil→DK,call_meets→DL,codeAny_of_tree→DN,wpAny_runValue→DZ,wpAny_tryCatch→D1,wpAny_Call_Name_kw→Ea,tupleKind_room_in1→Ec,wpAny_assign_Name→Ej,wpAny_dictEntries→Em,wpAny_pyIter_slot→En,wpAny_load→Ep,codeAny_loop→Ez,strKind_is→EB
open PySem.Heap renaming get?_push_of_some→AA,lt_size→AQ,get?_push_size→AS,get?_update_other→Bw,get?_update_self→BN,size_push→B0
open Nat renaming le_refl→AF,le_trans→AV,zero_le→Be,ne_of_lt→Bh,lt_of_lt_of_le→Bk,le_of_lt→BH,lt_irrefl→BI,lt_succ_of_lt→BY,le_succ→Cu,lt_succ_self→CD,lt_or_gt_of_ne→CK,lt_or_ge→CM,not_lt_zero→C0,le_add_right→C7,pow_le_pow_right→DQ,le_antisymm→DS,mod_lt→Er,ne_of_gt→Eu
open Bool renaming false_ne_true→AX,not_eq_true→BA,and_eq_true→BL,eq_iff_iff→Cb,false_eq_true→Cq,not_eq_true'→Du,and_comm→Ei
open PySem.PassesOwn renaming never→Bm
open PySem.F renaming plainAttrs_list→Bo,called_set→Bz,slot_list_append→BB,type_list_append→BC,slot_dict_keyiterator_next→Cf,plain_min_loop→CC,slot_tuple_iterator_next→CP,args_tuple_add_2→Di,entry_tuple_add→Dp,slot_tuple_add→Dv,plainAttrs_str→Dw,slot_str_join→DI,type_str_join→DJ,args_dict_keyiterator_next_1→DM,plain_extend_loop→Es
open PySem.W renaming mg_none_of→Bu,kia_one→B3,mg_of→Dy
open Option.some renaming inj→Bx
open Array renaming length_toList→BD,getElem?_eq_getElem→BE,getElem?_toList→BZ,getD_eq_getD_getElem?→Ck,getElem?_eq_none→C3,toList_append→DX,perm_iff_toList_perm→Ee
open PyProof.Rows renaming slot_tuple_getitem→BP,callWith_type1→Cj
open PySem.Heap.SameBut renaming update→BV,refl→Ek
open PySem.Around renaming under_plainId→B5
open Int renaming toNat_natCast→B9,emod_lt_of_pos→Dm,eq_ofNat_of_zero_le→Dr,emod_nonneg→DP
open Ne renaming symm→Cc
open List.Perm renaming refl→Cr
open PySem.Str renaming length_append→Cy
open PySem.Obj renaming data_mapFields→CL,isFreed_of_fields→DE,cls_mapFields→El
open PySem.Paired renaming length→C8
open PySem.W.KasT renaming kasWp_bind→Df
open Option renaming map_some→Dg,isSome_iff_exists→Ew
open PyProof.Rows.F renaming plain_set_update_loop→Dq
open Sum.inr renaming inj→D2
open PySem.Code renaming quiet_builtin→Eb
open List.cons renaming inj→Eg
open List.Sublist renaming refl→Eo
namespace L2
open PySem PySem.Spec PyProof.Rows
abbrev Key:=Sum Int Str
def fW:Key->zz9->Bool
 | .inl k,v=>Value.isInt k v
 | .inr x,v=>Value.isStrOf x v
def zk (w:World):Key->Int
 | .inl k=>hashInt k
 | .inr x=>hashStr w x
theorem eg:∀{k:Key}{v:zz9},fW k v=true->(∃i t,k=Sum.inl i/\v=Value.int i t)\/(∃x t,k=Sum.inr x/\v=Value.str x t)
 | .inl i,v,h=>by
  obtain⟨t,e⟩:=Value.isInt_shape (k:=i) (v:=v) h;exact .inl ⟨i,t,rfl,e⟩
 | .inr x,v,h=>by
  obtain⟨t,e⟩:=Value.isStrOf_shape (x:=x) (v:=v) h;exact .inr ⟨x,t,rfl,e⟩
theorem uj (i:Int) (t:Tok):fW (.inl i) (.int i t)=true:=by simp [fW,Value.isInt]
theorem uG (x:Str) (t:Tok):fW (.inr x) (.str x t)=true:=by simp [fW,Value.isStrOf]
theorem xF (a b:Int):decide ((Sum.inl a:Key)=Sum.inl b)=(a == b):=by
 by_cases e:a=b
 ·subst e;simp
 ·have h:¬ (Sum.inl a:Key)=Sum.inl b:=λq=>e (Sum.inl.inj q)
  rw [decide_eq_false h];exact (beq_eq_false_iff_ne.mpr e).symm
theorem x8 (a b:Str):decide ((Sum.inr a:Key)=Sum.inr b)=decide (a=b):=by
 by_cases e:a=b
 ·subst e;simp
 ·have h:¬ (Sum.inr a:Key)=Sum.inr b:=λq=>e (D2 q)
  rw [decide_eq_false h,decide_eq_false e]
theorem yj (a:Int) (b:Str):decide ((Sum.inl a:Key)=Sum.inr b)=false:=decide_eq_false (λq=>nomatch q)
theorem ye (a:Str) (b:Int):decide ((Sum.inr a:Key)=Sum.inl b)=false:=decide_eq_false (λq=>nomatch q)
def cN (prog:Program) (w:World):PySem.KeyKind prog w Key where
 is:=fW
 hash:=zk w
 inj:=λv a b ha hb=>by
  rcases eg ha with ⟨i,t,rfl,rfl⟩ | ⟨x,t,rfl,rfl⟩
  ·rcases eg hb with ⟨j,u,rfl,e⟩ | ⟨y,u,rfl,e⟩
   ·injection e with e1 _;rw [e1]
   ·exact nomatch e
  ·rcases eg hb with ⟨j,u,rfl,e⟩ | ⟨y,u,rfl,e⟩
   ·exact nomatch e
   ·injection e with e1 _;rw [e1]
 byValue:=λk v h=>by
  rcases eg h with ⟨i,t,rfl,rfl⟩ | ⟨x,t,rfl,rfl⟩ <;> rfl
 pyHash:=λhv h=>by
  rcases eg hv with ⟨i,t,rfl,rfl⟩ | ⟨x,t,rfl,rfl⟩
  ·exact wpAny_pyHash_int h
  ·exact wpAny_pyHash_str h
 eqBool:=λhu hv h=>by
  rcases eg hu with ⟨i,t,rfl,rfl⟩ | ⟨x,t,rfl,rfl⟩
  ·rcases eg hv with ⟨j,u,rfl,rfl⟩ | ⟨y,u,rfl,rfl⟩
   ·rw [xF] at h;exact wpAny_eqBool_int h
   ·rw [yj] at h;exact SeqAt.EqAt.int_str i t y u _ _ _ _ h
  ·rcases eg hv with ⟨j,u,rfl,rfl⟩ | ⟨y,u,rfl,rfl⟩
   ·rw [ye] at h;exact SeqAt.EqAt.str_int x t j u _ _ _ _ h
   ·rw [x8] at h;exact wpAny_eqBool_str h
 «strs»:=λk x t v h=>by
  rcases eg h with ⟨i,u,rfl,e⟩ | ⟨y,u,rfl,e⟩
  ·exact nomatch e
  ·injection e with e1 _
   subst e1;cases v <;> rfl
theorem rN (prog:Program) (w:World) (i:Int) (t:Tok):(cN prog w).is (.inl i) (.int i t)=true:=uj i t
theorem rV (prog:Program) (w:World) (x:Str) (t:Tok):(cN prog w).is (.inr x) (.str x t)=true:=uG x t
inductive V where
 | non | bl (b:Bool) | int (i:Int) | str (x:Str) | byt (b:Array UInt8) | flt (b:UInt64) | ref (a:Addr) | ty (n:String)
 deriving DecidableEq
def RelV:V->zz9->Prop
 | .non,u=>u=Value.none
 | .bl b,u=>u=Value.bool b
 | .int i,u=>∃t,u=Value.int i t
 | .str x,u=>∃t,u=Value.str x t
 | .byt b,u=>∃t,u=Value.bytes b t
 | .flt b,u=>∃t,u=Value.float b t
 | .ref a,u=>u=Value.ref a
 | .ty n,u=>u=Value.type n
abbrev av:List V->List zz9->Prop:=Paired RelV
theorem av.length {xs:List V}{us:List zz9} (r:av xs us):xs.length=us.length:=C8 r
theorem av.get:∀{xs:List V}{us:List zz9}{i:Nat}{x:V},av xs us->xs[i]?=some x->∃u,us[i]?=some u/\RelV x u
 | _,_,_,_,.nil,e=>by simp at e
 | _,_,0,_,.cons r _,e=>by simp at e;subst e;exact⟨_,rfl,r⟩
 | _,_,i + 1,x,.cons _ t,e=>by
  obtain⟨u,h1,h2⟩:=av.get (i:=i) (x:=x) t (by simpa using e);exact⟨u,by simpa using h1,h2⟩
theorem av.set {x:V}{u:zz9} (r:RelV x u):∀{xs:List V}{us:List zz9} (i:Nat),av xs us->av (xs.set i x) (us.set i u)
 | _,_,_,.nil=>.nil
 | _,_,0,.cons _ t=>.cons r t
 | _,_,i + 1,.cons q t=>.cons q (av.set r i t)
theorem av.append:∀{xs ys:List V}{us ws:List zz9},av xs us->av ys ws->av (xs++ys) (us++ws)
 | _,_,_,_,.nil,s=>s
 | _,_,_,_,.cons r t,s=>.cons r (av.append t s)
theorem av.take:∀{xs:List V}{us:List zz9} (n:Nat),av xs us->av (xs.take n) (us.take n)
 | _,_,0,_=>.nil
 | _,_,_ + 1,.nil=>.nil
 | _,_,n + 1,.cons r t=>.cons r (av.take n t)
theorem av.drop:∀{xs:List V}{us:List zz9} (n:Nat),av xs us->av (xs.drop n) (us.drop n)
 | _,_,0,r=>r
 | _,_,_ + 1,.nil=>.nil
 | _,_,n + 1,.cons _ t=>av.drop n t
def dI:Option V->Option zz9->Prop
 | some v,some u=>RelV v u
 | none,none=>True
 | _,_=>False
def KV {κ:Type}:List (κ×V)->List (κ×zz9)->Prop:=Paired λ(p:κ×V) (q:κ×zz9)=>p.1=q.1/\RelV p.2 q.2
def kV:Key->V
 | .inl i=>.int i
 | .inr x=>.str x
inductive HO where
  | lst (xs:List V)
  | tup (xs:List V)
  | dK (kvs:List (Key×V)) | dT (kvs:List (List Key×V))
  | set (S:Int->Bool) (n:Nat)
  | ins (C dx:Addr) (fs:List (Str×V))
  | own (x:Addr)
  | xd (fs:List (Str×V))
  | met (f x:Addr)
  | rng (lo hi:Int)
  | frz (o:Obj) (u:HO)
  | tbl (ps:Array zz9)
  | ext (φ:Heap->Prop)
abbrev Hp:=Addr->Option HO
def upd (H:Hp) (a:Addr) (o:HO):Hp:=λb=>if b=a then some o else H b
theorem ag {H:Hp}{a:Addr}{o:HO}:upd H a o a=some o:=by unfold upd;rw [if_pos rfl]
theorem ao {H:Hp}{a b:Addr}{o:HO} (h:b≠a):upd H a o b=H b:=by unfold upd;rw [if_neg h]
theorem wq {H:Hp}{a:Addr}{o u:HO}:upd (upd H a o) a u=upd H a u:=by
 funext b;unfold upd;split <;> rfl
theorem gR {H:Hp}{a b:Addr}{o u:HO} (h:H a=some o) (h':H b=some u) (d:o≠u):a≠b:=by
 intro e;subst e;rw [h] at h';exact d (Bx h')
theorem aR {H:Hp}{a b:Addr}{o:HO} (h:H a=some o) (h':H b=none):a≠b:=by
 intro e;subst e;rw [h] at h';cases h'
section
variable (P:Program) (w:World)
def aY (H:Hp) (h:Heap) (a:Addr):HO->Prop
 | .lst xs=>xs.length<=sizeLine/\∃(EE:List zz9) (n:Nat),av xs EE/\h.get? a=some { cls:=.type "list",data:=.seq EE.toArray n }
 | .tup xs=>xs.length<=sizeLine/\∃EE:List zz9,av xs EE/\IsTup h a EE.toArray
 | .dK kvs=>kvs.length<=sizeLine/\(a == sysModules)=false/\∃vs,KV kvs vs/\h.DictOf (cN P w) a vs
 | .dT kvs=>kvs.length<=sizeLine/\(a == sysModules)=false/\∃xs:List (List Key×Addr×zz9),
   Paired (λ(p:List Key×V) (q:List Key×Addr×zz9)=>p.1=q.1/\H q.2.1=some (.tup (p.1.map kV))/\RelV p.2 q.2.2) kvs xs /\
   ∃o es ep,h.get? a=some o/\o.ExactDict/\o.data=.dict es ep/\es.toList=xs.map (entryOfKey (tupleKind (cN P w)))/\(xs.map (·.1)).Nodup
 | .set S n=>h.SetOf (intKind P w) a S n
 | .ins C dx fs=>H dx=some (.own a)/\fs.length<=1000/\dx≠a/\h.get? a=some (PySem.W.instObj C dx) /\
   ∃mA,h.Ns1 dx mA/\(∀f,dI (fs.lookup f) (mA f))/\PySem.Within mA (fs.map (·.1))
 | .own _=>∃o,h.get? a=some o
 | .xd fs=>∃mA,h.Ns1 a mA/\∀f,dI (fs.lookup f) (mA f)
 | .rng lo hi=>∃t u v,h.get? a=some { cls:=.type "range",data:=.fields #[.int lo t,.int hi u,.int 1 v] }
 | .frz o u=>h.get? a=some o/\aY H h a u
 | .tbl ps=>h.get? a=some { cls:=.none,data:=.fields ps }
 | .met f x=>h.get? a=some (PySem.W.methodObj (.ref f) (.ref x))
 | .ext φ=>φ h/\(∃o,h.get? a=some o)/\∀h1 h2:Heap,φ h1->(∀o,h1.get? a=some o->h2.get? a=some o)->φ h2
def FB (H:Hp) (h:Heap):Prop:=∀a o,H a=some o->aY P w H h a o
end
section
variable {P:Program}{w:World}{H H':Hp}{h h':Heap}{a:Addr}{o:HO}
theorem aY.lt (x:aY P w H h a o):a < h.objs.size:=by
 cases o with
 | lst xs=>obtain⟨_,_,_,_,e⟩:=x;exact AQ e
 | tup xs=>obtain⟨_,_,_,p⟩:=x;exact p.lt
 | dK kvs=>obtain⟨_,_,_,_,o,_,_,e,_⟩:=x;exact AQ e
 | dT kvs=>obtain⟨_,_,_,_,o,_,_,e,_⟩:=x;exact AQ e
 | set S n=>obtain⟨o,_,_,_,e,_⟩:=x;exact AQ e
 | ins C dx fs=>obtain⟨_,_,_,e,_⟩:=x;exact AQ e
 | own y=>obtain⟨_,e⟩:=x;exact AQ e
 | xd fs=>obtain⟨_,⟨_,_,_,e,_⟩,_⟩:=x;exact AQ e
 | rng lo hi=>obtain⟨_,_,_,e⟩:=x;exact AQ e
 | frz ob u=>obtain⟨e,_⟩:=x;exact AQ e
 | tbl ps=>exact AQ (show h.get? a=some _ from x)
 | met f y=>exact AQ (show h.get? a=some _ from x)
 | ext φ=>obtain⟨_,⟨_,e⟩,_⟩:=x;exact AQ e
theorem Paired.mapP {α β:Type}{F G:α->β->Prop}:∀{l₁:List α}{l₂:List β},Paired F l₁ l₂->(∀a b,F a b->G a b)->Paired G l₁ l₂
 | _,_,.nil,_=>.nil
 | _,_,.cons r t,f=>.cons (f _ _ r) (Paired.mapP t f)
theorem aY.stay (x:aY P w H h a o) (k:∀b u,(b=a\/H b=some (.own a))->h.get? b=some u->h'.get? b=some u)
  (ho:∀b,H b=some (.own a)->H' b=some (.own a)) (ht:∀b xs,H b=some (.tup xs)->H' b=some (.tup xs)):aY P w H' h' a o:=by
 induction o with
 | lst xs=>obtain⟨z,EE,n,r,e⟩:=x;exact⟨z,EE,n,r,k _ _ (.inl rfl) e⟩
 | tup xs=>obtain⟨z,EE,r,ob,e,c⟩:=x;exact⟨z,EE,r,ob,k _ _ (.inl rfl) e,c⟩
 | dK kvs=>obtain⟨z,y,vs,r,ob,es,ep,e,c⟩:=x;exact⟨z,y,vs,r,ob,es,ep,k _ _ (.inl rfl) e,c⟩
 | dT kvs =>
  obtain⟨z,y,xs,r,ob,es,ep,e,c⟩:=x;exact⟨z,y,xs,Paired.mapP r λp q z=>⟨z.1,ht _ _ z.2.1,z.2.2⟩,ob,es,ep,k _ _ (.inl rfl) e,c⟩
 | set S n=>obtain⟨ob,es,ep,t,e,c⟩:=x;exact⟨ob,es,ep,t,k _ _ (.inl rfl) e,c⟩
 | ins C dx fs =>
  obtain⟨d,z,ne,e,mA,⟨od,es,ep,e2,c⟩,r⟩:=x;exact⟨ho _ d,z,ne,k _ _ (.inl rfl) e,mA,⟨od,es,ep,k _ _ (.inr d) e2,c⟩,r⟩
 | own y=>obtain⟨ob,e⟩:=x;exact⟨ob,k _ _ (.inl rfl) e⟩
 | xd fs=>obtain⟨mA,⟨od,es,ep,e,c⟩,r⟩:=x;exact⟨mA,⟨od,es,ep,k _ _ (.inl rfl) e,c⟩,r⟩
 | rng lo hi=>obtain⟨t,u,v,e⟩:=x;exact⟨t,u,v,k _ _ (.inl rfl) e⟩
 | frz ob u ih=>obtain⟨e,q⟩:=x;exact⟨k _ _ (.inl rfl) e,ih q⟩
 | tbl ps =>
  have e:h.get? a=some { cls:=.none,data:=.fields ps }:=x;show h'.get? a=some { cls:=.none,data:=.fields ps };exact k a _ (.inl rfl) e
 | met f y =>
  have e:h.get? a=some (PySem.W.methodObj (.ref f) (.ref y)):=x;show h'.get? a=some (PySem.W.methodObj (.ref f) (.ref y));exact k a _ (.inl rfl) e
 | ext φ=>obtain⟨p,⟨o,e⟩,st⟩:=x;exact⟨st _ _ p λo q=>k _ _ (.inl rfl) q,⟨o,k _ _ (.inl rfl) e⟩,st⟩
theorem FB.lt (x:FB P w H h) (e:H a=some o):a < h.objs.size:=(x a o e).lt
theorem FB.fresh (x:FB P w H h) (e:h.objs.size<=a):H a=none:=by
 cases q:H a with
 | none=>rfl
 | some u=>exact absurd (Bk (x.lt q) e) (BI _)
theorem FB.kept (x:FB P w H h) (k:∀b u,h.get? b=some u->h'.get? b=some u):FB P w H h':=λa o e =>
 (x a o e).stay (λb u _ q=>k b u q) (λ_ q=>q) λ_ _ q=>q
theorem FB.laid (x:FB P w H h) (k:∀b u,h.get? b=some u->h'.get? b=some u) (hp:h.objs.size<=a) (new:aY P w (upd H a o) h' a o):FB P w (upd H a o) h':=λb u e=>by
 have hn:=x.fresh hp
 by_cases hb:b=a
 ·subst hb;rw [ag] at e;cases e;exact new
 ·rw [ao hb] at e
  exact (x b u e).stay (λc v _ q=>k c v q) (λc q=>by rw [ao (aR q hn)];exact q) λc xs q=>by rw [ao (aR q hn)];exact q
end
def Rd (H:Hp) (a:Addr) (u:HO):Prop:=H a=some u\/∃o,H a=some (.frz o u)
theorem Rd.ok {P:Program}{w:World}{H:Hp}{h:Heap}{a:Addr}{u:HO} (r:Rd H a u) (x:FB P w H h):aY P w H h a u:=by
 rcases r with r | ⟨o,r⟩
 ·exact x a u r
 ·obtain⟨_,q⟩:=x a _ r
  exact q
def PL:Option HO->Prop
 | some (.lst _)=>True
 | some (.dK _)=>True
 | some (.dT _)=>True
 | some (.set _ _)=>True
 | some (.ins _ _ _)=>True
 | some (.ext _)=>True
 | _=>False
section
variable {P:Program}{w:World}{H:Hp}{h h':Heap}{x e:Addr}{o':HO}
theorem FB.write (ok:FB P w H h) (mu:PL (H x)) (he:e=x\/H e=some (.own x)) (k:∀b u,b≠e->h.get? b=some u->h'.get? b=some u) (NB:∃u,h'.get? e=some u)
  (new:aY P w (upd H x o') h' x o'):FB P w (upd H x o') h':=λb u q=>by
 have Oo:∀c y,H c=some (.own y)->c≠x:=λc y r z=>by subst z;rw [r] at mu;exact mu
 have Rt:∀c xs,H c=some (.tup xs)->c≠x:=λc xs r z=>by subst z;rw [r] at mu;exact mu
 by_cases hb:b=x
 ·subst hb;rw [ag] at q;cases q;exact new
 ·rw [ao hb] at q
  by_cases M4:b=e
  ·have q':H b=some (.own x):=by
    rcases he with z | z
    ·exact absurd (M4.trans z) hb
    ·rw [M4];exact z
   rw [q] at q';cases q';obtain⟨v,hv⟩:=NB;exact⟨v,by rw [M4];exact hv⟩
  ·refine (ok b u q).stay (λc v hc r=>k c v ?_ r) (λc r=>by rw [ao (Oo c b r)];exact r) λc xs r=>by rw [ao (Rt c xs r)];exact r
   rcases hc with rfl | hc
   ·exact M4
   ·rintro rfl
    rcases he with z | z
    ·exact Oo c b hc z
    ·rw [hc] at z;cases z;exact hb rfl
end
structure Un (fs ex:List Addr) (H H':Hp) (h h':Heap):Prop where
 keep:∀b o,h.get? b=some o->H b=none->b∉fs->b∉ex->h'.get? b=some o
 slot:∀b o,h.get? b=some o->H b=none->b∈fs->b∉ex->∃sl,h'.get? b=some { o with slots:=sl }
 free:∀b o,h.get? b=some o->H b=none->b∉ex->H' b=none
 there:∀b o,h.get? b=some o->b∉ex->∃o',h'.get? b=some o'
 tups:∀b xs,H b=some (.tup xs)->H' b=some (.tup xs)
 frzs:∀b o u,H b=some (.frz o u)->H' b=some (.frz o u)
 tbls:∀b ps,H b=some (.tbl ps)->∃more,H' b=some (.tbl (ps++more))
section
variable {fs fs' ex ex':List Addr}{H H1 H2:Hp}{h h1 h2 h':Heap}{a x e:Addr}{o:HO}
theorem Un.any (u:Un fs ex H H1 h h1) {b:Addr}{ob:Obj} (q:h.get? b=some ob) (n:H b=none) (hx:b∉ex):∃sl,h1.get? b=some { ob with slots:=sl }:=by
 by_cases hb:b∈fs
 ·exact u.slot b ob q n hb hx
 ·exact⟨ob.slots,u.keep b ob q n hb hx⟩
theorem Un.kept (k:∀b u,h.get? b=some u->h'.get? b=some u):Un fs ex H H h h' :=
 ⟨λb ob q _ _ _=>k b ob q,λb ob q _ _ _=>⟨ob.slots,k b ob q⟩,λ_ _ _ n _=>n,λb ob q _=>⟨ob,k b ob q⟩,λ_ _ q=>q,λ_ _ _ q=>q,λ_ ps q=>⟨#[],by rw [q];simp⟩⟩
theorem Un.refl:Un fs ex H H h h:=Un.kept λ_ _ q=>q
theorem Un.laid (k:∀b u,h.get? b=some u->h'.get? b=some u) (hp:h.objs.size<=a) (hn:H a=none):Un fs ex H (upd H a o) h h' where
 keep:=λb u q _ _ _=>k b u q
 slot:=λb u q _ _ _=>⟨u.slots,k b u q⟩
 free:=λb u q n _=>by rw [ao (Bh (Bk (AQ q) hp))];exact n
 there:=λb u q _=>⟨u,k b u q⟩
 tups:=λb xs q=>by rw [ao (aR q hn)];exact q
 frzs:=λb u xs q=>by rw [ao (aR q hn)];exact q
 tbls:=λb ps q=>⟨#[],by rw [ao (aR q hn),q];simp⟩
theorem Un.write (mu:PL (H x)) (he:e=x\/H e=some (.own x)) (k:∀b u,b≠e->h.get? b=some u->h'.get? b=some u) (NB:∃u,h'.get? e=some u):Un fs ex H (upd H x o) h h':=by
 have hx:∀b,H b=none->b≠x:=λb n z=>by subst z;rw [n] at mu;exact mu
 have hb:∀b,H b=none->b≠e:=λb n z=>by
  subst z
  rcases he with r | r
  ·exact hx b n r
  ·rw [n] at r;cases r
 have hm:∀b u,H b=some u->¬ PL (some u)->b≠x:=λb u q nm z=>by subst z;rw [q] at mu;exact nm mu
 refine⟨λb u q n _ _=>k b u (hb b n) q,λb u q n _ _=>⟨u.slots,k b u (hb b n) q⟩,λb u q n _=>by rw [ao (hx b n)];exact n,λb u q _=>?_,
  λb xs q=>by rw [ao (hm b _ q λz=>z)];exact q,λb u xs q=>by rw [ao (hm b _ q λz=>z)];exact q,λb ps q=>⟨#[],by rw [ao (hm b _ q λz=>z),q];simp⟩⟩
 by_cases M4:b=e
 ·subst M4;exact NB
 ·exact⟨u,k b u M4 q⟩
end
def PV (h:Heap) (H:Hp):List Addr:=(List.range h.objs.size).filter λa=>(H a).isSome
def eN (h:Heap) (H:Hp):Heap:=PySem.W.hideAll h (PV h H)
theorem uF (h:Heap) (H:Hp):(eN h H).objs.size=h.objs.size:=PySem.W.hideAll_size _ _
theorem vk {h:Heap}{H:Hp}{b:Addr}{o:Obj} (e:h.get? b=some o) (n:H b=none):(eN h H).get? b=some o :=
 PySem.W.hideAll_get _ e λhm=>by
  have q:(H b).isSome=true:=(AM.mp hm).2;rw [n] at q;simp at q
theorem xq {h:Heap}{H:Hp}{b:Addr}{o:Obj} (e:(eN h H).get? b=some o):h.get? b=some o/\H b=none:=by
 have e':h.get? b=some o:=PySem.W.of_hideAll (PV h H) e;refine⟨e',?_⟩;cases q:H b with
 | none=>rfl
 | some x =>
  have hm:b∈PV h H:=AM.mpr ⟨CS.mpr (AQ e'),by simp [q]⟩;have z:(eN h H).get? b=none:=PySem.W.hideAll_none (PV h H) hm;rw [z] at e;cases e
def wm (g h:Heap) (L:Addr):List (Addr×Obj):=(List.range h.objs.size).filterMap λa=>if a=L\/(g.get? a).isSome=true then none else (h.get? a).map λo=>(a,o)
def rest (g h:Heap) (L d:Addr):List (Addr×Obj):=(wm g h L).filter λp=>decide (p.1≠d)
structure Mod (K:zz7) (mg:Str->Option zz9) (base:Heap):Prop where
 kin:K.In base
 glob:base.Ns mainGlobals mg
 blt:∃mb,base.Ns builtinsNs mb/\∀x:Str,x≠"__name__"->mb x=bootBuiltins x
 nolimit:base.NoLimit
structure Cx where
 prog:Program
 w:World
 K:zz7
 mg:Str->Option zz9
 base:Heap
 A:Around
 N:List Str
 s₀:zz8
 H₀:Hp
 env:Env
 outer:List Env
 stack:List Env
 ex:List Addr
 fn:Str->Bool
 calm:Bool
 pn:List (Addr×Obj)
 xe:zz9->zz8->Prop
def HI (l:List Env):List Addr:=l.filterMap (·.frame)
abbrev Cx.fs (X:Cx):List Addr:=HI X.outer
def QJ (sc:Scope) (x:Str):Prop:=sc.names.lookup x=some .local\/sc.names.lookup x=some .cell\/sc.names.lookup x=some .free
def Loc (sc:Scope) (x:Str):Prop:=sc.names.lookup x=some .local\/sc.names.lookup x=some .cell
def Look (env:Env) (h:Heap) (m:Str->Option zz9) (x:Str) (u:zz9):Prop :=
 (env.kindOf x=some .local/\m x=some u)\/((env.kindOf x=some .cell\/env.kindOf x=some .free)/\∃c,env.cells.lookup x=some c/\h.IsCell c (some u))
structure Cx.Ok (X:Cx):Prop where
 mod:Mod X.K X.mg X.base
 kind:X.env.scope.kind=.function
 glob:X.env.globals=mainGlobals
 blt:X.env.builtins=builtinsNs
 above:X.s₀.heap.objs.size<=X.env.locals
 inj:∀x y c,X.env.cells.lookup x=some c->X.env.cells.lookup y=some c->x=y
 has:∀x,(X.env.kindOf x=some .cell\/X.env.kindOf x=some .free)->∃c,X.env.cells.lookup x=some c
 cab:∀x c,X.fn x=true->X.env.cells.lookup x=some c->X.s₀.heap.objs.size<=c
 hd:X.calm=true->X.A.handled=none
 frames:X.A.frames=some X.stack
 stk:X.stack=X.outer\/(X.stack=X.env::X.outer/\X.env.frame=some X.env.locals)
 exf:∀b∈X.ex,b≠X.env.locals/\∀x c,X.env.cells.lookup x=some c->c≠b
 bs:∀b o,X.base.get? b=some o->X.s₀.heap.get? b=some o/\X.H₀ b=none
 bsz:X.base.objs.size<=X.s₀.heap.objs.size
 noex:∀b o,X.base.get? b=some o->b∉X.ex
 exfs:∀b∈X.ex,b∉X.fs
 funs:X.s₀.heap.FunFrames X.base X.outer
 frf:∀b∈X.fs,X.H₀ b=none
structure Inv (X:Cx) (pins:List (Addr×Obj)) (σ:List (Option V)) (H:Hp) (s:zz8):Prop where
 ok:X.Ok
 os:s.os=X.s₀.os
 bare:AllBare s.gens
 base:Un X.fs X.ex X.H₀ H X.s₀.heap s.heap
 loc:∃m,s.heap.Ns X.env.locals m/\∀(i:Nat) (x:Str) (v:V),X.N[i]?=some x->σ[i]?=some (some v)->QJ X.env.scope x->∃u,RelV v u/\Look X.env s.heap m x u
 cell:∀x c,X.env.cells.lookup x=some c->∃v,s.heap.IsCell c v
 free:H X.env.locals=none
 freeC:∀x c,X.env.cells.lookup x=some c->H c=none
 pin:∀p∈X.pn++pins,s.heap.get? p.1=some p.2/\H p.1=none/\p.1≠X.env.locals/\p.1∉X.fs/\∀v,p.2.data≠.cell v
 hok:FB X.prog X.w H s.heap
 len:σ.length=X.N.length
section
variable {X:Cx}{pins:List (Addr×Obj)}{σ:List (Option V)}{H H':Hp}{s:zz8}{h':Heap}
theorem Cx.Ok.nofr (ok:X.Ok) {b:Addr}{o:Obj} (e:X.base.get? b=some o):b∉X.fs:=λhb=>by
 have:=(ok.funs.mem hb).1;rw [e] at this;cases this
theorem Inv.bs (I:Inv X pins σ H s):∀b o,X.base.get? b=some o->s.heap.get? b=some o/\H b=none:=λb o e =>
 ⟨I.base.keep b o (I.ok.bs b o e).1 (I.ok.bs b o e).2 (I.ok.nofr e) (I.ok.noex b o e),I.base.free b o (I.ok.bs b o e).1 (I.ok.bs b o e).2 (I.ok.noex b o e)⟩
theorem Inv.bk (I:Inv X pins σ H s):∀b o,X.base.get? b=some o->s.heap.get? b=some o:=λb o e=>(I.bs b o e).1
theorem Inv.mod (I:Inv X pins σ H s):Mod X.K X.mg X.base:=I.ok.mod
theorem Inv.kIn (I:Inv X pins σ H s):X.K.In s.heap:=I.ok.mod.kin.keeps I.bk
theorem Inv.lt (I:Inv X pins σ H s):X.env.locals < s.heap.objs.size:=let ⟨_,hn,_⟩:=I.loc;hn.lt
theorem Inv.sz (I:Inv X pins σ H s):X.s₀.heap.objs.size<=s.heap.objs.size:=AV I.ok.above (BH I.lt)
theorem Inv.nofs (I:Inv X pins σ H s) {a:Addr} (h:s.heap.objs.size<=a):a∉X.fs:=λhb=>by
 obtain⟨_,o,ho,_⟩:=I.ok.funs.mem hb;exact absurd (Bk (AQ ho) (AV I.sz h)) (BI _)
theorem Inv.cne (I:Inv X pins σ H s):∀x c,X.env.cells.lookup x=some c->c≠X.env.locals:=λx c e z=>by
 obtain⟨v,o,ho,hd⟩:=I.cell x c e;obtain⟨m,⟨o',es,ep,Hi,Pf,_⟩,_⟩:=I.loc;rw [z,Hi] at ho;cases ho;rw [Pf] at hd;cases hd
theorem Inv.funs (I:Inv X pins σ H s):s.heap.FunFrames X.base X.outer:=by
 have all:∀(l:List Env),(∀b∈HI l,b∈X.fs)->X.s₀.heap.FunFrames X.base l->s.heap.FunFrames X.base l:=by
  intro l
  induction l with
  | nil=>intro _ _;trivial
  | cons env r ih =>
   intro hs hl;obtain⟨hk,⟨L,o,hf,hn,ho,hd⟩,hr⟩:=hl;have hL:L∈X.fs:=hs L (by unfold HI;rw [DW,hf];exact AJ);obtain⟨sl,e⟩:=I.base.slot L o ho (I.ok.frf L hL) hL λz=>I.ok.exfs L z hL;exact⟨hk,⟨L,_,hf,hn,e,hd⟩,ih (λb hb=>hs b (by unfold HI;rw [DW,hf];exact AN _ hb)) hr⟩
 exact all X.outer (λ_ hb=>hb) I.ok.funs
theorem Inv.stack (I:Inv X pins σ H s):s.heap.FunFrames X.base X.stack:=by
 rcases I.ok.stk with e | ⟨e,hf⟩
 ·rw [e];exact I.funs
 ·rw [e]
  obtain⟨m,hn,_⟩:=I.loc;refine .cons (by rw [I.ok.kind];decide) hf hn ?_ I.funs;exact Heap.get?_none_of_le (AV I.ok.bsz I.ok.above)
theorem Inv.stkSub (I:Inv X pins σ H s):∀b∈HI X.stack,b∈X.env.locals::X.fs:=λb hb=>by
 rcases I.ok.stk with e | ⟨e,hf⟩
 ·rw [e] at hb;exact AN _ hb
 ·rw [e] at hb
  unfold HI at hb;rw [DW,hf] at hb;exact hb
theorem Inv.stkFree (I:Inv X pins σ H s):∀b∈HI X.stack,H b=none:=λb hb=>by
 rcases AI.mp (I.stkSub b hb) with e | hb
 ·rw [e];exact I.free
 ·obtain⟨_,o,ho,_⟩:=I.ok.funs.mem hb
  exact I.base.free b o ho (I.ok.frf b hb) λz=>I.ok.exfs b z hb
theorem Inv.step {g':Array GenState}{t':Nat}{d':Drawn}{ch:List Addr} (I:Inv X pins σ H s)
  (JZ:∀b∈ch,(b∈X.ex\/X.s₀.heap.objs.size<=b)/\b≠X.env.locals/\(∀x c,X.env.cells.lookup x=some c->c≠b)/\∀p∈X.pn++pins,p.1≠b)
  (keep:∀b o,b≠X.env.locals->b∉X.fs->b∉ch->s.heap.get? b=some o->H b=none->h'.get? b=some o)
  (slot:∀b o,b≠X.env.locals->b∈X.fs->b∉ch->s.heap.get? b=some o->H b=none->∃sl,h'.get? b=some { o with slots:=sl }) (free:∀b o,b∉ch->s.heap.get? b=some o->H b=none->H' b=none)
  (there:∀b o,b∉ch->s.heap.get? b=some o->∃o',h'.get? b=some o')
  (tups:∀b xs,H b=some (.tup xs)->H' b=some (.tup xs)) (frzs:∀b o u,H b=some (.frz o u)->H' b=some (.frz o u)) (tbls:∀b ps,H b=some (.tbl ps)->∃more,H' b=some (.tbl (ps++more)))
  (ns:∀m,s.heap.Ns X.env.locals m->h'.Ns X.env.locals m) (hok:FB X.prog X.w H' h') (hg:AllBare g') :
  Inv X pins σ H' { s with heap:=h',gens:=g',drawn:=d',toks:=t' }:=by
 have Vg:∀b o,X.s₀.heap.get? b=some o->b≠X.env.locals:=λb o e=>Bh (Bk (AQ e) I.ok.above);have IQ:∀b o,X.s₀.heap.get? b=some o->b∉X.ex->b∉ch:=λb o e hx hb=>by
  rcases (JZ b hb).1 with z | z
  ·exact hx z
  ·exact absurd (Bk (AQ e) z) (BI _)
 have cellK:∀x c,X.env.cells.lookup x=some c->∀v,s.heap.IsCell c v->h'.IsCell c v:=λx c e v ⟨o,ho,hd⟩=>by
  have Ov:c∉ch:=λz=>(JZ c z).2.2.1 x c e rfl
  by_cases hc:c∈X.fs
  ·obtain⟨sl,q⟩:=slot c o (I.cne x c e) hc Ov ho (I.freeC x c e)
   exact⟨_,q,hd⟩
  ·exact⟨o,keep c o (I.cne x c e) hc Ov ho (I.freeC x c e),hd⟩
 refine⟨I.ok,I.os,hg,⟨λb o e n hb hx=>?_,λb o e n hb hx=>?_,λb o e n hx=>?_,λb o e hx=>?_,λb xs e=>tups b xs (I.base.tups b xs e),λb o xs e=>frzs b o xs (I.base.frzs b o xs e),λb ps e=>?_⟩,?_,λx c e=>?_,?_,λx c e=>?_,λp hp=>?_,hok,I.len⟩
 ·exact keep b o (Vg b o e) hb (IQ b o e hx) (I.base.keep b o e n hb hx) (I.base.free b o e n hx)
 ·obtain⟨sl,e1⟩:=I.base.slot b o e n hb hx
  obtain⟨XH,e2⟩:=slot b _ (Vg b o e) hb (IQ b o e hx) e1 (I.base.free b o e n hx);exact⟨XH,e2⟩
 ·obtain⟨o',e1⟩:=I.base.there b o e hx
  exact free b o' (IQ b o e hx) e1 (I.base.free b o e n hx)
 ·obtain⟨o',e1⟩:=I.base.there b o e hx
  exact there b o' (IQ b o e hx) e1
 ·obtain⟨m1,e1⟩:=I.base.tbls b ps e
  obtain⟨m2,e2⟩:=tbls b _ e1;exact⟨m1++m2,by rw [e2,Array.append_assoc]⟩
 ·obtain⟨m,hn,hl⟩:=I.loc
  refine⟨m,ns m hn,λi x v e1 e2 e3=>?_⟩;obtain⟨u,r,l⟩:=hl i x v e1 e2 e3;refine⟨u,r,?_⟩
  rcases l with l | ⟨k,c,e,z⟩
  ·exact .inl l
  ·exact .inr ⟨k,c,e,cellK x c e _ z⟩
 ·obtain⟨v,z⟩:=I.cell x c e
  exact⟨v,cellK x c e v z⟩
 ·obtain⟨m,⟨o,_,_,ho,_⟩,_⟩:=I.loc
  exact free _ o (λz=>(JZ _ z).2.1 rfl) ho I.free
 ·obtain⟨v,o,ho,hd⟩:=I.cell x c e
  exact free c o (λz=>(JZ c z).2.2.1 x c e rfl) ho (I.freeC x c e)
 ·obtain⟨e,n,ne,nf,d⟩:=I.pin p hp
  have Ov:p.1∉ch:=λz=>(JZ p.1 z).2.2.2 p hp rfl;exact⟨keep p.1 p.2 ne nf Ov e n,free p.1 p.2 Ov e n,ne,nf,d⟩
theorem Inv.un {t':Nat} (I:Inv X pins σ H s) (u:Un X.fs [] H H' s.heap h') (hok:FB X.prog X.w H' h'):Inv X pins σ H' { s with heap:=h',toks:=t' }:=by
 obtain⟨m,⟨o,es,ep,ho,r⟩,_⟩:=id I.loc;obtain⟨sl,hL⟩:=u.any ho I.free (by simp)
 exact I.step (g':=s.gens) (d':=s.drawn) (ch:=[]) (λ_ z=>nomatch z) (λb o _ hb _ e n=>u.keep b o e n hb (by simp)) (λb o _ hb _ e n=>u.slot b o e n hb (by simp)) (λb o _ e n=>u.free b o e n (by simp)) (λb o _ e=>u.there b o e (by simp)) u.tups u.frzs u.tbls (λm' hm=>by
  obtain⟨o',es',FJ,Hi,r'⟩:=hm;rw [ho] at Hi;cases Hi
  exact⟨_,es',FJ,hL,r'⟩) hok I.bare
theorem Inv.call {g':Array GenState}{t':Nat}{d':Drawn}{ch:List Addr} (I:Inv X pins σ H s) (u:Un (HI X.stack) ch H H' s.heap h') (hok:FB X.prog X.w H' h') (hg:AllBare g')
  (JZ:∀b∈ch,(b∈X.ex\/X.s₀.heap.objs.size<=b)/\b≠X.env.locals/\(∀x c,X.env.cells.lookup x=some c->c≠b)/\∀p∈X.pn++pins,p.1≠b) :
  Inv X pins σ H' { s with heap:=h',gens:=g',drawn:=d',toks:=t' }:=by
 obtain⟨m,⟨o,es,ep,ho,r⟩,_⟩:=id I.loc;obtain⟨sl,hL⟩:=u.any ho I.free λz=>(JZ _ z).2.1 rfl
 exact I.step (ch:=ch) JZ (λb o hL hb hc e n=>u.keep b o e n (λz=>(AI.mp (I.stkSub b z)).elim hL hb) hc) (λb o _ _ hc e n=>u.any e n hc) (λb o hc e n=>u.free b o e n hc) (λb o hc e=>u.there b o e hc) u.tups u.frzs u.tbls (λm' hm=>by
  obtain⟨o',es',FJ,Hi,r'⟩:=hm;rw [ho] at Hi;cases Hi
  exact⟨_,es',FJ,hL,r'⟩) hok hg
theorem Inv.turned {t':Nat}{it:Addr} (I:Inv X pins σ H s) (k:∀b o,b≠it->s.heap.get? b=some o->h'.get? b=some o) (hn:H it=none) (hL:it≠X.env.locals)
  (h1:it∈X.ex\/X.s₀.heap.objs.size<=it) (h2:∀x c,X.env.cells.lookup x=some c->c≠it) (h3:∀p∈X.pn++pins,p.1≠it):Inv X pins σ H { s with heap:=h',toks:=t' }:=by
 have Ou:∀b u,H b=some u->b≠it:=λb u e z=>by rw [z,hn] at e;cases e
 refine I.step (g':=s.gens) (d':=s.drawn) (ch:=[it]) (λb hb=>?_) (λb o _ _ hc e _=>k b o (λz=>hc (by simp [z])) e) (λb o _ _ hc e _=>⟨o.slots,k b o (λz=>hc (by simp [z])) e⟩) (λ_ _ _ _ n=>n)
  (λb o hc e=>⟨o,k b o (λz=>hc (by simp [z])) e⟩) (λ_ _ e=>e) (λ_ _ _ e=>e) (λb ps e=>⟨#[],by rw [e];simp⟩) (λm hm=>?_) (λb u e=>?_) I.bare
 ·have e:b=it:=by simpa using hb
  subst e;exact⟨h1,hL,h2,h3⟩
 ·obtain⟨o,es,ep,ho,r⟩:=hm
  exact⟨o,es,ep,k _ o (Cc hL) ho,r⟩
 ·refine (I.hok b u e).stay (λc v hc q=>k c v ?_ q) (λ_ q=>q) λ_ _ q=>q
  rcases hc with z | z
  ·rw [z];exact Ou b u e
  ·exact Ou c _ z
theorem Inv.tok (I:Inv X pins σ H s) (t:Nat):Inv X pins σ H { s with toks:=t }:=I.un (h':=s.heap) (t':=t) Un.refl I.hok
theorem Inv.kept {t':Nat} (I:Inv X pins σ H s) (k:∀b u,s.heap.get? b=some u->h'.get? b=some u):Inv X pins σ H { s with heap:=h',toks:=t' }:=I.un (Un.kept k) (I.hok.kept k)
theorem Inv.laid {a:Addr}{o:HO}{t':Nat} (I:Inv X pins σ H s) (k:∀b u,s.heap.get? b=some u->h'.get? b=some u) (hp:s.heap.objs.size<=a) (new:aY X.prog X.w (upd H a o) h' a o) :
  Inv X pins σ (upd H a o) { s with heap:=h',toks:=t' }:=I.un (Un.laid k hp (I.hok.fresh hp)) (I.hok.laid k hp new)
theorem Inv.write {x e:Addr}{o:HO}{t':Nat} (I:Inv X pins σ H s) (mu:PL (H x)) (he:e=x\/H e=some (.own x)) (k:∀b u,b≠e->s.heap.get? b=some u->h'.get? b=some u) (NB:∃u,h'.get? e=some u)
  (new:aY X.prog X.w (upd H x o) h' x o):Inv X pins σ (upd H x o) { s with heap:=h',toks:=t' }:=I.un (Un.write mu he k NB) (I.hok.write mu he k NB new)
theorem Inv.pins_of {pins':List (Addr×Obj)} (I:Inv X pins σ H s) (h:∀p∈pins',s.heap.get? p.1=some p.2/\H p.1=none/\p.1≠X.env.locals/\p.1∉X.fs/\∀v,p.2.data≠.cell v):Inv X pins' σ H s :=
 ⟨I.ok,I.os,I.bare,I.base,I.loc,I.cell,I.free,I.freeC,λp hp=>(AO.mp hp).elim (λz=>I.pin p (AZ _ z)) (h p),I.hok,I.len⟩
theorem mv {N:List Str} (hN:N.Nodup) {i j:Nat}{x:Str} (a:N[i]?=some x) (b:N[j]?=some x):i=j:=by
 obtain⟨h1,e1⟩:=AE.mp a;obtain⟨h2,e2⟩:=AE.mp b;exact (List.getElem_inj hN).mp (e1.trans e2.symm)
theorem jA {M:Model}{A:Around}{E:zz9->zz8->Prop}{i:Nat}{x:Str}{v:V}{u:zz9}{Q:Unit->zz8->Prop} (I:Inv X pins σ H s) (hN:X.N.Nodup) (hi:X.N[i]?=some x) (hx:Loc X.env.scope x) (r:RelV v u)
  (h:∀s',Inv X pins (σ.set i (some v)) H s'->(∃a,Heap.SameBut a s.heap s'.heap/\(a=X.env.locals\/X.env.cells.lookup x=some a))->Q () s') (hf:X.fn x=true\/X.env.scope.names.lookup x=some .local:=by first | exact .inl rfl | exact .inr rfl | assumption):wpAny M A (storeName X.env x u) Q E s:=by
 obtain⟨m,hn,hl⟩:=id I.loc;have TY:(X.env.scope.kind == .class || (X.env.scope.kind == .module && X.env.locals != X.env.globals))=false:=by rw [I.ok.kind];rfl
 have Wl:i < σ.length:=by rw [I.len];exact (AE.mp hi).1
 have cne:=I.cne;have tracked:∀{a:Addr}{h':Heap},(∃o,s.heap.get? a=some o/\H a=none)->Heap.SameBut a s.heap h'->FB X.prog X.w H h':=λ{a h'} ha hs b ob e=>by
  obtain⟨_,_,LK⟩:=ha;refine (I.hok b ob e).stay (λc w' hc q=>(hs.2 c ?_).trans q) (λ_ q=>q) λ_ _ q=>q;rintro rfl
  rcases hc with rfl | hc
  ·rw [LK] at e;cases e
  ·rw [LK] at hc;cases hc
 rcases hx with hk | hk
 ·refine wpAny_storeName_local hk hn (λh' IS hs=>?_) TY
  obtain⟨oL,_,_,Jv,_⟩:=id hn;refine h _ ⟨I.ok,I.os,I.bare,⟨λb o e n hb hx=>?_,λb o e n hb hx=>?_,I.base.free,λb o e hx=>?_,I.base.tups,I.base.frzs,I.base.tbls⟩,⟨_,IS,λj y v' e1 e2 e3=>?_⟩,λy c e=>?_,I.free,I.freeC,λp hp=>?_,tracked ⟨oL,Jv,I.free⟩ hs,by simpa using I.len⟩ ⟨_,hs,.inl rfl⟩
  ·exact (hs.2 b (Bh (Bk (AQ e) I.ok.above))).trans (I.base.keep b o e n hb hx)
  ·obtain⟨sl,e1⟩:=I.base.slot b o e n hb hx
   exact⟨sl,(hs.2 b (Bh (Bk (AQ e) I.ok.above))).trans e1⟩
  ·obtain⟨o',e1⟩:=I.base.there b o e hx
   exact⟨o',(hs.2 b (Bh (Bk (AQ e) I.ok.above))).trans e1⟩
  ·by_cases hj:j=i
   ·subst hj
    rw [hi] at e1;cases e1;rw [List.getElem?_set_self Wl] at e2;cases e2;exact⟨u,r,.inl ⟨hk,by simp⟩⟩
   ·rw [List.getElem?_set_ne (Cc hj)] at e2
    obtain⟨u',r',q⟩:=hl j y v' e1 e2 e3;refine⟨u',r',?_⟩
    rcases q with ⟨k,e⟩ | ⟨k,c,e,z⟩
    ·refine .inl ⟨k,?_⟩
     have:y≠x:=λe=>hj (mv hN e1 (e ▸ hi));simp [this,e]
    ·exact .inr ⟨k,c,e,z.sameBut hs (cne y c e)⟩
  ·obtain⟨w',z⟩:=I.cell y c e
   exact⟨w',z.sameBut hs (cne y c e)⟩
  ·obtain⟨e,n,ne,nf,d⟩:=I.pin p hp
   exact⟨(hs.2 p.1 ne).trans e,n,ne,nf,d⟩
 ·have Ig:X.fn x=true:=by
   rcases hf with z | z
   ·exact z
   ·rw [z] at hk;cases hk
  obtain⟨c,hc⟩:=I.ok.has x (.inl hk);obtain⟨w',z⟩:=I.cell x c hc;refine wpAny_storeName_cell I.ok.kind hk hc z (λh' Wt hs=>?_);obtain⟨oc,V3,SR⟩:=id z;refine h { s with heap:=h' } ⟨I.ok,I.os,I.bare,⟨λb o e n hb hx=>?_,λb o e n hb hx=>?_,I.base.free,λb o e hx=>?_,I.base.tups,I.base.frzs,I.base.tbls⟩,⟨m,hn.sameBut hs (Cc (cne x c hc)),λj y v' e1 e2 e3=>?_⟩,λy c' e=>?_,I.free,I.freeC,λp hp=>?_,tracked ⟨oc,V3,I.freeC x c hc⟩ hs,by simpa using I.len⟩ ⟨c,hs,.inr hc⟩
  ·exact (hs.2 b (Bh (Bk (AQ e) (I.ok.cab x c Ig hc)))).trans (I.base.keep b o e n hb hx)
  ·obtain⟨sl,e1⟩:=I.base.slot b o e n hb hx
   exact⟨sl,(hs.2 b (Bh (Bk (AQ e) (I.ok.cab x c Ig hc)))).trans e1⟩
  ·obtain⟨o',e1⟩:=I.base.there b o e hx
   exact⟨o',(hs.2 b (Bh (Bk (AQ e) (I.ok.cab x c Ig hc)))).trans e1⟩
  ·by_cases hj:j=i
   ·subst hj
    rw [hi] at e1;cases e1;rw [List.getElem?_set_self Wl] at e2;cases e2;exact⟨u,r,.inr ⟨.inl hk,c,hc,Wt⟩⟩
   ·rw [List.getElem?_set_ne (Cc hj)] at e2
    obtain⟨u',r',q⟩:=hl j y v' e1 e2 e3;refine⟨u',r',?_⟩
    rcases q with q | ⟨k,c',e,z'⟩
    ·exact .inl q
    ·refine .inr ⟨k,c',e,z'.sameBut hs ?_⟩
     rintro rfl;exact hj (mv hN e1 (I.ok.inj _ _ _ e hc ▸ hi))
  ·by_cases NH:c'=c
   ·subst NH;exact⟨_,Wt⟩
   ·obtain⟨w2,z2⟩:=I.cell y c' e
    exact⟨w2,z2.sameBut hs NH⟩
  ·obtain⟨e,n,ne,nf,d⟩:=I.pin p hp
   refine⟨(hs.2 p.1 ?_).trans e,n,ne,nf,d⟩;intro q;rw [q,V3] at e;have q':oc=p.2:=Bx e;exact d w' (by rw [<- q'];exact SR)
theorem gq {M:Model}{A:Around}{E:zz9->zz8->Prop}{i:Nat}{x:Str}{v:V}{u:zz9}{Q:Unit->zz8->Prop} (I:Inv X pins σ H s) (hN:X.N.Nodup) (hi:X.N[i]?=some x) (hx:Loc X.env.scope x) (r:RelV v u)
  (h:∀s',Inv X pins (σ.set i (some v)) H s'->Q () s') (hf:X.fn x=true\/X.env.scope.names.lookup x=some .local:=by first | exact .inl rfl | exact .inr rfl | assumption):wpAny M A (storeName X.env x u) Q E s :=
 jA I hN hi hx r (λs' I' _=>h s' I') hf
theorem Inv.call' {s':zz8}{ch:List Addr} (I:Inv X pins σ H s) (ho:s'.os=s.os) (u:Un (HI X.stack) ch H H' s.heap s'.heap) (hok:FB X.prog X.w H' s'.heap) (hg:AllBare s'.gens)
  (JZ:∀b∈ch,(b∈X.ex\/X.s₀.heap.objs.size<=b)/\b≠X.env.locals/\(∀x c,X.env.cells.lookup x=some c->c≠b)/\∀p∈X.pn++pins,p.1≠b):Inv X pins σ H' s':=by
 obtain⟨h',g',d',t',o'⟩:=s';have e:o'=s.os:=ho;subst e;exact I.call (g':=g') (t':=t') (d':=d') u hok hg JZ
end
abbrev XK:=zz9->Option Addr->Hp->Prop
abbrev St:=List (Option V)
abbrev VK:=V->Hp->Prop
abbrev TE:=St->Hp->VK->Prop
abbrev TT:=St->Hp->(Bool->Hp->Prop)->Prop
abbrev TA:=St->Hp->(List V->Hp->Prop)->Prop
structure Ends where
 nx:St->Hp->Prop
 rt:VK
 bk:St->Hp->Prop:=λ_ _=>False
 ct:St->Hp->Prop:=λ_ _=>False
abbrev TS:=Ends->St->Hp->Prop
def EP (X:Cx) (pins:List (Addr×Obj)) (σ:St) (Q:VK) (u:zz9) (s':zz8):Prop:=∃v H',Inv X pins σ H' s'/\RelV v u/\Q v H'
def TP (X:Cx) (pins:List (Addr×Obj)) (σ:St) (Q:Bool->Hp->Prop) (b:Bool) (s':zz8):Prop:=∃H',Inv X pins σ H' s'/\Q b H'
def AP (X:Cx) (pins:List (Addr×Obj)) (σ:St) (Q:List V->Hp->Prop) (us:List zz9) (s':zz8):Prop:=∃vs H',Inv X pins σ H' s'/\av vs us/\Q vs H'
def SP (X:Cx) (pins:List (Addr×Obj)) (D:Ends) (f:Flow) (s':zz8):Prop :=
 match f with
 | .next=>∃σ' H',Inv X pins σ' H' s'/\D.nx σ' H'
 | .brk=>∃σ' H',Inv X pins σ' H' s'/\D.bk σ' H'
 | .cont=>∃σ' H',Inv X pins σ' H' s'/\D.ct σ' H'
 | .ret u=>∃v σ' H',Inv X pins σ' H' s'/\RelV v u/\D.rt v H'
def PE (X:Cx) (e:Expr) (t:TE):Prop :=
 ∀(pins:List (Addr×Obj)) (s:zz8) (σ:St) (H:Hp) (Q:VK),Inv X pins σ H s->t σ H Q->wpAny (model X.prog X.w) X.A (eval e X.env) (EP X pins σ Q) X.xe s
def PT (X:Cx) (e:Expr) (t:TT):Prop :=
 ∀(pins:List (Addr×Obj)) (s:zz8) (σ:St) (H:Hp) (Q:Bool->Hp->Prop),Inv X pins σ H s->t σ H Q->wpAny (model X.prog X.w) X.A (isTrue e X.env (eval e X.env)) (TP X pins σ Q) X.xe s
def PW (X:Cx) (e:Expr) (t:TT):Prop :=
 ∀(whole:Sem zz9) (pins:List (Addr×Obj)) (s:zz8) (σ:St) (H:Hp) (Q:Bool->Hp->Prop),Inv X pins σ H s->t σ H Q->wpAny (model X.prog X.w) X.A (isTrue e X.env whole) (TP X pins σ Q) X.xe s
theorem PW.pt {X:Cx}{e:Expr}{t:TT} (h:PW X e t):PT X e t:=h _
def PA (X:Cx) (es:List Expr) (t:TA):Prop :=
 ∀(pos:Pos) (pins:List (Addr×Obj)) (s:zz8) (σ:St) (H:Hp) (Q:List V->Hp->Prop),Inv X pins σ H s->t σ H Q->wpAny (model X.prog X.w) X.A (spliced (backTo pos (starEach es X.env))) (AP X pins σ Q) X.xe s
def PS (X:Cx) (st:Stmt) (t:TS):Prop :=
 ∀(pins:List (Addr×Obj)) (s:zz8) (σ:St) (H:Hp) (D:Ends),Inv X pins σ H s->t D σ H->wpAny (model X.prog X.w) X.A (exec st X.env) (SP X pins D) X.xe s
def Iq (X:Cx) (st:List Stmt) (t:TS):Prop :=
 ∀(pins:List (Addr×Obj)) (s:zz8) (σ:St) (H:Hp) (D:Ends),Inv X pins σ H s->t D σ H->wpAny (model X.prog X.w) X.A (execs st X.env) (SP X pins D) X.xe s
theorem EI {α:Type}{t:Sem α}{Q Q':α->zz8->Prop}{M:Model}{A:Around}{E:zz9->zz8->Prop}{s:zz8} (h:wpAny M A t Q E s) (hQ:∀a s,Q a s->Q' a s):wpAny M A t Q' E s:=BW h hQ λ_ _ x=>x
section
variable {X:Cx}
def jg (i:Nat):TE:=λσ H Q=>∃v,σ[i]?=some (some v)/\Q v H
def tC (v:V):TE:=λ_ H Q=>Q v H
theorem xR {i:Nat}{x:Str}{pos:Pos} (hN:X.N[i]?=some x) (hv:QJ X.env.scope x) (hd:(x == ("__debug__":Str))=false:=by decide) (JF:(x == ("__classdict__":Str))=false:=by decide):PE X (.Name x pos) (jg i):=by
 intro pins s σ H Q I h;obtain⟨v,e,h⟩:=h;obtain⟨m,hn,hl⟩:=I.loc;obtain⟨u,r,l⟩:=hl i x v hN e hv;have fin:EP X pins σ Q u s:=⟨v,H,I,r,h⟩
 rcases l with ⟨hk,hm⟩ | ⟨hk,c,hc,Ik⟩
 ·exact wpAny_Name (wpAny_loadName_local I.ok.kind hk hn hm fin) hd
 ·rcases hk with hk | hk
  ·exact wpAny_Name (wpAny_loadName_cell I.ok.kind hk hc Ik fin) hd
  ·exact wpAny_Name (wpAny_loadName_free I.ok.kind hk hc Ik fin JF) hd
theorem am {i j pos}:PE X (.Constant (.int i) j pos) (tC (.int i)):=λ_ _ _ H _ I h=>wpAny_Constant_int ⟨.int i,H,I.tok _,⟨_,rfl⟩,h⟩
theorem eM {b j pos}:PE X (.Constant (.bool b) j pos) (tC (.bl b)):=λ_ _ _ H _ I h=>Constant_bool ⟨.bl b,H,I,rfl,h⟩
theorem xJ {j pos}:PE X (.Constant .none j pos) (tC .non):=λ_ _ _ H _ I h=>Constant_none ⟨.non,H,I,rfl,h⟩
theorem dS {x j pos}:PE X (.Constant (.str x) j pos) (tC (.str x)):=λ_ _ _ H _ I h=>Calls.Constant_str ⟨.str x,H,I.tok _,⟨_,rfl⟩,h⟩
def Gl (X:Cx) (x:Str):Prop:=X.env.kindOf x=some .globalImplicit
theorem nI {E:zz9->zz8->Prop}{pins:List (Addr×Obj)}{s:zz8}{σ:St}{H:Hp}{x:Str}{u:zz9}{pos:Pos}{Q:zz9->zz8->Prop} (I:Inv X pins σ H s) (hg:Gl X x) (hm:X.mg x=some u) (h:Q u s)
  (hd:(x == ("__debug__":Str))=false:=by decide):wpAny (model X.prog X.w) X.A (eval (.Name x pos) X.env) Q E s :=
 Calls.Name_function_global I.ok.kind hg (Calls.loadGlobal_global (by rw [I.ok.glob];exact I.mod.glob.keeps I.bk) hm h) hd
theorem fm {E:zz9->zz8->Prop}{pins:List (Addr×Obj)}{s:zz8}{σ:St}{H:Hp}{x:Str}{u:zz9}{pos:Pos}{Q:zz9->zz8->Prop} (I:Inv X pins σ H s) (hg:Gl X x) (hm:X.mg x=none) (hv:bootBuiltins x=some u) (h:Q u s)
  (hn:x≠"__name__":=by decide) (hd:(x == ("__debug__":Str))=false:=by decide):wpAny (model X.prog X.w) X.A (eval (.Name x pos) X.env) Q E s:=by
 obtain⟨mb,h1,h2⟩:=I.mod.blt;exact Calls.Name_function_global I.ok.kind hg (Calls.loadGlobal_builtin (by rw [I.ok.glob];exact I.mod.glob.keeps I.bk) hm (by rw [I.ok.blt];exact h1.keeps I.bk) ((h2 x hn).trans hv) h) hd
theorem nU {x:Str}{v:V}{u:zz9}{pos:Pos} (hg:Gl X x) (hm:X.mg x=some u) (r:RelV v u) (hd:(x == ("__debug__":Str))=false:=by decide):PE X (.Name x pos) (tC v) :=
 λ_ _ _ H _ I h=>nI I hg hm ⟨v,H,I,r,h⟩ hd
theorem dC {x:Str}{v:V}{u:zz9}{pos:Pos} (hg:Gl X x) (hm:X.mg x=none) (hv:bootBuiltins x=some u) (r:RelV v u) (hn:x≠"__name__":=by decide) (hd:(x == ("__debug__":Str))=false:=by decide):PE X (.Name x pos) (tC v) :=
 λ_ _ _ H _ I h=>fm I hg hm hv ⟨v,H,I,r,h⟩ hn hd
variable {a b:Expr}{ta tb:TE}{pos:Pos}
def PC (X:Cx) (op:CmpOp) (a b:Expr) (t:TE):Prop :=
 ∀(pins:List (Addr×Obj)) (s:zz8) (σ:St) (H:Hp) (Q:VK),Inv X pins σ H s->t σ H Q ->
  wpAny (model X.prog X.w) X.A (eval a X.env) (λv s₁=>wpAny (model X.prog X.w) X.A (eval b X.env) (λu s₂=>wpAny (model X.prog X.w) X.A (compareOp op v u) (EP X pins σ Q) X.xe s₂) X.xe s₁) X.xe s
def tB (t:TE):TT:=λσ H Q=>t σ H λx H1=>∃c,x=.bl c/\Q c H1
theorem xV {op:CmpOp}{t:TE} (h:PC X op a b t) (h1:behindInMarks op b=false:=by first | exact Oq _ (by decide) (by decide) | rfl):PT X (.Compare a [op] [b] pos) (tB t):=by
 intro pins s σ H Q I hw;refine wpAny_isTrue_Compare1 (EI (h pins s σ H _ I hw) λv s1 h1=>EI h1 λu s2 h2=>EI h2 λc s3 ⟨x,H1,I1,r1,q1⟩=>?_) h1;obtain⟨d,rfl,q⟩:=q1;cases r1;exact BX ⟨H1,I1,q⟩
theorem bM {e:Expr}{t:TE} (h:PE X e t) (he:∀whole,isTrue e X.env whole=(do let v <- whole;standAt e.pos;holding [v] (truthy v)):=by intro _;rfl):PT X e (tB t):=by
 intro pins s σ H Q I hw;refine isTrue_plain (EI (h pins s σ H _ I hw) λv s1 ⟨x,H1,I1,r1,q1⟩=>?_) (he _);obtain⟨d,rfl,q⟩:=q1;cases r1;exact BX ⟨H1,I1,q⟩
variable {tA PZ:TT}{rest:List Expr}
def zM (t u:TT):TT:=λσ H Q=>t σ H λc H1=>if c=true then u σ H1 Q else Q false H1
def Xy (t u:TT):TT:=λσ H Q=>t σ H λc H1=>if c=true then Q true H1 else u σ H1 Q
def zV (t:TT):TT:=λσ H Q=>t σ H λc H1=>Q (!c) H1
theorem gA (ha:PT X a tA):PW X (.BoolOp .And [a] pos) tA:=by
 intro wh pins s σ H Q I h;refine isTrue_and (EI (ha pins s σ H Q I h) λc s1 e=>?_);cases c with
 | true=>exact isTrue_and_nil e
 | false=>exact e
theorem cw (ha:PT X a tA):PW X (.BoolOp .Or [a] pos) tA:=by
 intro wh pins s σ H Q I h;refine isTrue_or (EI (ha pins s σ H Q I h) λc s1 e=>?_);cases c with
 | false=>exact isTrue_or_nil e
 | true=>exact e
theorem gH (ha:PT X a tA) (hb:PW X (.BoolOp .And (b::rest) pos) PZ):PW X (.BoolOp .And (a::b::rest) pos) (zM tA PZ):=by
 intro wh pins s σ H Q I h;refine isTrue_and (EI (ha pins s σ H _ I h) λc s1 ⟨H1,I1,q1⟩=>?_);cases c with
 | true=>exact hb wh pins s1 σ H1 Q I1 q1
 | false=>exact⟨H1,I1,q1⟩
theorem cq (ha:PT X a tA) (hb:PW X (.BoolOp .Or (b::rest) pos) PZ):PW X (.BoolOp .Or (a::b::rest) pos) (Xy tA PZ):=by
 intro wh pins s σ H Q I h;refine isTrue_or (EI (ha pins s σ H _ I h) λc s1 ⟨H1,I1,q1⟩=>?_);cases c with
 | true=>exact⟨H1,I1,q1⟩
 | false=>exact hb wh pins s1 σ H1 Q I1 q1
theorem bS (ha:PT X a tA):PT X (.UnaryOp .Not a pos) (zV tA):=by
 intro pins s σ H Q I h;exact isTrue_not (ha pins s σ H (λc H1=>Q (!c) H1) I h)
def yN (ta tb:TE):TE:=λσ H Q=>ta σ H λx H1=>∃c,x=.bl c/\if c=true then tb σ H1 Q else Q (.bl false) H1
def yz (ta:TE):TE:=λσ H Q=>ta σ H λx H1=>∃c,x=.bl c/\Q (.bl (!c)) H1
theorem fU {op}{t:TE} (h:PE X a t):PE X (.BoolOp op [a] pos) t:=λpins s σ H Q I hw=>BoolOp_one (h pins s σ H Q I hw)
theorem eY (ha:PE X a ta) (hb:PE X (.BoolOp .And (b::rest) pos) tb):PE X (.BoolOp .And (a::b::rest) pos) (yN ta tb):=by
 intro pins s σ H Q I h;refine BoolOp_and (EI (ha pins s σ H _ I h) λv s1 ⟨x,H1,I1,r1,q1⟩=>?_);obtain⟨c,rfl,q1⟩:=q1;cases r1;refine BX ?_;cases c with
 | true=>exact hb pins s1 σ H1 Q I1 q1
 | false=>exact⟨.bl false,H1,I1,rfl,q1⟩
theorem xP (ha:PE X a ta):PE X (.UnaryOp .Not a pos) (yz ta):=by
 intro pins s σ H Q I h;refine UnaryOp_ (EI (ha pins s σ H _ I h) λv s1 ⟨x,H1,I1,r1,q1⟩=>?_);obtain⟨c,rfl,q1⟩:=q1;cases r1;exact not_of (BX ⟨.bl (!c),H1,I1,rfl,q1⟩)
def XA (t:TT) (ta tb:TE):TE:=λσ H Q=>t σ H λc H1=>if c=true then ta σ H1 Q else tb σ H1 Q
theorem nh {c:Expr} (hc:PT X c tA) (ha:PE X a ta) (hb:PE X b tb):PE X (.IfExp c a b pos) (XA tA ta tb):=by
 intro pins s σ H Q I h;refine wpAny_IfExp (EI (hc pins s σ H _ I h) λd s1 ⟨H1,I1,q1⟩=>?_);cases d with
 | true=>exact ha pins s1 σ H1 Q I1 q1
 | false=>exact hb pins s1 σ H1 Q I1 q1
end
def EF (K:zz7) (H:Hp) (a:Addr) (xs:List V):Prop :=
 Rd H a (.lst xs) \/
  ∃(o:Obj) (EE:Array zz9) (n:Nat),K.lookup a=some o/\o.cls=.type "list"/\o.dict=none/\o.data=.seq EE n/\EE.size<=sizeLine/\av xs EE.toList
def EG (K:zz7) (H:Hp) (a:Addr) (xs:List V):Prop :=
 Rd H a (.tup xs) \/
  ∃(o:Obj) (EE:Array zz9) (n:Nat),K.lookup a=some o/\o.cls=.type "tuple"/\o.data=.seq EE n/\EE.size<=sizeLine/\av xs EE.toList
def zp:zz9->Option V
 | .none=>some .non
 | .bool b=>some (.bl b)
 | .int i _=>some (.int i)
 | .str x _=>some (.str x)
 | .bytes b _=>some (.byt b)
 | .float b _=>some (.flt b)
 | .ref a=>some (.ref a)
 | .type n=>some (.ty n)
 | _=>none
theorem RelV.abs {x:V}{u:zz9} (r:RelV x u):zp u=some x:=by
 cases x with
 | non=>cases r;rfl
 | bl _=>cases r;rfl
 | int _=>obtain⟨t,rfl⟩:=r;rfl
 | str _=>obtain⟨t,rfl⟩:=r;rfl
 | byt _=>obtain⟨t,rfl⟩:=r;rfl
 | flt _=>obtain⟨t,rfl⟩:=r;rfl
 | ref _=>cases r;rfl
 | ty _=>cases r;rfl
theorem RelV.inj {x y:V}{u:zz9} (r:RelV x u) (q:RelV y u):x=y:=Bx (r.abs.symm.trans q.abs)
theorem av.inj:∀{xs ys:List V}{us:List zz9},av xs us->av ys us->xs=ys
 | _,_,_,.nil,.nil=>rfl
 | _,_,_,.cons r t,.cons r' t'=>by rw [r.inj r',av.inj t t']
section
variable {X:Cx}{pins:List (Addr×Obj)}{σ:St}{H:Hp}{s:zz8}{a:Addr}{xs ys:List V}
theorem EF.of {K:zz7} (h:H a=some (.lst xs)):EF K H a xs:=.inl (.inl h)
theorem EG.of {K:zz7} (h:H a=some (.tup xs)):EG K H a xs:=.inl (.inl h)
theorem Inv.list (I:Inv X pins σ H s) (h:EF X.K H a xs):∃EE:List zz9,av xs EE/\PlainL s.heap a EE.toArray/\xs.length<=sizeLine:=by
 rcases h with h | ⟨o,EE,n,hk,hc,hd,hs,hz,r⟩
 ·obtain⟨z,EE,n,r,e⟩:=h.ok I.hok
  exact⟨EE,r,⟨_,n,e,rfl,rfl,rfl⟩,z⟩
 ·refine⟨EE.toList,r,⟨o,n,I.kIn a o hk,hc,hd,by simpa using hs⟩,?_⟩
  have e:=r.length;simp only [BD] at e;omega
theorem Inv.tuple (I:Inv X pins σ H s) (h:EG X.K H a xs):∃EE:List zz9,av xs EE/\IsTup s.heap a EE.toArray/\xs.length<=sizeLine:=by
 rcases h with h | ⟨o,EE,n,hk,hc,hs,hz,r⟩
 ·obtain⟨z,EE,r,p⟩:=h.ok I.hok
  exact⟨EE,r,p,z⟩
 ·refine⟨EE.toList,r,⟨o,I.kIn a o hk,hc,n,by simpa using hs⟩,?_⟩
  have e:=r.length;simp only [BD] at e;omega
theorem Inv.list_inj (I:Inv X pins σ H s) (h:EF X.K H a xs) (h':EF X.K H a ys):xs=ys:=by
 obtain⟨EE,r,⟨o,n,e,_,_,d⟩,_⟩:=I.list h;obtain⟨its',r',⟨o',n',e',_,_,d'⟩,_⟩:=I.list h';rw [e] at e';cases e';rw [d] at d'
 injection d' with d1 _
 have:EE=its':=by simpa using congrArg Array.toList d1
 subst this;exact r.inj r'
theorem Inv.tuple_inj (I:Inv X pins σ H s) (h:EG X.K H a xs) (h':EG X.K H a ys):xs=ys:=by
 obtain⟨EE,r,⟨o,e,_,n,d⟩,_⟩:=I.tuple h;obtain⟨its',r',⟨o',e',_,n',d'⟩,_⟩:=I.tuple h';rw [e] at e';cases e';rw [d] at d'
 injection d' with d1 _
 have:EE=its':=by simpa using congrArg Array.toList d1
 subst this;exact r.inj r'
end
abbrev Cx.wish (X:Cx) (E:zz9->zz8->Prop):Cx:={ X with xe:=E }
abbrev Cx.nox (X:Cx):Cx:=X.wish λ_ _=>False
theorem Cx.Ok.wish {X:Cx} (ok:X.Ok) (E:zz9->zz8->Prop):(X.wish E).Ok :=
 ⟨ok.mod,ok.kind,ok.glob,ok.blt,ok.above,ok.inj,ok.has,ok.cab,ok.hd,ok.frames,ok.stk,ok.exf,ok.bs,ok.bsz,ok.noex,ok.exfs,ok.funs,ok.frf⟩
theorem Cx.Ok.unwish {X:Cx}{E:zz9->zz8->Prop} (ok:(X.wish E).Ok):X.Ok :=
 ⟨ok.mod,ok.kind,ok.glob,ok.blt,ok.above,ok.inj,ok.has,ok.cab,ok.hd,ok.frames,ok.stk,ok.exf,ok.bs,ok.bsz,ok.noex,ok.exfs,ok.funs,ok.frf⟩
section
variable {X:Cx}{pins:List (Addr×Obj)}{σ:St}{H:Hp}{s:zz8}{E:zz9->zz8->Prop}
theorem Inv.wish (I:Inv X pins σ H s) (E:zz9->zz8->Prop):Inv (X.wish E) pins σ H s:=⟨I.ok.wish E,I.os,I.bare,I.base,I.loc,I.cell,I.free,I.freeC,I.pin,I.hok,I.len⟩
theorem Inv.unwish (I:Inv (X.wish E) pins σ H s):Inv X pins σ H s:=⟨I.ok.unwish,I.os,I.bare,I.base,I.loc,I.cell,I.free,I.freeC,I.pin,I.hok,I.len⟩
theorem SP.unwish {D:Ends}{f:Flow}{s':zz8} (h:SP (X.wish E) pins D f s'):SP X pins D f s':=by
 cases f with
 | next=>obtain⟨σ',H',I,q⟩:=h;exact⟨σ',H',I.unwish,q⟩
 | brk=>obtain⟨σ',H',I,q⟩:=h;exact⟨σ',H',I.unwish,q⟩
 | cont=>obtain⟨σ',H',I,q⟩:=h;exact⟨σ',H',I.unwish,q⟩
 | ret u=>obtain⟨v,σ',H',I,r,q⟩:=h;exact⟨v,σ',H',I.unwish,r,q⟩
theorem PE.nox {e:Expr}{t:TE} (h:PE X.nox e t):PE X e t:=λpins s σ H Q I hw =>
 BW (h pins s σ H Q (I.wish _) hw) (λ_ _ ⟨v,H',I',r,q⟩=>⟨v,H',I'.unwish,r,q⟩) λ_ _ z=>False.elim z
theorem Iq.nox {st:List Stmt}{t:TS} (h:Iq X.nox st t):Iq X st t:=λpins s σ H D I hw =>
 BW (h pins s σ H D (I.wish _) hw) (λ_ _ q=>q.unwish) λ_ _ z=>False.elim z
end
section
variable {X:Cx}{st:Stmt}{rest:List Stmt}{t u:TS}{e:Expr}{te:TE}{pos:Pos}
def yD:TS:=λD σ H=>D.nx σ H
def gh (t u:TS):TS:=λD σ H=>t { D with nx:=u D } σ H
theorem aV:Iq X [] yD:=λ_ _ σ H _ I h=>DK ⟨σ,H,I,h⟩
theorem ak (h1:PS X st t) (h2:Iq X rest u):Iq X (st::rest) (gh t u):=by
 intro pins s σ H D I h;refine wpAny_execs_cons (EI (h1 pins s σ H { D with nx:=u D } I h) λf s1 q=>?_);cases f with
 | next =>
  obtain⟨σ',H',I',q⟩:=q;exact h2 pins s1 σ' H' D I' q
 | ret v=>exact q
 | brk=>exact q
 | cont=>exact q
theorem ar (h1:PS X st t):Iq X [st] t:=by
 intro pins s σ H D I h;refine wpAny_execs_cons (EI (h1 pins s σ H D I h) λf s1 q=>?_);cases f with
 | next=>exact DK q
 | ret v=>exact q
 | brk=>exact q
 | cont=>exact q
theorem Inv.quiet {pins:List (Addr×Obj)}{σ:St}{H:Hp}{s:zz8} (I:Inv X pins σ H s):interactive X.env=false:=by simp [interactive,I.ok.kind]
def yK (te:TE):TS:=λD σ H=>te σ H λ_ H1=>D.nx σ H1
theorem bg (he:PE X e te) (hs:swapsWith e none pos.line X.env=pure false:=by rfl):PS X (.Expr e pos) (yK te):=by
 intro pins s σ H D I h;exact wpAny_Expr_any (EI (he pins s σ H _ I h) λv s1 ⟨x,H1,I1,r1,q1⟩=>⟨σ,H1,I1,q1⟩) I.quiet hs
def zL (te:TE):TS:=λD σ H=>te σ H D.rt
theorem aM (he:PE X e te):PS X (.Return (some e) pos) (zL te):=by
 intro pins s σ H D I h;exact wpAny_Return_some (EI (he pins s σ H _ I h) λv s1 ⟨x,H1,I1,r1,q1⟩=>⟨x,σ,H1,I1,r1,q1⟩)
def kY (c:TT) (t u:TS):TS:=λD σ H=>c σ H λb H1=>if b=true then t D σ H1 else u D σ H1
theorem aS {c:Expr}{a b:List Stmt}{tc:TT} (hc:PT X c tc) (ha:Iq X a t) (hb:Iq X b u):PS X (.If c a b pos) (kY tc t u):=by
 intro pins s σ H D I h;refine wpAny_If (EI (hc pins s σ H _ I h) λd s1 ⟨H1,I1,q1⟩=>?_);cases d with
 | true=>exact ha pins s1 σ H1 D I1 q1
 | false=>exact hb pins s1 σ H1 D I1 q1
def xD:TS:=λ_ _ _=>False
theorem bT {XE:List Stmt}:Iq X XE xD:=λ_ _ _ _ _ _ h=>h.elim
end
abbrev TG:=V->St->Hp->(St->Hp->Prop)->Prop
abbrev LR:=List V->St->Hp->(St->Hp->Prop)->Prop
def PG (X:Cx) (target:Expr) (t:TG):Prop :=
 ∀(pins:List (Addr×Obj)) (s:zz8) (σ:St) (H:Hp) (v:V) (u:zz9) (Q:St->Hp->Prop),Inv X pins σ H s->RelV v u->t v σ H Q ->
  wpAny (model X.prog X.w) X.A (assign target X.env u) (λ_ s'=>∃σ' H',Inv X pins σ' H' s'/\Q σ' H') X.xe s
def PK (X:Cx) (ts:List Expr) (t:LR):Prop :=
 ∀(pins:List (Addr×Obj)) (s:zz8) (σ:St) (H:Hp) (vs:List V) (us:List zz9) (Q:St->Hp->Prop),Inv X pins σ H s->av vs us->t vs σ H Q ->
  wpAny (model X.prog X.w) X.A (assignInOrder ((assignEach ts X.env).map (·.2)) us) (λ_ s'=>∃σ' H',Inv X pins σ' H' s'/\Q σ' H') X.xe s
abbrev kK:=V->V->V->Hp->(Hp->Prop)->Prop
def qA (X:Cx) (t:kK):Prop :=
 ∀(pins:List (Addr×Obj)) (s:zz8) (σ:St) (H:Hp) (o i v:V) (ov iv u:zz9) (Q:Hp->Prop),Inv X pins σ H s->RelV o ov->RelV i iv->RelV v u->t o i v H Q ->
  wpAny (model X.prog X.w) X.A (setItem ov iv u) (λ_ s'=>∃H',Inv X pins σ H' s'/\Q H') X.xe s
abbrev QK:=V->V->Hp->VK->Prop
def Xd (X:Cx) (op:Operator) (t:QK):Prop :=
 ∀(pins:List (Addr×Obj)) (s:zz8) (σ:St) (H:Hp) (x y:V) (v u:zz9) (Q:VK),Inv X pins σ H s->RelV x v->RelV y u->t x y H Q ->
  wpAny (model X.prog X.w) X.A (inplaceOp op v u) (EP X pins σ Q) X.xe s
section
variable {X:Cx}{pos:Pos}
def cm (i:Nat):TG:=λv σ H Q=>Q (σ.set i (some v)) H
theorem bc {i:Nat}{x:Str} (hN:X.N.Nodup) (hi:X.N[i]?=some x) (hx:Loc X.env.scope x) (hf:X.fn x=true\/X.env.scope.names.lookup x=some .local:=by first | exact .inl rfl | exact .inr rfl | assumption):PG X (.Name x pos) (cm i):=by
 intro pins s σ H v u Q I r h;exact Ej (gq I hN hi hx r (λs' I'=>⟨_,H,I',h⟩) hf)
def zX:LR:=λvs σ H Q=>vs=[]/\Q σ H
def yB (t:TG) (u:LR):LR:=λvs σ H Q=>∃v r,vs=v::r/\t v σ H λσ' H'=>u r σ' H' Q
theorem dq:PK X [] zX:=by
 intro pins s σ H vs us Q I r h;obtain⟨e,h⟩:=h;subst e;cases r;exact assignInOrder_nil ⟨σ,H,I,h⟩
theorem bG {e:Expr}{es:List Expr}{t:TG}{u:LR} (h1:PG X e t) (h2:PK X es u)
  (hs:(assignEach (e::es) X.env).map (·.2)=assign e X.env::(assignEach es X.env).map (·.2):=by rfl):PK X (e::es) (yB t u):=by
 intro pins s σ H vs us Q I r h;obtain⟨v,vr,e1,h⟩:=h;subst e1;cases r with
 | cons r rr =>
  rw [hs];refine assignInOrder_cons (EI (h1 pins s σ H _ _ _ I r h) λ_ s1 ⟨σ1,H1,I1,q1⟩=>?_);exact h2 pins s1 σ1 H1 _ _ Q I1 rr q1
def qy (K:zz7) (n:Nat) (t:LR):TG:=λv σ H Q=>∃a xs,v=.ref a/\EG K H a xs/\xs.length=n/\t xs σ H Q
theorem dU {es:List Expr}{k:Nat}{t:LR}{n:Nat} (hc:X.calm=true) (h:PK X es t)
  (hn:(assignEach es X.env).length=n:=by rfl) (GE:(assignEach es X.env).findIdx? (·.1)=none:=by rfl):PG X (.Tuple es k pos) (qy X.K n t):=by
 intro pins s σ H v u Q I r hw;obtain⟨a,xs,e1,hq,hl,hw⟩:=hw;subst e1;cases r;obtain⟨EE,rv,ht,hz⟩:=I.tuple hq;refine assign_Tuple_tuple (I.ok.hd hc) ht (by simp [hn,<- hl,rv.length]) GE λh' hx=>?_;have I1:Inv X pins σ H { s with heap:=h' }:=I.kept (t':=s.toks) λb o e=>hx b o (Bh (AQ e)) e;exact h pins _ σ H xs _ Q I1 (by simpa using rv) hw
def Ad (to ti:TE) (t:kK):TG:=λv σ H Q=>to σ H λo H1=>ti σ H1 λi H2=>t o i v H2 λH3=>Q σ H3
theorem o5 {o i:Expr}{to ti:TE}{t:kK} (ho:PE X o to) (hi:PE X i ti) (hs:qA X t)
  (ha:∀v,assign (.Subscript o i pos) X.env v=(do
   let ov <- holding [v] (eval o X.env)
   let iv <- holding [v,ov] (eval i X.env)
   standAt pos
   holding [v,ov,iv] (setItem ov iv v)
   release [v,ov,iv] []):=by intro _;rfl):PG X (.Subscript o i pos) (Ad to ti t):=by
 intro pins s σ H v u Q I r h;rw [ha];refine Aw (BJ (EI (ho pins s σ H _ I h) λov s1 ⟨x,H1,I1,r1,q1⟩=>?_));refine Aw (BJ (EI (hi pins s1 σ H1 _ I1 q1) λiv s2 ⟨y,H2,I2,r2,q2⟩=>?_));refine Aw (B7 (Aw (BJ (EI (hs pins s2 σ H2 x y v ov iv u _ I2 r1 r2 r q2) λ_ s3 ⟨H3,I3,q3⟩=>?_))));exact wpAny_release ⟨σ,H3,I3,q3⟩
def kL (te:TE) (g:TG):TS:=λD σ H=>te σ H λx H1=>g x σ H1 D.nx
theorem fq {tg e:Expr}{te:TE}{g:TG} (he:PE X e te) (hg:PG X tg g) (hs:swapsWithSole [tg] e pos.line X.env=pure false:=by rfl) (hw:swappedStores [tg] e X.env=pure none:=by rfl)
  (h1:(assignEach [tg] X.env).map (·.2)=[assign tg X.env]:=by rfl):PS X (.Assign [tg] e pos) (kL te g):=by
 intro pins s σ H D I h;refine wpAny_Assign_stores (EI (he pins s σ H _ I h) λv s1 ⟨x,H1,I1,r1,q1⟩=>?_) hs hw;rw [h1];exact EI (hg pins s1 σ H1 x v _ I1 r1 q1) λ_ s2 q=>q
theorem aA {i:Nat}{x:Str}{e:Expr}{te:TE}{Ho:Pos} (hN:X.N.Nodup) (hi:X.N[i]?=some x) (hx:Loc X.env.scope x) (he:PE X e te) (hs:swapsWith e (some (.Name x Ho)) pos.line X.env=pure false:=by rfl) (hf:X.fn x=true\/X.env.scope.names.lookup x=some .local:=by first | exact .inl rfl | exact .inr rfl | assumption) :
  PS X (.Assign [.Name x Ho] e pos) (kL te (cm i)):=by
 intro pins s σ H D I h;refine wpAny_Assign_Name (EI (he pins s σ H _ I h) λv s1 ⟨y,H1,I1,r1,q1⟩=>?_) hs;exact gq I1 hN hi hx r1 (λs2 I2=>⟨_,H1,I2,q1⟩) hf
def zo (i j:Nat) (ta:TA):TS:=λD σ H=>ta σ H λvs H1=>∃v w,vs=[v,w]/\D.nx ((σ.set i (some v)).set j (some w)) H1
theorem yb {i j:Nat}{x y:Str}{a b:Expr}{ta:TA}{px py pt:Pos}{kt k2 Rn} (hc:X.calm=true) (hN:X.N.Nodup) (hi:X.N[i]?=some x) (hj:X.N[j]?=some y) (FW:i≠j)
  (hx:X.env.scope.names.lookup x=some .local) (hy:X.env.scope.names.lookup y=some .local) (ha:PA X [a,b] ta)
  (hw:swappedStores [.Tuple [.Name x px,.Name y py] kt pt] (.Tuple [a,b] k2 Rn) X.env=pure (some [x,y]))
  (hs:swapsWithSole [.Tuple [.Name x px,.Name y py] kt pt] (.Tuple [a,b] k2 Rn) pos.line X.env=pure false:=by rfl) :
  PS X (.Assign [.Tuple [.Name x px,.Name y py] kt pt] (.Tuple [a,b] k2 Rn) pos) (zo i j ta):=by
 intro pins s σ H D I h;rw [exec_Assign_arm];refine Aw (B7 ?_);rw [hs];refine Aw (Az ?_);rw [if_neg (by decide)];refine Aw (Tuple_ (EI (ha _ pins s σ H _ I h) λus s1 ⟨vs,H1,I1,r1,q1⟩=>?_));obtain⟨v,w,e1,q1⟩:=q1;subst e1;obtain⟨u1,u2,rfl,rv,GC⟩:∃u1 u2,us=[u1,u2]/\RelV v u1/\RelV w u2:=by
  cases r1 with
  | cons p q =>
   cases q with
   | cons p' q' =>
    cases q';exact⟨_,_,rfl,p,p'⟩
 refine Bp ?_ (by show 2<=sizeLine;decide);have I2:Inv X pins σ H1 { s1 with heap:=s1.heap.push { cls:=.type "tuple",data:=.seq [u1,u2].toArray } }:=I1.kept (t':=s1.toks) λb o e=>AA _ e;rw [hw];refine Aw (Az ?_);show wpAny (model X.prog X.w) X.A (do rule "assign.swapped-stores";let items <- unpackItems (.ref s1.heap.objs.size) 2 none;assignInOrder [λv=>bindName X.env y v,λv=>bindName X.env x v] items.reverse;pure Flow.next) _ _ _;refine Aw (C5 (Aw (unpackItems_tuple (items:=#[u1,u2]) (I.ok.hd hc) (IsTup.new s1.heap _) λh' Fm=>?_)));have I3:=I2.kept (h':=h') (t':=s1.toks) λb o e=>Fm b o (Bh (AQ e)) e;show wpAny _ _ (assignInOrder [λv=>bindName X.env y v,λv=>bindName X.env x v] [u2,u1] >>= λ_=>pure Flow.next) _ _ _;refine Aw (assignInOrder_cons (wpAny_bindName (gq I3 hN hj (.inl hy) GC (λs2 I4=>?_) (.inr hy))));refine assignInOrder_cons (wpAny_bindName (gq I4 hN hi (.inl hx) rv (λs3 I5=>assignInOrder_nil (Az ?_)) (.inr hx)));rw [List.set_comm _ _ (Cc FW)] at I5;exact⟨_,H1,I5,q1⟩
def y0 (i:Nat) (te:TE) (ti:QK):TS:=λD σ H=>∃x,σ[i]?=some (some x)/\te σ H λy H1=>ti x y H1 λz H2=>D.nx (σ.set i (some z)) H2
theorem yx {i:Nat}{x:Str}{e:Expr}{te:TE}{op:Operator}{ti:QK}{Ho:Pos} (hN:X.N.Nodup) (hi:X.N[i]?=some x) (hx:Loc X.env.scope x) (he:PE X e te) (ho:Xd X op ti) (hf:X.fn x=true\/X.env.scope.names.lookup x=some .local:=by first | exact .inl rfl | exact .inr rfl | assumption) :
  PS X (.AugAssign (.Name x Ho) op e pos) (y0 i te ti):=by
 intro pins s σ H D I h;obtain⟨v,e1,h⟩:=h;obtain⟨m,hn,hl⟩:=I.loc;have Xq:QJ X.env.scope x:=by rcases hx with k | k;exact .inl k;exact .inr (.inl k)
 obtain⟨u,r,l⟩:=hl i x v hi e1 Xq;refine wpAny_AugAssign_Name ?_;have go:wpAny (model X.prog X.w) X.A (eval e X.env) (λw s₂=>wpAny (model X.prog X.w) X.A (inplaceOp op u w) (λr s₃=>wpAny (model X.prog X.w) X.A (storeName X.env x r) (λ_=>SP X pins D .next) X.xe s₃) X.xe s₂) X.xe s:=by
  refine EI (he pins s σ H _ I h) λw s1 ⟨y,H1,I1,r1,q1⟩=>?_;refine EI (ho pins s1 σ H1 v y u w _ I1 r r1 q1) λz s2 ⟨zv,H2,I2,r2,q2⟩=>?_;exact gq I2 hN hi hx r2 (λs3 I3=>⟨_,H2,I3,q2⟩) hf
 rcases l with ⟨hk,hm⟩ | ⟨hk,c,hc,Ik⟩
 ·exact wpAny_loadName_local I.ok.kind hk hn hm go
 ·rcases hk with hk | hk
  ·exact wpAny_loadName_cell I.ok.kind hk hc Ik go
  ·rcases hx with k | k
   ·have:X.env.scope.names.lookup x=some .free:=hk
    rw [k] at this;cases this
   ·have:X.env.scope.names.lookup x=some .free:=hk
    rw [k] at this;cases this
def Zc (f:Int->Int->Int):QK:=λx y H Q=>∃i j,x=.int i/\y=.int j/\Q (.int (f i j)) H
theorem yg:Xd X .Add (Zc λi j=>i + j):=by
 intro pins s σ H x y v u Q I r1 r2 h;obtain⟨i,j,e1,e2,q⟩:=h;subst e1;subst e2;obtain⟨t,rfl⟩:=r1;obtain⟨t',rfl⟩:=r2;exact iadd_int ⟨.int _,H,I.tok _,⟨_,rfl⟩,q⟩
end
section
variable {X:Cx}{pos:Pos}
def x9 (c:TT) (tb:TS):TS:=λD σ H=>∃W:Nat->St->Hp->Prop,(∃m,W m σ H)/\∀m σ H,W m σ H ->
 c σ H λb H1=>if b=true then ∃N:St->Hp->Prop,(∀σ' H',N σ' H'->∃m',m' < m/\W m' σ' H')/\tb { D with nx:=N,ct:=N,bk:=D.nx } σ H1 else D.nx σ H1
theorem jR {c:Expr}{body:List Stmt}{tc:TT}{tb:TS} (hp:PassesOwn (model X.prog X.w) X.A X.env X.xe) (hc:PT X c tc) (hb:Iq X body tb):PS X (.While c body [] pos) (x9 tc tb):=by
 intro pins s σ H D I h;obtain⟨W,⟨m0,w0⟩,turn⟩:=h;refine wpAny_While (codeAny_whileLoop (λn s'=>∃σ' H',Inv X pins σ' H' s'/\W n σ' H') ?_ m0 ⟨σ,H,I,w0⟩);rintro n s1 ⟨σ1,H1,I1,w1⟩;refine CO hp (EI (hc pins s1 σ1 H1 _ I1 (turn n σ1 H1 w1)) λb s2 ⟨H2,I2,q2⟩=>?_);cases b with
 | true =>
  obtain⟨N,hN,q2⟩:=q2;rw [if_pos rfl];refine CO hp (EI (hb pins s2 σ1 H2 _ I2 q2) λf s3 q3=>?_);cases f with
  | next =>
   obtain⟨σ3,H3,I3,n3⟩:=q3;obtain⟨m',hm,w3⟩:=hN σ3 H3 n3;exact⟨m',hm,σ3,H3,I3,w3⟩
  | cont =>
   obtain⟨σ3,H3,I3,n3⟩:=q3;obtain⟨m',hm,w3⟩:=hN σ3 H3 n3;exact⟨m',hm,σ3,H3,I3,w3⟩
  | brk=>exact q3
  | ret v=>exact q3
 | false =>
  rw [if_neg AX];exact DK ⟨σ1,H2,I2,q2⟩
end
structure It where
 go:Nat->Hp->Prop
 yld:Nat->Hp->V->Hp->Prop
 stop:Nat->Hp->Prop
def bR (X:Cx) (pins:List (Addr×Obj)) (H:Hp) (b:Addr):Prop :=
 H b=none/\b≠X.env.locals/\b∉X.fs/\(b∈X.ex\/X.s₀.heap.objs.size<=b)/\(∀x c,X.env.cells.lookup x=some c->c≠b)/\∀p∈X.pn++pins,p.1≠b
theorem Inv.fpOk {X:Cx}{pins:List (Addr×Obj)}{σ:St}{H H':Hp}{s:zz8}{b:Addr} (I:Inv X pins σ H s) (hb:s.heap.objs.size<=b) (hn:H' b=none):bR X pins H' b:=by
 refine⟨hn,Eu (Bk I.lt hb),I.nofs hb,.inr (AV I.sz hb),λx c e z=>?_,λp hp z=>?_⟩
 ·obtain⟨v,q⟩:=I.cell x c e
  exact absurd (Bk q.lt (by rw [z];exact hb)) (BI _)
 ·exact absurd (Bk (AQ (I.pin p hp).1) (by rw [z];exact hb)) (BI _)
structure Turn (P:Program) (w:World) (K:zz7) (tg:Expr) (J:It) (fp:List Addr) (it:Addr) (tn:Nat->Heap->Prop):Prop where
 mem:it∈fp
 obj:∀i h,tn i h->∀b∈fp,∃o,h.get? b=some o/\∀v,o.data≠.cell v
 keep:∀i h h',tn i h->(∀b∈fp,∀o,h.get? b=some o->h'.get? b=some o)->tn i h'
 item:∀(X:Cx),X.prog=P->X.w=w->X.K=K->X.calm=true->∀(i:Nat) (pins:List (Addr×Obj)) (s:zz8) (σ:St) (H:Hp) (E:zz9->zz8->Prop),Inv X pins σ H s->(∀b∈fp,bR X pins H b)->tn i s.heap->J.go i H ->
  wpAny (model P w) X.A (pyNext (.ref it)) (λr s1=>∃u,r=some u /\
   wpAny (model P w) X.A (letOwnedTupleGo tg (.ref it) u) (λ_ s2=>∃x H',Inv X pins σ H' s2/\RelV x u/\J.yld i H x H'/\tn (i + 1) s2.heap/\∀b∈fp,H' b=none) E s1) E s
 done:∀(X:Cx),X.prog=P->X.w=w->X.K=K->X.calm=true->∀(i:Nat) (pins:List (Addr×Obj)) (s:zz8) (σ:St) (H:Hp) (E:zz9->zz8->Prop),Inv X pins σ H s->(∀b∈fp,bR X pins H b)->tn i s.heap->J.stop i H ->
  wpAny (model P w) X.A (pyNext (.ref it)) (λr s1=>r=none/\Inv X pins σ H s1) E s
 self:∀(A:Around) (i:Nat) (s:zz8) (Q:zz9->zz8->Prop) (E:zz9->zz8->Prop),tn i s.heap->Q (.ref it) s->wpAny (model P w) A (pyIter (.ref it)) Q E s
abbrev TI:=St->Hp->(It->Hp->Prop)->Prop
def Xe (X:Cx) (pins:List (Addr×Obj)) (σ:St) (tg:Expr) (R:It->Hp->Prop) (Lq:zz9) (s2:zz8):Prop :=
 ∃(it:Addr) (fp:List Addr) (tn:Nat->Heap->Prop) (J:It) (H':Hp),Lq=.ref it/\Inv X pins σ H' s2/\Turn X.prog X.w X.K tg J fp it tn/\tn 0 s2.heap/\(∀b∈fp,bR X pins H' b)/\R J H'
def PI (X:Cx) (tg iter:Expr) (wi:TI):Prop :=
 ∀(pins:List (Addr×Obj)) (s:zz8) (σ:St) (H:Hp) (R:It->Hp->Prop),Inv X pins σ H s->wi σ H R ->
  wpAny (model X.prog X.w) X.A (eval iter X.env) (λv s1=>wpAny (model X.prog X.w) X.A (pyIter v) (Xe X pins σ tg R) X.xe s1) X.xe s
theorem gQ {M:Model}{A:Around}{E:zz9->zz8->Prop}{s:zz8}{tg:Expr}{it:Addr}{u:zz9}{o:Obj}{n:String}{vs:Array zz9}{Q:Unit->zz8->Prop} (ho:s.heap.get? it=some o) (hc:o.cls=.type n) (hd:o.data=.fields vs)
  (hn:["enumerate","zip","dict_itemiterator","dict_reverseitemiterator","odict_iterator","itertools.zip_longest","itertools.pairwise"].contains n=false) (hQ:Q () s):wpAny M A (letOwnedTupleGo tg (.ref it) u) Q E s:=by
 unfold letOwnedTupleGo;cases tg <;> first
  | exact Az hQ
  | (cases u <;> first
    | exact Az hQ
    | (refine Aw (Ep ho ?_)
       rw [hc,hd];show wpAny M A (if (["enumerate","zip","dict_itemiterator","dict_reverseitemiterator","odict_iterator","itertools.zip_longest","itertools.pairwise"].contains n && vs[0]? == some (rawInt _))=true then _ else _) Q E s;rw [if_neg (by intro h;rw [hn,Bool.false_and] at h;cases h)]
       exact Az hQ))
def J6 (K:zz7) (a:Addr):It :=
 ⟨λi H=>∃xs x,EF K H a xs/\xs[i]?=some x,λi H x H'=>H'=H/\∀xs,EF K H a xs->xs[i]?=some x,λi H=>∃xs,EF K H a xs/\xs.length<=i⟩
def KQ (K:zz7) (a:Addr):It :=
 ⟨λi H=>∃xs x,EG K H a xs/\xs[i]?=some x,λi H x H'=>H'=H/\∀xs,EG K H a xs->xs[i]?=some x,λi H=>∃xs,EG K H a xs/\xs.length<=i⟩
def KR (lo:Int) (n:Nat):It:=⟨λi _=>i < n,λi H x H'=>H'=H/\x=.int (lo + i),λi _=>n<=i⟩
theorem tJ {P:Program}{w:World}{K:zz7}{tg:Expr} (a it:Addr):Turn P w K tg (J6 K a) [it] it (λi h=>h.IsListIter it a i) where
 mem:=by simp
 obj:=λi h st b hb=>by
  have e:b=it:=by simpa using hb
  subst e;obtain⟨o,e,c,d⟩:=st;exact⟨o,e,λv z=>by rw [d] at z;cases z⟩
 keep:=λi h h' st k=>st.at λo e=>k it (by simp) o e
 item:=by
  intro X hP hw hK hc i pins s σ H E I hf st hg;subst hP hw hK;obtain⟨xs,x,hq,hx⟩:=hg;obtain⟨EE,rv,p,hz⟩:=I.list hq;obtain⟨u,hu,ru⟩:=rv.get hx;obtain⟨f0,f1,f2,f3,f4,f5⟩:=hf it (by simp);refine wpAny_pyNext_list_item st p.isList (x:=u) (by simpa using hu) λh' Fb sb=>?_;have I1:Inv X pins σ H { s with heap:=h' }:=I.turned (t':=s.toks) (λb o hb e=>(sb.2 b hb).trans e) f0 f1 f3 f4 f5;obtain⟨o,e,c,d⟩:=id Fb;exact⟨u,rfl,gQ (s:={ s with heap:=h' }) e c d (by decide) ⟨x,H,I1,ru,⟨rfl,λys hy=>by rw [I.list_inj hy hq];exact hx⟩,Fb,λb hb=>(hf b hb).1⟩⟩
 done:=by
  intro X hP hw hK hc i pins s σ H E I hf st hg;subst hP hw hK;obtain⟨xs,hq,hx⟩:=hg;obtain⟨EE,rv,p,hz⟩:=I.list hq;obtain⟨f0,f1,f2,f3,f4,f5⟩:=hf it (by simp);have hl:=rv.length;exact wpAny_pyNext_list_end (I.ok.hd hc) st p.isList (by simp;omega) λh' eb=>⟨rfl,I.turned (t':=s.toks) (λb o hb e=>eb b o hb e) f0 f1 f3 f4 f5⟩
 self:=λ_ _ _ _ _ st h=>wpAny_pyIter_listiter st h
theorem sV {P:Program}{w:World}{K:zz7}{tg:Expr} (a it:Addr):Turn P w K tg (KQ K a) [it] it (λi h=>h.IsTupleIter it a i) where
 mem:=by simp
 obj:=λi h st b hb=>by
  have e:b=it:=by simpa using hb
  subst e;obtain⟨o,e,c,d⟩:=st;exact⟨o,e,λv z=>by rw [d] at z;cases z⟩
 keep:=λi h h' st k=>st.at λo e=>k it (by simp) o e
 item:=by
  intro X hP hw hK hc i pins s σ H E I hf st hg;subst hP hw hK;obtain⟨xs,x,hq,hx⟩:=hg;obtain⟨EE,rv,p,hz⟩:=I.tuple hq;obtain⟨u,hu,ru⟩:=rv.get hx;obtain⟨f0,f1,f2,f3,f4,f5⟩:=hf it (by simp);refine wpAny_pyNext_tuple_item st (show s.heap.IsTuple a EE.toArray from p) (x:=u) (by simpa using hu) λh' Fb sb=>?_;have I1:Inv X pins σ H { s with heap:=h' }:=I.turned (t':=s.toks) (λb o hb e=>(sb.2 b hb).trans e) f0 f1 f3 f4 f5;obtain⟨o,e,c,d⟩:=id Fb;exact⟨u,rfl,gQ (s:={ s with heap:=h' }) e c d (by decide) ⟨x,H,I1,ru,⟨rfl,λys hy=>by rw [I.tuple_inj hy hq];exact hx⟩,Fb,λb hb=>(hf b hb).1⟩⟩
 done:=by
  intro X hP hw hK hc i pins s σ H E I hf st hg;subst hP hw hK;obtain⟨xs,hq,hx⟩:=hg;obtain⟨EE,rv,p,hz⟩:=I.tuple hq;obtain⟨f0,f1,f2,f3,f4,f5⟩:=hf it (by simp);have hl:=rv.length;exact wpAny_pyNext_tuple_end (I.ok.hd hc) st (show s.heap.IsTuple a EE.toArray from p) (by simp;omega) λh' eb=>⟨rfl,I.turned (t':=s.toks) (λb o hb e=>eb b o hb e) f0 f1 f3 f4 f5⟩
 self:=λ_ _ _ _ _ st h=>wpAny_pyIter_tupleiter st h
theorem sP {P:Program}{w:World}{K:zz7}{tg:Expr} (it:Addr) (lo:Int) (n:Nat):Turn P w K tg (KR lo n) [it] it (λi h=>IsRangeIter h it (lo + (i:Nat) * 1) ((n:Int) - (i:Nat)) 1) where
 mem:=by simp
 obj:=λi h st b hb=>by
  have e:b=it:=by simpa using hb
  subst e
  exact⟨_,st,λv z=>by
   have z':Data.fields _=Data.cell v:=z
   cases z'⟩
 keep:=λi h h' st k=>k it (by simp) _ st
 item:=by
  intro X hP hw hK hc i pins s σ H E I hf st hg;subst hP hw hK;obtain⟨f0,f1,f2,f3,f4,f5⟩:=hf it (by simp);have W:=Walks.range (prog:=X.prog) (w:=X.w) (I.ok.hd hc) it lo 1 n;refine W.item i s _ _ hg st λv h' tk hv Fb kk=>?_;obtain⟨t,rfl⟩:=hv;have I1:Inv X pins σ H { s with heap:=h',toks:=tk }:=I.turned (λb o hb e=>kk b o (by simpa using hb) e) f0 f1 f3 f4 f5;refine⟨_,rfl,gQ (s:={ s with heap:=h',toks:=tk }) (n:="range_iterator") Fb rfl rfl (by decide) ⟨.int (lo + i),H,I1,⟨t,?_⟩,⟨rfl,rfl⟩,Fb,λb hb=>(hf b hb).1⟩⟩;rw [Int.mul_one]
 done:=by
  intro X hP hw hK hc i pins s σ H E I hf st hg;subst hP hw hK;obtain⟨f0,f1,f2,f3,f4,f5⟩:=hf it (by simp);exact wpAny_pyNext_range_end (I.ok.hd hc) st (by have:n<=i:=hg;omega) λh' eb=>⟨rfl,I.turned (t':=s.toks) (λb o hb e=>eb b o hb e) f0 f1 f3 f4 f5⟩
 self:=λ_ _ _ _ _ st h=>wpAny_pyIter_rangeiter st h
section
variable {X:Cx}{tg:Expr}
def ku (K:zz7) (tl:TE):TI:=λσ H R=>tl σ H λx H1=>∃a,x=.ref a/\(∃xs,EF K H1 a xs)/\R (J6 K a) H1
def gT (K:zz7) (tl:TE):TI:=λσ H R=>tl σ H λx H1=>∃a,x=.ref a/\(∃xs,EG K H1 a xs)/\R (KQ K a) H1
theorem bv {l:Expr}{tl:TE} (hl:PE X l tl):PI X tg l (ku X.K tl):=by
 intro pins s σ H R I h;refine EI (hl pins s σ H _ I h) λv s1 ⟨x,H1,I1,r1,q1⟩=>?_;obtain⟨a,e,⟨xs,hq⟩,q⟩:=q1;subst e;cases r1;obtain⟨EE,rv,p,hz⟩:=I1.list hq;refine Ds p.isList ?_;refine⟨s1.heap.objs.size,[s1.heap.objs.size],_,_,H1,rfl,I1.kept (t':=s1.toks) λb o e=>AA _ e,tJ a _,⟨_,AS _ rfl,rfl,rfl⟩,λb hb=>?_,q⟩;have e:b=s1.heap.objs.size:=by simpa using hb
 subst e;exact I1.fpOk (AF _) (I1.hok.fresh (AF _))
theorem bC {l:Expr}{tl:TE} (hl:PE X l tl):PI X tg l (gT X.K tl):=by
 intro pins s σ H R I h;refine EI (hl pins s σ H _ I h) λv s1 ⟨x,H1,I1,r1,q1⟩=>?_;obtain⟨a,e,⟨xs,hq⟩,q⟩:=q1;subst e;cases r1;obtain⟨EE,rv,p,hz⟩:=I1.tuple hq;refine Dh (show s1.heap.IsTuple a EE.toArray from p) ?_;refine⟨s1.heap.objs.size,[s1.heap.objs.size],_,_,H1,rfl,I1.kept (t':=s1.toks) λb o e=>AA _ e,sV a _,⟨_,AS _ rfl,rfl,rfl⟩,λb hb=>?_,q⟩;have e:b=s1.heap.objs.size:=by simpa using hb
 subst e;exact I1.fpOk (AF _) (I1.hok.fresh (AF _))
theorem nu {pins:List (Addr×Obj)}{σ:St}{H:Hp}{s:zz8}{R:It->Hp->Prop}{E:zz9->zz8->Prop}{lo hi:Int}{t u v:Tok}{tk:Nat} (I:Inv X pins σ H s) (h1:-(2 ^ 62)<=lo) (h2:lo < 2 ^ 62) (h3:-(2 ^ 62)<=hi) (h4:hi < 2 ^ 62)
  (q:R (KR lo (hi - lo).toNat) H):wpAny (model X.prog X.w) X.A (pyIter (.ref s.heap.objs.size)) (Xe X pins σ tg R) E { s with heap:=s.heap.push { cls:=.type "range",data:=.fields #[.int lo t,.int hi u,.int 1 v] },toks:=tk }:=by
 refine wpAny_pyIter_range (IsRange.new ..) (small_one h1 h2 h3 h4) ?_;have I1:Inv X pins σ H { s with heap:=s.heap.push { cls:=.type "range",data:=.fields #[.int lo t,.int hi u,.int 1 v] },toks:=tk }:=I.kept λb o e=>AA _ e
 refine⟨(s.heap.push { cls:=.type "range",data:=.fields #[.int lo t,.int hi u,.int 1 v] }).objs.size,[(s.heap.push { cls:=.type "range",data:=.fields #[.int lo t,.int hi u,.int 1 v] }).objs.size],_,_,H,rfl,
  I1.kept (t':=tk) λb o e=>AA _ e,sP _ lo (hi - lo).toNat,?_,λb hb=>?_,q⟩
 ·have e1:lo + ((0:Nat):Int) * 1=lo:=by simp
  have e2:(((hi - lo).toNat:Nat):Int) - ((0:Nat):Int)=Builtin.Range.rangeSize lo hi 1:=by rw [rangeSize_one];split <;> omega
  show IsRangeIter _ _ (lo + ((0:Nat):Int) * 1) ((((hi - lo).toNat:Nat):Int) - ((0:Nat):Int)) 1;rw [e1,e2];exact AS _ rfl
 ·have e:b=(s.heap.push { cls:=.type "range",data:=.fields #[.int lo t,.int hi u,.int 1 v] }).objs.size:=by simpa using hb
  subst e;exact I1.fpOk (AF _) (I1.hok.fresh (AF _))
def yX (ta:TA):TI:=λσ H R=>ta σ H λvs H1=>∃j:Int,vs=[.int j]/\-(2 ^ 62)<=j/\j < 2 ^ 62/\R (KR 0 j.toNat) H1
def yF (ta:TA):TI:=λσ H R=>ta σ H λvs H1=>∃i j:Int,vs=[.int i,.int j]/\(-(2 ^ 62)<=i/\i < 2 ^ 62/\-(2 ^ 62)<=j/\j < 2 ^ 62)/\R (KR i (j - i).toNat) H1
theorem di {a:Expr}{ta:TA}{p pos:Pos} (hg:Gl X "range") (hm:X.mg "range"=none) (ha:PA X [a] ta) (hs:starEach [a] X.env=[(false,eval a X.env)]:=by rfl):PI X tg (.Call (.Name "range" p) [a] [] pos) (yX ta):=by
 intro pins s σ H R I h;refine Call_ (fm I hg hm boot_range (Cj (EI (ha pos pins s σ H _ I h) λus s1 ⟨vs,H1,I1,r1,q1⟩=>?_) hs rfl));obtain⟨j,e,q1,q2,q⟩:=q1;subst e;cases r1 with
 | cons r rr =>
  cases rr;obtain⟨t,rfl⟩:=r;exact call_range_1 (nu I1 (by omega) (by omega) q1 q2 (by simpa using q))
theorem mi {a b:Expr}{ta:TA}{p pos:Pos} (hg:Gl X "range") (hm:X.mg "range"=none) (ha:PA X [a,b] ta) (hs:starEach [a,b] X.env=[(false,eval a X.env),(false,eval b X.env)]:=by rfl) (Gs:starEach [b] X.env=[(false,eval b X.env)]:=by rfl) :
  PI X tg (.Call (.Name "range" p) [a,b] [] pos) (yF ta):=by
 intro pins s σ H R I h;refine Call_ (fm I hg hm boot_range (Cj (EI (ha pos pins s σ H _ I h) λus s1 ⟨vs,H1,I1,r1,q1⟩=>?_) (by rw [hs,Gs]) (by rw [Gs];rfl)));obtain⟨i,j,e,⟨q1,q2,q3,q4⟩,q⟩:=q1;subst e;cases r1 with
 | cons r rr =>
  cases rr with
  | cons r' rr =>
   cases rr;obtain⟨t,rfl⟩:=r;obtain⟨t',rfl⟩:=r';exact call_range_2 (nu I1 q1 q2 q3 q4 q)
def qp (wi:TI) (g:TG) (tb:TS):TS:=λD σ H=>wi σ H λJ H1=>∃W:Nat->Nat->St->Hp->Prop,(∃m,W 0 m σ H1)/\∀i m σ H,W i m σ H ->
 (J.stop i H/\D.nx σ H)\/(J.go i H/\∃N:St->Hp->Prop,(∀σ' H',N σ' H'->∃m',m' < m/\W (i + 1) m' σ' H')/\∀x H',J.yld i H x H'->g x σ H' λσ2 H2=>tb { D with nx:=N,ct:=N,bk:=D.nx } σ2 H2)
def df (fp:List Addr) (h:Heap):List (Addr×Obj):=fp.filterMap λb=>(h.get? b).map λo=>(b,o)
theorem cV {fp:List Addr}{h:Heap}{b:Addr}{o:Obj} (hb:b∈fp) (e:h.get? b=some o):(b,o)∈df fp h:=D3.mpr ⟨b,hb,by rw [e];rfl⟩
theorem lM {fp:List Addr}{h:Heap}{p:Addr×Obj} (hp:p∈df fp h):p.1∈fp/\h.get? p.1=some p.2:=by
 obtain⟨b,hb,e⟩:=D3.mp hp;cases q:h.get? b with
 | none=>rw [q] at e;cases e
 | some o =>
  rw [q] at e;have e':(b,o)=p:=Bx e;subst e';exact⟨hb,q⟩
theorem Inv.pinned {pins:List (Addr×Obj)}{σ:St}{H:Hp}{s:zz8}{fp:List Addr} (I:Inv X pins σ H s) (hf:∀b∈fp,bR X pins H b) (ho:∀b∈fp,∃o,s.heap.get? b=some o/\∀v,o.data≠.cell v):Inv X (pins++df fp s.heap) σ H s :=
 I.pins_of λp hp=>(AO.mp hp).elim (λz=>I.pin p (AK _ z)) λz=>by
  obtain⟨hb,e⟩:=lM z;obtain⟨f0,f1,f2,_⟩:=hf p.1 hb;obtain⟨o,e',d⟩:=ho p.1 hb;rw [e] at e';cases e';exact⟨e,f0,f1,f2,d⟩
theorem Inv.unpinned {pins pl:List (Addr×Obj)}{σ:St}{H:Hp}{s:zz8} (I:Inv X (pins++pl) σ H s):Inv X pins σ H s:=I.pins_of λp hp=>I.pin p (AK _ (AZ _ hp))
theorem bZ {iter:Expr}{body:List Stmt}{wi:TI}{g:TG}{tb:TS}{pos:Pos} (hp:PassesOwn (model X.prog X.w) X.A X.env X.xe) (hc:X.calm=true) (hi:PI X tg iter wi) (hg:PG X tg g) (hb:Iq X body tb)
  (hs:∀x,foldedSetIterable iter X.env x=pure x:=by intro _;rfl):PS X (.For tg iter body [] pos) (qp wi g tb):=by
 intro pins s σ H D I h;refine wpAny_For (EI (hi pins s σ H _ I h) λv s1 h1=>EI h1 λLq s2 h2=>?_) hs;obtain⟨it,fp,tn,J,H2,e,I2,T,Gy,f2,W,⟨m0,w0⟩,turn⟩:=h2;subst e;have stat:∀{H':Hp},(∀b∈fp,H' b=none)->∀b∈fp,bR X pins H' b:=λhn b hb=>⟨hn b hb,(f2 b hb).2⟩
 refine codeAny_forLoop_any (λn s'=>∃i σ' H',Inv X pins σ' H' s'/\tn i s'.heap/\(∀b∈fp,H' b=none)/\W i n σ' H') ?_ m0 ⟨0,σ,H2,I2,Gy,λb hb=>(f2 b hb).1,w0⟩;rintro n s3 ⟨i,σ3,H3,I3,UU,WJ,w3⟩
 rcases turn i n σ3 H3 w3 with ⟨stop,qn⟩ | ⟨go,N,hN,step⟩
 ·refine CO hp (EI (T.done X rfl rfl rfl hc i pins s3 σ3 H3 X.xe I3 (stat WJ) UU stop) λr s4 ⟨hr,I4⟩=>?_)
  subst hr;exact DK ⟨σ3,H3,I4,qn⟩
 ·refine CO hp (EI (T.item X rfl rfl rfl hc i pins s3 σ3 H3 X.xe I3 (stat WJ) UU go) λr s4 ⟨u,hr,h4⟩=>?_)
  subst hr;refine CO hp (EI h4 λ_ s5 ⟨x,H5,I5,r5,y5,Nm,fr5⟩=>?_);have I5':=I5.pinned (stat fr5) (T.obj _ _ Nm);refine CO hp (EI (hg _ s5 σ3 H5 x u _ I5' r5 (step x H5 y5)) λ_ s6 ⟨σ6,H6,I6,q6⟩=>?_);refine CO hp (EI (hb _ s6 σ6 H6 _ I6 q6) λf s7 q7=>?_);have again:∀{σ7:St}{H7:Hp},Inv X (pins++df fp s5.heap) σ7 H7 s7->N σ7 H7->∃m,m < n/\∃i σ' H',Inv X pins σ' H' s7/\tn i s7.heap/\(∀b∈fp,H' b=none)/\W i m σ' H':=λ{σ7 H7} I7 n7=>by
   obtain⟨m',hm,w7⟩:=hN σ7 H7 n7;refine⟨m',hm,i + 1,σ7,H7,I7.unpinned,T.keep _ _ _ Nm λb hb o e=>(I7.pin (b,o) (AK _ (AK _ (cV hb e)))).1,λb hb=>?_,w7⟩;obtain⟨o,e,d⟩:=T.obj _ _ Nm b hb;exact (I7.pin (b,o) (AK _ (AK _ (cV hb e)))).2.1
  cases f with
  | next=>obtain⟨σ7,H7,I7,n7⟩:=q7;exact again I7 n7
  | cont=>obtain⟨σ7,H7,I7,n7⟩:=q7;exact again I7 n7
  | brk=>obtain⟨σ7,H7,I7,q7⟩:=q7;exact⟨σ7,H7,I7.unpinned,q7⟩
  | ret v=>obtain⟨x7,σ7,H7,I7,r7,q7⟩:=q7;exact⟨x7,σ7,H7,I7.unpinned,r7,q7⟩
end
theorem eB {K:zz7}{a:Addr}{xs:List V}{g:TG}{tb:TS}{D:Ends}{σ:St}{H:Hp} (Pv:Nat->St->Hp->Prop) (h0:Pv 0 σ H) (hl:∀i σ H,i<=xs.length->Pv i σ H->EF K H a xs)
  (hs:∀i x σ H,xs[i]?=some x->Pv i σ H->g x σ H λσ2 H2=>tb { D with nx:=Pv (i + 1),ct:=Pv (i + 1),bk:=D.nx } σ2 H2) (hd:∀σ H,Pv xs.length σ H->D.nx σ H) :
  ∃W:Nat->Nat->St->Hp->Prop,(∃m,W 0 m σ H)/\∀i m σ H,W i m σ H ->
   ((J6 K a).stop i H/\D.nx σ H)\/((J6 K a).go i H/\∃N:St->Hp->Prop,(∀σ' H',N σ' H'->∃m',m' < m/\W (i + 1) m' σ' H')/\∀x H',(J6 K a).yld i H x H'->g x σ H' λσ2 H2=>tb { D with nx:=N,ct:=N,bk:=D.nx } σ2 H2):=by
 refine⟨λi m σ H=>m=xs.length - i/\i<=xs.length/\Pv i σ H,⟨xs.length,by simp,Be _,h0⟩,?_⟩;rintro i m σ H ⟨rfl,hi,p⟩;have q:=hl i σ H hi p
 by_cases EM:i < xs.length
 ·refine .inr ⟨⟨xs,xs[i],q,by simp [EM]⟩,Pv (i + 1),λσ' H' p'=>⟨xs.length - (i + 1),by omega,rfl,EM,p'⟩,λx H' y=>?_⟩
  obtain⟨e,y⟩:=y;subst e;exact hs i x σ _ (y xs q) p
 ·have e:i=xs.length:=by omega
  subst e;exact .inl ⟨⟨xs,q,AF _⟩,hd σ H p⟩
theorem gC {K:zz7}{a:Addr}{xs:List V}{g:TG}{tb:TS}{D:Ends}{σ:St}{H:Hp} (Pv:Nat->St->Hp->Prop) (h0:Pv 0 σ H) (hl:∀i σ H,i<=xs.length->Pv i σ H->EG K H a xs)
  (hs:∀i x σ H,xs[i]?=some x->Pv i σ H->g x σ H λσ2 H2=>tb { D with nx:=Pv (i + 1),ct:=Pv (i + 1),bk:=D.nx } σ2 H2) (hd:∀σ H,Pv xs.length σ H->D.nx σ H) :
  ∃W:Nat->Nat->St->Hp->Prop,(∃m,W 0 m σ H)/\∀i m σ H,W i m σ H ->
   ((KQ K a).stop i H/\D.nx σ H)\/((KQ K a).go i H/\∃N:St->Hp->Prop,(∀σ' H',N σ' H'->∃m',m' < m/\W (i + 1) m' σ' H')/\∀x H',(KQ K a).yld i H x H'->g x σ H' λσ2 H2=>tb { D with nx:=N,ct:=N,bk:=D.nx } σ2 H2):=by
 refine⟨λi m σ H=>m=xs.length - i/\i<=xs.length/\Pv i σ H,⟨xs.length,by simp,Be _,h0⟩,?_⟩;rintro i m σ H ⟨rfl,hi,p⟩;have q:=hl i σ H hi p
 by_cases EM:i < xs.length
 ·refine .inr ⟨⟨xs,xs[i],q,by simp [EM]⟩,Pv (i + 1),λσ' H' p'=>⟨xs.length - (i + 1),by omega,rfl,EM,p'⟩,λx H' y=>?_⟩
  obtain⟨e,y⟩:=y;subst e;exact hs i x σ _ (y xs q) p
 ·have e:i=xs.length:=by omega
  subst e;exact .inl ⟨⟨xs,q,AF _⟩,hd σ H p⟩
theorem fJ {lo:Int}{n:Nat}{g:TG}{tb:TS}{D:Ends}{σ:St}{H:Hp} (Pv:Nat->St->Hp->Prop) (h0:Pv 0 σ H)
  (hs:∀i σ H,i < n->Pv i σ H->g (.int (lo + i)) σ H λσ2 H2=>tb { D with nx:=Pv (i + 1),ct:=Pv (i + 1),bk:=D.nx } σ2 H2) (hd:∀σ H,Pv n σ H->D.nx σ H) :
  ∃W:Nat->Nat->St->Hp->Prop,(∃m,W 0 m σ H)/\∀i m σ H,W i m σ H ->
   ((KR lo n).stop i H/\D.nx σ H)\/((KR lo n).go i H/\∃N:St->Hp->Prop,(∀σ' H',N σ' H'->∃m',m' < m/\W (i + 1) m' σ' H')/\∀x H',(KR lo n).yld i H x H'->g x σ H' λσ2 H2=>tb { D with nx:=N,ct:=N,bk:=D.nx } σ2 H2):=by
 refine⟨λi m σ H=>m=n - i/\i<=n/\Pv i σ H,⟨n,by simp,Be _,h0⟩,?_⟩;rintro i m σ H ⟨rfl,hi,p⟩
 by_cases EM:i < n
 ·refine .inr ⟨EM,Pv (i + 1),λσ' H' p'=>⟨n - (i + 1),by omega,rfl,EM,p'⟩,λx H' y=>?_⟩
  obtain⟨e,y⟩:=y;subst e y;exact hs i σ _ EM p
 ·have e:i=n:=by omega
  subst e;exact .inl ⟨AF _,hd σ H p⟩
abbrev R2:=V->V->Hp->VK->Prop
def FG (X:Cx) (f:zz9->zz9->Sem zz9) (r:R2):Prop :=
 ∀(pins:List (Addr×Obj)) (s:zz8) (σ:St) (H:Hp) (x y:V) (v u:zz9) (Q:VK),Inv X pins σ H s->RelV x v->RelV y u->r x y H Q ->
  wpAny (model X.prog X.w) X.A (f v u) (EP X pins σ Q) X.xe s
def bJ (X:Cx) (f:zz9) (r:List V->Hp->VK->Prop):Prop :=
 ∀(pins:List (Addr×Obj)) (s:zz8) (σ:St) (H:Hp) (xs:List V) (us:List zz9) (Q:VK),Inv X pins σ H s->av xs us->r xs H Q ->
  wpAny (model X.prog X.w) X.A (call f us) (EP X pins σ Q) X.xe s
def PY (r:R2) (ta tb:TE):TE:=λσ H Q=>ta σ H λx H1=>tb σ H1 λy H2=>r x y H2 Q
def rI (C:Int->Int->Prop) (g:Int->Int->V):R2:=λx y H Q=>∃i j,x=.int i/\y=.int j/\C i j/\Q (g i j) H
def Mf (g:Int->Int->V):R2:=λx y H Q=>∃i j,x=.int i/\y=.int j/\Q (g i j) H
section
variable {X:Cx}{a b c:Expr}{ta tb tc:TE}{pos:Pos}
theorem kR (ha:PE X a ta) (hb:PE X b tb) {pins:List (Addr×Obj)}{s:zz8}{σ:St}{H:Hp}{R:V->V->Hp->Prop} (I:Inv X pins σ H s)
  (h:ta σ H λx H1=>tb σ H1 λy H2=>R x y H2) {Q:zz9->zz8->Prop}{f:zz9->zz9->Sem zz9}
  (hf:∀v u s2 x y H2,Inv X pins σ H2 s2->RelV x v->RelV y u->R x y H2->wpAny (model X.prog X.w) X.A (f v u) Q X.xe s2) :
  wpAny (model X.prog X.w) X.A (eval a X.env) (λv s₁=>wpAny (model X.prog X.w) X.A (eval b X.env) (λu s₂=>wpAny (model X.prog X.w) X.A (f v u) Q X.xe s₂) X.xe s₁) X.xe s:=by
 refine EI (ha pins s σ H _ I h) λv s1 ⟨x,H1,I1,r1,q1⟩=>?_;refine EI (hb pins s1 σ H1 _ I1 q1) λu s2 ⟨y,H2,I2,r2,q2⟩=>?_;exact hf v u s2 x y H2 I2 r1 r2 q2
theorem ba {op:Operator}{r:R2} (ho:FG X (binaryOp op) r) (ha:PE X a ta) (hb:PE X b tb):PE X (.BinOp a op b pos) (PY r ta tb):=by
 intro pins s σ H Q I h;exact wpAny_BinOp (kR ha hb I h λv u s2 x y H2 I2 rx ry q=>ho pins s2 σ H2 x y v u Q I2 rx ry q)
theorem Qq {f:zz9->zz9->Sem zz9}{C:Int->Int->Prop}{g:Int->Int->Int}
  (rule:∀(i j:Int) (t u:Tok) (s:zz8) (Q:zz9->zz8->Prop) (E:zz9->zz8->Prop),C i j->Q (.int (g i j) s.toks) { s with toks:=s.toks + 1 }->wpAny (model X.prog X.w) X.A (f (.int i t) (.int j u)) Q E s) :
  FG X f (rI C λi j=>.int (g i j)):=by
 intro pins s σ H x y v u Q I rx ry h;obtain⟨i,j,rfl,rfl,hc,q⟩:=h;obtain⟨t,rfl⟩:=rx;obtain⟨t',rfl⟩:=ry;exact rule i j t t' s _ _ hc ⟨.int (g i j),H,I.tok _,⟨_,rfl⟩,q⟩
theorem qj {f:zz9->zz9->Sem zz9}{g:Int->Int->Int}
  (rule:∀(i j:Int) (t u:Tok) (s:zz8) (Q:zz9->zz8->Prop) (E:zz9->zz8->Prop),Q (.int (g i j) s.toks) { s with toks:=s.toks + 1 }->wpAny (model X.prog X.w) X.A (f (.int i t) (.int j u)) Q E s) :
  FG X f (Mf λi j=>.int (g i j)):=by
 intro pins s σ H x y v u Q I rx ry h;obtain⟨i,j,rfl,rfl,q⟩:=h;obtain⟨t,rfl⟩:=rx;obtain⟨t',rfl⟩:=ry;exact rule i j t t' s _ _ ⟨.int (g i j),H,I.tok _,⟨_,rfl⟩,q⟩
theorem kW {f:zz9->zz9->Sem zz9}{g:Int->Int->Bool}
  (rule:∀(i j:Int) (t u:Tok) (s:zz8) (Q:zz9->zz8->Prop) (E:zz9->zz8->Prop),Q (.bool (g i j)) s->wpAny (model X.prog X.w) X.A (f (.int i t) (.int j u)) Q E s) :
  FG X f (Mf λi j=>.bl (g i j)):=by
 intro pins s σ H x y v u Q I rx ry h;obtain⟨i,j,rfl,rfl,q⟩:=h;obtain⟨t,rfl⟩:=rx;obtain⟨t',rfl⟩:=ry;exact rule i j t t' s _ _ ⟨.bl (g i j),H,I,rfl,q⟩
def zd (i j:Int):Prop:=0 < j/\j < 1073741824
def zE (i j:Int):Prop:=0<=j/\j<=1000000/\i.natAbs < 2 ^ 64
def kX (i j:Int):Prop:=(-(2 ^ 64) < i/\i < 2 ^ 64)\/(-(2 ^ 64) < j/\j < 2 ^ 64)
theorem kX.ok {i j:Int} (h:kX i j):IntMulOk i j:=by
 rcases h with ⟨h1,h2⟩ | ⟨h1,h2⟩
 ·exact .of_left (intBits_le_64 h1 h2)
 ·exact .of_right (intBits_le_64 h1 h2)
theorem dr:FG X (binaryOp .Add) (Mf λi j=>.int (i + j)):=qj λ_ _ _ _ _ _ _ q=>add_int q
theorem iW:FG X (binaryOp .Sub) (Mf λi j=>.int (i - j)):=qj λ_ _ _ _ _ _ _ q=>sub_int q
theorem kq:FG X (binaryOp .Mult) (rI kX λi j=>.int (i * j)):=Qq λ_ _ _ _ _ _ _ hc q=>mul_int q hc.ok
theorem oq:FG X (binaryOp .FloorDiv) (rI zd λi j=>.int (i / j)):=Qq λi j _ _ _ _ _ hc q=>by
 have h1:(0:Int) < j:=hc.1;have h2:j < 1073741824:=hc.2;exact floordiv_int (by omega) (by rw [Int.fdiv_eq_ediv_of_nonneg i (by omega)];exact q) (.inl (PyProof.noPylong_small (by omega)))
theorem fT:FG X (binaryOp .Mod) (rI (λ_ j=>0 < j) λi j=>.int (i % j)):=Qq λi j _ _ _ _ _ hc q=>by
 have h1:(0:Int) < j:=hc;exact mod_int' (by omega) (by rw [Int.fmod_eq_emod_of_nonneg i (by omega)];exact q)
theorem xE:FG X (binaryOp .Pow) (rI zE λi j=>.int (i ^ j.toNat)):=Qq λ_ _ _ _ _ _ _ hc q=>pow_int_small hc.1 hc.2.1 hc.2.2 q
end
def qx:V->V->Bool
 | .non,.non=>true | .non,.int _=>true | .int _,.non=>true | .non,.bl _=>true | .bl _,.non=>true | .non,.str _=>true | .str _,.non=>true
 | .int _,.int _=>true | .bl _,.bl _=>true | .str _,.str _=>true | .byt _,.byt _=>true
 | .int _,.str _=>true | .str _,.int _=>true | .bl _,.str _=>true | .str _,.bl _=>true
 | _,_=>false
def XW:R2:=λx y H Q=>qx x y=true/\Q (.bl (decide (x=y))) H
def XU:R2:=λx y H Q=>qx x y=true/\Q (.bl (!decide (x=y))) H
theorem om {i j:Int}:decide (V.int i=V.int j)=(i == j):=by
 rw [Cb];simp
theorem pj {i j:Bool}:decide (V.bl i=V.bl j)=(i == j):=by
 rw [Cb];simp
theorem oG {i j:Str}:decide (V.str i=V.str j)=(i == j):=by
 rw [Cb];simp
theorem oC {i j:Array UInt8}:decide (V.byt i=V.byt j)=(i.toList == j.toList):=by
 rw [Cb];cases i;cases j;simp
section
variable {X:Cx}{a b c:Expr}{ta tb tc:TE}{pos:Pos}
theorem bE {pins:List (Addr×Obj)}{σ:St}{H:Hp}{s:zz8}{Q:VK}{k k':Bool} (I:Inv X pins σ H s) (q:Q (.bl k) H) (e:k=k'):EP X pins σ Q (.bool k') s:=by
 subst e;exact⟨.bl k,H,I,rfl,q⟩
theorem dG:FG X (compareOp .Eq) XW:=by
 intro pins s σ H x y v u Q I rx ry h;obtain⟨hs,q⟩:=h;cases x with
 | non =>
  cases rx;cases y with
  | non=>cases ry;exact PySem.EqNone.eq_none_none (bE I q (by simp))
  | bl j=>cases ry;exact PySem.EqNone.eq_none_bool (bE I q (by simp))
  | int j=>obtain⟨t',rfl⟩:=ry;exact PySem.EqNone.eq_none_int (bE I q (by simp))
  | str j=>obtain⟨t',rfl⟩:=ry;exact PySem.EqNone.eq_none_str (bE I q (by simp))
  | _=>exact absurd (show false=true from hs) AX
 | bl i =>
  cases rx;cases y with
  | non=>cases ry;exact PySem.EqNone.eq_bool_none (bE I q (by simp))
  | bl j=>cases ry;exact eq_bool (bE I q pj)
  | str j=>obtain⟨t',rfl⟩:=ry;exact PySem.EqMixed.eq_bool_str (bE I q (by simp))
  | _=>exact absurd (show false=true from hs) AX
 | int i =>
  obtain⟨t,rfl⟩:=rx;cases y with
  | non=>cases ry;exact PySem.EqNone.eq_int_none (bE I q (by simp))
  | int j=>obtain⟨t',rfl⟩:=ry;exact eq_int (bE I q om)
  | str j=>obtain⟨t',rfl⟩:=ry;exact PySem.EqMixed.eq_int_str (bE I q (by simp))
  | _=>exact absurd (show false=true from hs) AX
 | str i =>
  obtain⟨t,rfl⟩:=rx;cases y with
  | non=>cases ry;exact PySem.EqNone.eq_str_none (bE I q (by simp))
  | bl j=>cases ry;exact PySem.EqMixed.eq_str_bool (bE I q (by simp))
  | int j=>obtain⟨t',rfl⟩:=ry;exact PySem.EqMixed.eq_str_int (bE I q (by simp))
  | str j=>obtain⟨t',rfl⟩:=ry;exact eq_str (bE I q oG)
  | _=>exact absurd (show false=true from hs) AX
 | byt i =>
  obtain⟨t,rfl⟩:=rx;cases y with
  | byt j=>obtain⟨t',rfl⟩:=ry;exact PySem.W.eq_bytes (bE I q oC)
  | _=>exact absurd (show false=true from hs) AX
 | _=>cases y <;> exact absurd (show false=true from hs) AX
theorem cj:FG X (compareOp .NotEq) XU:=by
 intro pins s σ H x y v u Q I rx ry h;obtain⟨hs,q⟩:=h;cases x with
 | non =>
  cases rx;cases y with
  | non=>cases ry;exact PySem.EqNone.ne_none_none (bE I q (by simp))
  | bl j=>cases ry;exact PySem.EqNone.ne_none_bool (bE I q (by simp))
  | int j=>obtain⟨t',rfl⟩:=ry;exact PySem.EqNone.ne_none_int (bE I q (by simp))
  | str j=>obtain⟨t',rfl⟩:=ry;exact PySem.EqNone.ne_none_str (bE I q (by simp))
  | _=>exact absurd (show false=true from hs) AX
 | bl i =>
  cases rx;cases y with
  | non=>cases ry;exact PySem.EqNone.ne_bool_none (bE I q (by simp))
  | bl j=>cases ry;exact ne_bool (bE I q (congrArg not pj))
  | str j=>obtain⟨t',rfl⟩:=ry;exact PySem.EqMixed.ne_bool_str (bE I q (by simp))
  | _=>exact absurd (show false=true from hs) AX
 | int i =>
  obtain⟨t,rfl⟩:=rx;cases y with
  | non=>cases ry;exact PySem.EqNone.ne_int_none (bE I q (by simp))
  | int j=>obtain⟨t',rfl⟩:=ry;exact ne_int (bE I q (congrArg not om))
  | str j=>obtain⟨t',rfl⟩:=ry;exact PySem.EqMixed.ne_int_str (bE I q (by simp))
  | _=>exact absurd (show false=true from hs) AX
 | str i =>
  obtain⟨t,rfl⟩:=rx;cases y with
  | non=>cases ry;exact PySem.EqNone.ne_str_none (bE I q (by simp))
  | bl j=>cases ry;exact PySem.EqMixed.ne_str_bool (bE I q (by simp))
  | int j=>obtain⟨t',rfl⟩:=ry;exact PySem.EqMixed.ne_str_int (bE I q (by simp))
  | str j=>obtain⟨t',rfl⟩:=ry;exact ne_str (bE I q (congrArg not oG))
  | _=>exact absurd (show false=true from hs) AX
 | byt i =>
  obtain⟨t,rfl⟩:=rx;cases y with
  | byt j=>obtain⟨t',rfl⟩:=ry;exact PySem.W.ne_bytes (bE I q (congrArg not oC))
  | _=>exact absurd (show false=true from hs) AX
 | _=>cases y <;> exact absurd (show false=true from hs) AX
theorem jc:FG X (compareOp .Lt) (Mf λi j=>.bl (decide (i < j))):=kW λ_ _ _ _ _ _ _ q=>lt_int q
theorem jb:FG X (compareOp .LtE) (Mf λi j=>.bl (decide (i<=j))):=kW λ_ _ _ _ _ _ _ q=>le_int q
theorem kr:FG X (compareOp .Gt) (Mf λi j=>.bl (decide (j < i))):=kW λ_ _ _ _ _ _ _ q=>gt_int q
theorem tK:FG X (compareOp .Lt) (λx y H Q=>∃i j,x=.str i/\y=.str j/\Q (.bl (decide (i.cps.toList < j.cps.toList))) H):=by
 intro pins s σ H x y v u Q I rx ry h;obtain⟨i,j,rfl,rfl,q⟩:=h;obtain⟨t,rfl⟩:=rx;obtain⟨t',rfl⟩:=ry;exact lt_str (bE I q rfl)
theorem aT (b:Expr) {op:CmpOp} (h:op≠.In:=by decide) (h2:op≠.NotIn:=by decide):behindInMarks op b=false:=by
 have e1:(op == CmpOp.In)=false:=by cases op <;> first | rfl | exact absurd rfl h
 have e2:(op == CmpOp.NotIn)=false:=by cases op <;> first | rfl | exact absurd rfl h2
 cases b <;> simp [behindInMarks,e1,e2]
theorem cS {op:CmpOp}{r:R2} (ho:FG X (compareOp op) r) (ha:PE X a ta) (hb:PE X b tb) (hm:behindInMarks op b=false):PE X (.Compare a [op] [b] pos) (PY r ta tb):=by
 intro pins s σ H Q I h;exact wpAny_Compare1 (kR ha hb I h λv u s2 x y H2 I2 rx ry q=>ho pins s2 σ H2 x y v u Q I2 rx ry q) hm
def pW (t:TE):TT:=λσ H Q=>t σ H λx H'=>∃k,x=.bl k/\Q k H'
theorem aB {op:CmpOp}{r:R2} (ho:FG X (compareOp op) r) (ha:PE X a ta) (hb:PE X b tb) (hm:behindInMarks op b=false):PT X (.Compare a [op] [b] pos) (pW (PY r ta tb)):=by
 intro pins s σ H Q I h
 refine wpAny_isTrue_Compare1 (EI (ha pins s σ H _ I h) λv s1 ⟨x,H1,I1,r1,q1⟩=>EI (hb pins s1 σ H1 _ I1 q1) λu s2 ⟨y,H2,I2,r2,q2⟩ =>
  EI (ho pins s2 σ H2 x y v u _ I2 r1 r2 q2) λc s3 ⟨z,H3,I3,r3,k,e,q3⟩=>?_) hm
 subst e;cases r3;exact BX ⟨H3,I3,q3⟩
def pM (r r':R2) (ta tb tc:TE):TE:=λσ H Q=>ta σ H λx H1=>tb σ H1 λy H2=>r x y H2 λz H3=>∃k,z=.bl k /\
 (if k=true then tc σ H3 λw' H4=>r' y w' H4 Q else Q (.bl false) H3)
theorem uY {op Mi:CmpOp}{r r':R2} (ho:FG X (compareOp op) r) (Hi:FG X (compareOp Mi) r') (ha:PE X a ta) (hb:PE X b tb) (hc:PE X c tc)
  (hm:lastMarks [op,Mi] [b,c]=false:=by with_unfolding_all rfl):PE X (.Compare a [op,Mi] [b,c] pos) (pM r r' ta tb tc):=by
 intro pins s σ H Q I h
 refine Compare_chain (EI (ha pins s σ H _ I h) λv s1 ⟨x,H1,I1,r1,q1⟩=>chain_link (EI (hb pins s1 σ H1 _ I1 q1) λu s2 ⟨y,H2,I2,r2,q2⟩ =>
  EI (ho pins s2 σ H2 x y v u _ I2 r1 r2 q2) λd s3 ⟨z,H3,I3,r3,k,e,q3⟩=>?_)) hm
 subst e;cases r3;refine BX ?_;cases k with
 | false=>exact ite_ff ⟨.bl false,H3,I3,rfl,q3⟩
 | true=>exact ite_tt (chain_last (EI (hc pins s3 σ H3 _ I3 q3) λw' s4 ⟨z',H4,I4,r4,q4⟩=>Hi pins s4 σ H4 y z' u w' Q I4 r2 r4 q4))
theorem mQ {op Mi:CmpOp}{r r':R2} (ho:FG X (compareOp op) r) (Hi:FG X (compareOp Mi) r') (ha:PE X a ta) (hb:PE X b tb) (hc:PE X c tc)
  (hm:lastMarks [op,Mi] [b,c]=false:=by with_unfolding_all rfl):PT X (.Compare a [op,Mi] [b,c] pos) (pW (pM r r' ta tb tc)):=by
 intro pins s σ H Q I h
 refine isTrue_chain (EI (ha pins s σ H _ I h) λv s1 ⟨x,H1,I1,r1,q1⟩=>test_link (EI (hb pins s1 σ H1 _ I1 q1) λu s2 ⟨y,H2,I2,r2,q2⟩ =>
  EI (ho pins s2 σ H2 x y v u _ I2 r1 r2 q2) λd s3 ⟨z,H3,I3,r3,k,e,q3⟩=>?_)) hm
 subst e;cases r3;refine BX ?_;cases k with
 | false =>
  obtain⟨k',e',q'⟩:=q3;cases e';exact ite_ff ⟨H3,I3,q'⟩
 | true =>
  refine ite_tt (test_last (EI (hc pins s3 σ H3 _ I3 q3) λw' s4 ⟨z',H4,I4,r4,q4⟩=>EI (Hi pins s4 σ H4 y z' u w' _ I4 r2 r4 q4) λd' s5 ⟨z2,H5,I5,r5,k2,e2,q5⟩=>?_));subst e2;cases r5;exact BX ⟨H5,I5,q5⟩
theorem fS:(sizeLine:Nat) < 2 ^ 63:=by rw [Br];decide
theorem tF:FG X (binaryOp .Add) (λx y H Q=>∃i j,x=.str i/\y=.str j/\i.length + j.length<=sizeLine/\Q (.str (i++j)) H):=by
 intro pins s σ H x y v u Q I rx ry h;obtain⟨i,j,rfl,rfl,hz,q⟩:=h;obtain⟨t,rfl⟩:=rx;obtain⟨t',rfl⟩:=ry;exact add_str (λt' tk=>⟨.str (i++j),H,I.tok _,⟨_,rfl⟩,q⟩) hz
theorem vals1 {x:V}{us:List zz9} (r:av [x] us):∃u,us=[u]/\RelV x u:=by
 cases r with
 | cons r1 r2=>cases r2;exact⟨_,rfl,r1⟩
theorem vals2 {x y:V}{us:List zz9} (r:av [x,y] us):∃u w',us=[u,w']/\RelV x u/\RelV y w':=by
 cases r with
 | cons r1 r2 =>
  cases r2 with
  | cons r3 r4=>cases r4;exact⟨_,_,rfl,r1,r3⟩
theorem lP (hc:X.calm=true):bJ X (.builtin "max") (λxs H Q=>∃i j,xs=[.int i,.int j]/\Q (.int (if j > i then j else i)) H):=by
 intro pins s σ H xs us Q I r h;obtain⟨i,j,rfl,q⟩:=h;obtain⟨u,w',rfl,⟨t,rfl⟩,⟨t',rfl⟩⟩:=vals2 r;refine max_two_ints (I.ok.hd hc) λh' tk k=>⟨_,H,I.kept k,?_,q⟩
 by_cases hj:j > i
 ·rw [if_pos hj,if_pos hj];exact⟨_,rfl⟩
 ·rw [if_neg hj,if_neg hj];exact⟨_,rfl⟩
theorem jy (hc:X.calm=true):bJ X (.builtin "min") (λxs H Q=>∃i j,xs=[.int i,.int j]/\Q (.int (if j < i then j else i)) H):=by
 intro pins s σ H xs us Q I r h;obtain⟨i,j,rfl,q⟩:=h;obtain⟨u,w',rfl,⟨t,rfl⟩,⟨t',rfl⟩⟩:=vals2 r;refine min_two_ints (I.ok.hd hc) λh' tk k=>⟨_,H,I.kept k,?_,q⟩
 by_cases hj:j < i
 ·rw [if_pos hj,if_pos hj];exact⟨_,rfl⟩
 ·rw [if_neg hj,if_neg hj];exact⟨_,rfl⟩
theorem jD:bJ X (.type "int") (λxs H Q=>(∃i,xs=[.int i]/\Q (.int i) H)\/∃k,xs=[.bl k]/\Q (.int (if k then 1 else 0)) H):=by
 intro pins s σ H xs us Q I r h
 rcases h with ⟨i,rfl,q⟩ | ⟨k,rfl,q⟩
 ·obtain⟨u,rfl,t,rfl⟩:=vals1 r
  exact call_int_int ⟨.int i,H,I,⟨_,rfl⟩,q⟩
 ·obtain⟨u,rfl,r1⟩:=vals1 r
  cases r1;exact call_int_bool ⟨.int (if k then 1 else 0),H,I.tok _,⟨_,rfl⟩,q⟩
end
structure kH (h:Heap) (x dx C:Addr) (mA:Str->Option zz9):Prop where
 obj:h.get? x=some (PySem.W.instObj C dx)
 ns:h.Ns1 dx mA
 ne:dx≠x
theorem uz {h:Heap}{dx:Addr}{mA:Str->Option zz9} (n:h.Ns1 dx mA):∃od,h.get? dx=some od/\∀name,PySem.W.lookIn name od=some (mA name):=by
 obtain⟨o,es,ep,ho,hd,hk,_,hm⟩:=n;refine⟨o,ho,λname=>?_⟩;have e:=hm name;unfold nsFind findBy at e;rw [<- Array.find?_toList] at e;unfold PySem.W.lookIn;rw [hd]
 dsimp only
 split
 ·rename_i y q
  rw [q] at e;exact congrArg some e
 ·rename_i q
  rw [q] at e;have a:es.toList.any (·.refKey)=false:=by
   rw [List.any_eq_false];intro y hy;obtain⟨z,t,MW⟩:=hk y (Array.mem_toList_iff.mp hy);simp [DictEntry.refKey,MW]
  have a':¬ es.toList.any (·.refKey)=true:=by rw [a];exact AX
  rw [if_neg a'];exact congrArg some e
theorem kH.look {h:Heap}{x dx C:Addr}{mA:Str->Option zz9} (I:kH h x dx C mA):∃od,PySem.W.InstAt h x (PySem.W.instObj C dx) C (some od)/\∀name,PySem.W.lookIn name od=some (mA name) :=
 let ⟨od,ho,hl⟩:=uz I.ns
 ⟨od,⟨I.obj,rfl,rfl,ho⟩,hl⟩
section
variable {prog:Program}{w:World}{A:Around}{E:zz9->zz8->Prop}{s:zz8}{K:zz7}{x dx C f:Addr}{mA:Str->Option zz9}{name:Str}{v:zz9}
end
theorem dI.some_of {v:V}{o:Option zz9} (r:dI (some v) o):∃u,o=some u/\RelV v u:=by
 cases o with
 | none=>exact (show False from r).elim
 | some u=>exact⟨u,rfl,r⟩
section
variable {P:Program}{w:World}{H H':Hp}{h h':Heap}{a C dx:Addr}{fs fs':List (Str×V)}
theorem xj (hok:FB P w H h) (e:H a=some (.ins C dx fs)):∃mA,kH h a dx C mA/\(∀f,dI (fs.lookup f) (mA f))/\PySem.Within mA (fs.map (·.1))/\fs.length<=1000/\H dx=some (.own a):=by
 obtain⟨d,z,ne,ob,mA,n,r,q⟩:=(show aY P w H h a (.ins C dx fs) from hok a _ e)
 exact⟨mA,⟨ob,n,ne⟩,r,q,z,d⟩
end
structure UI (K:zz7) (C:Addr):Prop where
 pg:PySem.W.plainGet K C Str.empty=true
 hd:PySem.W.hasDictIn K C=true
 po:PySem.W.plainOver K C=true
 sa:PySem.W.findIn K (.ref C) "__setattr__"=some (some (.builtin "object.__setattr__"))
theorem UI.get {K:zz7}{C:Addr} (c:UI K C) (f:Str):PySem.W.plainGet K C f=true:=c.pg
structure Con (K:zz7) (C:Addr) (f:Str) (v:V) (u:zz9):Prop where
 at_:PySem.W.findIn K (.ref C) f=some (some u)
 rel:RelV v u
 get:PySem.W.specialIn K u "__get__"=some none
 cp:PySem.W.copiedNames.contains f=false
structure Au (K:zz7) (C:Addr) (m:Str) (f:Addr):Prop where
 at_:PySem.W.findIn K (.ref C) m=some (some (.ref f))
 fn:PySem.W.isFn K (.ref f)=true
 kp:PySem.W.keepIn K (.ref f)=true
section
variable {X:Cx}{pins:List (Addr×Obj)}{σ:St}{H:Hp}{s:zz8}{a C dx:Addr}{fs:List (Str×V)}{f:Str}{v:V}{A:Around}{E:zz9->zz8->Prop}
end
def kU (X:Cx) (op:Operator) (rd:V->V->Hp->VK->Prop):Prop :=
 ∀(pins:List (Addr×Obj)) (s:zz8) (σ:St) (H:Hp) (x y:V) (u v:zz9) (Q:VK),Inv X pins σ H s->RelV x u->RelV y v->rd x y H Q->wpAny (model X.prog X.w) X.A (inplaceOp op u v) (EP X pins σ Q) X.xe s
section
variable {X:Cx}{o e value:Expr}{f:Str}{pos Ho Iu:Pos}{ta tv:TE}
def zj:V->V->Hp->VK->Prop:=λx y H Q=>∃i j,x=.int i/\y=.int j/\Q (.int (i + j)) H
def ze:V->V->Hp->VK->Prop:=λx y H Q=>∃i j,x=.int i/\y=.int j/\Q (.int (i - j)) H
theorem ym:kU X .Add zj:=by
 rintro pins s σ H x y u v Q I rx ry ⟨i,j,rfl,rfl,q⟩;obtain⟨t,rfl⟩:=(show ∃t,u=Value.int i t from rx)
 obtain⟨t',rfl⟩:=(show ∃t',v=Value.int j t' from ry)
 exact PyProof.Rows.iadd_int ⟨.int (i + j),H,I.tok _,⟨_,rfl⟩,q⟩
theorem xI:kU X .Sub ze:=by
 rintro pins s σ H x y u v Q I rx ry ⟨i,j,rfl,rfl,q⟩;obtain⟨t,rfl⟩:=(show ∃t,u=Value.int i t from rx)
 obtain⟨t',rfl⟩:=(show ∃t',v=Value.int j t' from ry)
 exact PyProof.Rows.isub_int ⟨.int (i - j),H,I.tok _,⟨_,rfl⟩,q⟩
end
section
variable {X:Cx}{pins:List (Addr×Obj)}{σ:St}{H:Hp}{s:zz8}{A:Around}{E:zz9->zz8->Prop}{Q:zz9->zz8->Prop}{c:zz9}{b:Bool}
inductive dg (K:zz7) (H:Hp):V->zz9->Prop where
 | non:dg K H .non (.type "NoneType")
 | bl (x:Bool):dg K H (.bl x) (.type "bool")
 | int (i:Int):dg K H (.int i) (.type "int")
 | str (x:Str):dg K H (.str x) (.type "str")
 | flt (x:UInt64):dg K H (.flt x) (.type "float")
 | lst {a:Addr}{xs:List V} (e:H a=some (.lst xs)):dg K H (.ref a) (.type "list")
 | frz {a:Addr}{o:Obj}{xs:List V} (e:H a=some (.frz o (.lst xs))):dg K H (.ref a) (.type "list")
 | tup {a:Addr}{xs:List V} (e:H a=some (.tup xs)):dg K H (.ref a) (.type "tuple")
 | dK {a:Addr}{kvs:List (Key×V)} (e:H a=some (.dK kvs)):dg K H (.ref a) (.type "dict")
 | dT {a:Addr}{kvs:List (List Key×V)} (e:H a=some (.dT kvs)):dg K H (.ref a) (.type "dict")
 | ins {a C dx:Addr}{fs:List (Str×V)} (e:H a=some (.ins C dx fs)) (cl:UI K C) (ha:PySem.W.findIn K (.ref C) "__class__"=some (some (.builtin "object.__class__")))
   (hn:PySem.W.specialIn K (.builtin "object.__class__") "__get__"=some (some (.builtin "getset_descriptor.__get__"))) (GI:PySem.W.takesIn K (.builtin "object.__class__")=some true)
   (hm:PySem.W.mroIn K C (.type "object")=some true):dg K H (.ref a) (.ref C)
theorem uK {x:V}{u t:zz9} (I:Inv X pins σ H s) (rx:RelV x u) (ty:dg X.K H x t) (e:PySem.W.kitOne X.K t c=some b) (h:∀tk,Q (.bool b) { s with toks:=tk }) :
  wpAny (model X.prog X.w) A (call (.builtin "isinstance") [u,c]) Q E s:=by
 cases ty with
 | non=>cases (show u=Value.none from rx);exact B3 PySem.W.kitx_none I.kIn True.intro e (λz=>nomatch z) h
 | bl y=>cases (show u=Value.bool y from rx);exact B3 PySem.W.kitx_bool I.kIn True.intro e (λz=>nomatch z) h
 | int i=>obtain⟨t,q⟩:=(show ∃t,u=Value.int i t from rx);cases q;exact B3 PySem.W.kitx_int I.kIn True.intro e (λz=>nomatch z) h
 | str y=>obtain⟨t,q⟩:=(show ∃t,u=Value.str y t from rx);cases q;exact B3 PySem.W.kitx_str I.kIn True.intro e (λz=>nomatch z) h
 | flt y=>obtain⟨t,q⟩:=(show ∃t,u=Value.float y t from rx);cases q;exact B3 PySem.W.kitx_float I.kIn True.intro e (λz=>nomatch z) h
 | @lst a xs ea =>
  cases (show u=Value.ref a from rx);obtain⟨_,_,n,_,h1⟩:=(show aY X.prog X.w H s.heap a (.lst xs) from I.hok a _ ea)
  exact B3 PySem.W.kitx_list I.kIn ⟨_,h1,rfl⟩ e (λz=>nomatch z) h
 | @frz a ob xs ea =>
  cases (show u=Value.ref a from rx);obtain⟨_,_,_,n,_,h1⟩:=(show aY X.prog X.w H s.heap a (.frz ob (.lst xs)) from I.hok a _ ea)
  exact B3 PySem.W.kitx_list I.kIn ⟨_,h1,rfl⟩ e (λz=>nomatch z) h
 | @tup a xs ea =>
  cases (show u=Value.ref a from rx);obtain⟨_,_,_,p⟩:=(show aY X.prog X.w H s.heap a (.tup xs) from I.hok a _ ea)
  obtain⟨o,h1,h2,_⟩:=p;exact B3 PySem.W.kitx_tuple I.kIn ⟨o,h1,h2⟩ e (λz=>nomatch z) h
 | @dK a kvs ea =>
  cases (show u=Value.ref a from rx);obtain⟨_,_,vs,_,p⟩:=(show aY X.prog X.w H s.heap a (.dK kvs) from I.hok a _ ea)
  obtain⟨o,es,ep,h1,h2,_⟩:=p;exact B3 PySem.W.kitx_dict I.kIn ⟨o,h1,h2.1⟩ e (λz=>nomatch z) h
 | @dT a kvs ea =>
  cases (show u=Value.ref a from rx);obtain⟨_,_,xs,_,o,es,ep,h1,h2,_⟩:=(show aY X.prog X.w H s.heap a (.dT kvs) from I.hok a _ ea)
  exact B3 PySem.W.kitx_dict I.kIn ⟨o,h1,h2.1⟩ e (λz=>nomatch z) h
 | @ins a C dx fs ea cl ha hn GI hm =>
  cases (show u=Value.ref a from rx);obtain⟨mA,O,_⟩:=xj I.hok ea;obtain⟨od,J,_⟩:=O.look;exact B3 (PySem.W.kitx_own (cl.get _) cl.hd ha hn GI hm) I.kIn J e (λz=>nomatch z) h
end
structure aQ (k:Nat) (A:Around):Prop where
 hd:A.handled=none
 dp:A.depth + 3 * k + 5 < recursionLimit
 un:A.units + 16 * k + 200 < cLine
 gd:A.guards=some []
theorem aQ.mono {j k:Nat}{A:Around} (r:aQ k A) (h:j<=k):aQ j A:=⟨r.hd,by have:=r.dp;omega,by have:=r.un;omega,r.gd⟩
theorem aQ.deeper {k:Nat}{A:Around} (r:aQ (k + 1) A) (env:Env):aQ k (A.deeper env) :=
 ⟨r.hd,by have:=r.dp;show A.depth + 1 + 3 * k + 5 < _;omega,by have:=r.un;show A.units + 3 + 16 * k + 200 < _;omega,r.gd⟩
theorem aQ.depth {k:Nat}{A:Around} (r:aQ k A):A.depth < recursionLimit:=by have:=r.dp;omega
theorem aQ.units {k:Nat}{A:Around} (r:aQ k A):A.units + 64 < cLine:=by have:=r.un;omega
def zt:TA:=λ_ H Q=>Q [] H
def qa (ta:TE) (tr:TA):TA:=λσ H Q=>ta σ H λx H1=>tr σ H1 λxs H2=>Q (x::xs) H2
section
variable {X:Cx}{e:Expr}{es:List Expr}{te:TE}{t:TA}{pos:Pos}
theorem ae:PA X [] zt:=λ_ _ _ _ H Q I h=>Calls.spliced_nil ⟨[],H,I,.nil,h⟩
theorem aa (ha:PE X e te) (hr:PA X es t) (hs:starEach (e::es) X.env=(false,eval e X.env)::starEach es X.env:=by rfl):PA X (e::es) (qa te t):=by
 intro pos pins s σ H Q I h;rw [hs];show wpAny _ _ (spliced ((false,eval e X.env)::backTo pos (starEach es X.env))) _ _ s;refine Calls.spliced_cons (EI (ha pins s σ H _ I h) λu s1 ⟨x,H1,I1,r1,q1⟩=>?_);exact EI (hr pos pins s1 σ H1 _ I1 q1) λus s2 ⟨xs,H2,I2,r2,q2⟩=>⟨x::xs,H2,I2,.cons r1 r2,q2⟩
def zu (t:TA):TE:=λσ H Q=>t σ H λxs H1=>xs.length<=sizeLine/\∀p,H1 p=none->Q (.ref p) (upd H1 p (.tup xs))
def zy (t:TA):TE:=λσ H Q=>t σ H λxs H1=>xs.length<=sizeLine/\∀p,H1 p=none->Q (.ref p) (upd H1 p (.lst xs))
theorem cf {x1} (h:PA X es t):PE X (.Tuple es x1 pos) (zu t):=by
 intro pins s σ H Q I hq;refine wpAny_Tuple_spliced (EI (h pos pins s σ H _ I hq) λus s1 ⟨xs,H1,I1,r,z,q⟩=>⟨by rw [<- r.length];exact z,?_⟩);have hf:H1 s1.heap.objs.size=none:=I1.hok.fresh (AF _);refine⟨.ref s1.heap.objs.size,upd H1 s1.heap.objs.size (.tup xs),I1.laid (t':=s1.toks) (λb u e=>AA _ e) (AF _) ?_,rfl,q _ hf⟩;exact⟨z,us,r,⟨_,AS _ rfl,rfl,_,rfl⟩⟩
theorem bw (h:PA X es t):PE X (.List es pos) (zy t):=by
 intro pins s σ H Q I hq;refine wpAny_List_spliced (EI (h pos pins s σ H _ I hq) λus s1 ⟨xs,H1,I1,r,z,q⟩=>⟨by rw [<- r.length];exact z,?_⟩);have hf:H1 s1.heap.objs.size=none:=I1.hok.fresh (AF _);refine⟨.ref s1.heap.objs.size,upd H1 s1.heap.objs.size (.lst xs),I1.laid (t':=s1.toks) (λb u e=>AA _ e) (AF _) ?_,rfl,q _ hf⟩;exact⟨z,us,0,r,AS _ rfl⟩
end
abbrev Sp:=List V->Hp->VK->XK->Prop
abbrev IW:=List Env->Hp->zz8->XK->zz9->zz8->Prop
structure jj (P:Program) (w:World) (K:zz7) (mg:Str->Option zz9) (base:Heap) (A:Around) (outer:List Env) (s:zz8) (H:Hp):Prop where
 frames:A.frames=some outer
 mod:Mod K mg base
 bs:∀b o,base.get? b=some o->s.heap.get? b=some o/\H b=none
 bsz:base.objs.size<=s.heap.objs.size
 funs:s.heap.FunFrames base outer
 frf:∀b∈HI outer,H b=none
 hok:FB P w H s.heap
 bare:AllBare s.gens
def CE (outer:List Env) (P:Program) (w:World) (H:Hp) (s:zz8) (Q:VK) (u:zz9) (s':zz8):Prop :=
 ∃v H',s'.os=s.os/\AllBare s'.gens/\Un (HI outer) [] H H' s.heap s'.heap/\FB P w H' s'.heap/\RelV v u/\Q v H'
def CR (CX:IW) (outer:List Env) (P:Program) (w:World) (H:Hp) (s:zz8) (Q:VK) (E:XK) (r:Result) (s':zz8):Prop :=
 match r with
 | .ok (.ret u)=>CE outer P w H s Q u s'
 | .ok _=>False
 | .error e=>CX outer H s E e s'
structure aD (P:Program) (w:World) (K:zz7) (mg:Str->Option zz9) (base:Heap) (CX:IW) (k:Nat) (f:Addr) (fd:FuncData) (ps:List Str) (sp:Sp):Prop where
 len:∀vs H Q E,sp vs H Q E->vs.length=ps.length
 run:∀(A:Around) (outer:List Env) (s:zz8) (H:Hp) (args:Args) (us:List zz9) (vs:List V) (Q:VK) (E:XK),aQ k A->jj P w K mg base A outer s H->BindsTo s fd args (ps.zip us)->av vs us->sp vs H Q E ->
  codeAny (model P w) A (.call (.ref f) args) (CR CX outer P w H s Q E) s
section
variable {X:Cx}{pins:List (Addr×Obj)}{σ:St}{H:Hp}{s s':zz8}
theorem Inv.env0 (I:Inv X pins σ H s):jj X.prog X.w X.K X.mg X.base X.A X.stack s H :=
 ⟨I.ok.frames,I.ok.mod,I.bs,AV I.ok.bsz I.sz,I.stack,I.stkFree,I.hok,I.bare⟩
theorem Inv.after {Q:VK}{u:zz9} (I:Inv X pins σ H s) (h:CE X.stack X.prog X.w H s Q u s'):EP X pins σ Q u s':=by
 obtain⟨v,H',os,bare,un,hok,r,q⟩:=h;obtain⟨hh,g,d,t,Ya⟩:=s';obtain rfl:Ya=s.os:=os;exact⟨v,H',I.call (h':=hh) (g':=g) (d':=d) (t':=t) (ch:=[]) un hok bare (λb z=>absurd z (by simp)),r,q⟩
end
def pX (sp:Sp) (LM:List V) (E:XK) (t:TA):TE:=λσ H Q=>t σ H λvs H1=>sp (vs++LM) H1 Q E
def Binds (K:zz7) (fd:FuncData) (ps:List Str) (ds:List zz9):Prop :=
 ∀(s:zz8) (us:List zz9),K.In s.heap->(us++ds).length=ps.length->BindsTo s fd ⟨us,[]⟩ (ps.zip (us++ds))
theorem Binds.all {K:zz7}{fd:FuncData}{ps:List Str} (h:∀us:List zz9,us.length=ps.length->bindArgs fd ⟨us,[]⟩=pure (ps.zip us)):Binds K fd ps []:=λs us _ hl=>by
 rw [De] at hl ⊢;exact .of_eq (h us hl)
def ki (CX:IW) (X:Cx) (E:XK):Prop:=∀(pins:List (Addr×Obj)) (σ:St) (H:Hp) (s:zz8) (e:zz9) (s':zz8),Inv X pins σ H s->CX X.stack H s E e s'->X.xe e s'
section
variable {X:Cx}{CX:IW}{k:Nat}{f C:Addr}{fd:FuncData}{ps:List Str}{sp:Sp}{LM:List V}{ds:List zz9}{E:XK}{x m:Str}{p pos apos:Pos}{e o:Expr}{es:List Expr}{ta:TE}{t:TA}
theorem xU {pins:List (Addr×Obj)}{σ:St}{H:Hp}{s:zz8}{Q:VK}{us:List zz9}{vs:List V} (F:aD X.prog X.w X.K X.mg X.base CX k f fd ps sp) (hr:aQ k X.A) (hb:Binds X.K fd ps ds) (hd:av LM ds) (hx:ki CX X E)
  (I:Inv X pins σ H s) (r:av vs us) (h:sp (vs++LM) H Q E):wpAny (model X.prog X.w) X.A (call (.ref f) us) (EP X pins σ Q) X.xe s:=by
 have r2:av (vs++LM) (us++ds):=r.append hd;have hl:(us++ds).length=ps.length:=by rw [<- r2.length];exact F.len _ _ _ _ h
 refine wpAny_call (CJ (F.run X.A X.stack s H ⟨us,[]⟩ (us++ds) (vs++LM) Q E hr I.env0 (hb s us I.kIn hl) r2 h) λr s' hq=>?_);cases r with
 | error e=>exact hx pins σ H s e s' I hq
 | ok fl =>
  cases fl with
  | ret u=>exact I.after hq
  | next=>exact False.elim hq
  | brk=>exact False.elim hq
  | cont=>exact False.elim hq
theorem wN (F:aD X.prog X.w X.K X.mg X.base CX k f fd ps sp) (hr:aQ k X.A) (hg:Gl X x) (hm:X.mg x=some (.ref f)) (hk:PySem.W.keepIn X.K (.ref f)=true) (hb:Binds X.K fd ps ds) (hd:av LM ds) (hx:ki CX X E)
  (ha:PA X (e::es) t) (M3:(x == ("__debug__":Str))=false:=by decide) (he:starEach (e::es) X.env=(false,eval e X.env)::starEach es X.env:=by rfl) (Gu:(backTo pos (starEach es X.env)).any (·.1)=false:=by rfl) :
  PE X (.Call (.Name x p) (e::es) [] pos) (pX sp LM E t):=by
 intro pins s σ H Q I h;refine Ea (nI I hg hm ?_ M3);refine PySem.W.callWith_K (h₀:=X.base) I.ok.mod.kin hk (EI (ha pos pins s σ H _ I h) λus s1 ⟨vs,H1,I1,r,q⟩=>⟨I1.kIn,?_⟩) he Gu;exact xU F hr hb hd hx I1 r q
structure Mk (K:zz7) (C f:Addr):Prop where
 makes:PySem.W.makesIn K C=true
 init:PySem.W.findIn K (.ref C) "__init__"=some (some (.ref f))
 fn:PySem.W.isFn K (.ref f)=true
 kp:PySem.W.keepIn K (.ref C)=true
end
section
variable {X:Cx}{CX:IW}{k:Nat}{f C:Addr}{fd:FuncData}{ps ks:List Str}{sp:Sp}{E:XK}{x m:Str}{p pos apos Y8:Pos}{e o:Expr}{es:List Expr}{kws:List Keyword}{te ta:TE}{t tk:TA}{nm:Option Str}
structure Al (K:zz7) (fd:FuncData) (ps ks:List Str) (g:List zz9->List zz9->List zz9) (gV:List V->List V->List V):Prop where
 to:∀(s:zz8) (us ws:List zz9),K.In s.heap->(g us ws).length=ps.length->BindsTo s fd ⟨us,ks.zip ws⟩ (ps.zip (g us ws))
 rel:∀{vs:List V}{us:List zz9}{zs:List V}{ws:List zz9},av vs us->av zs ws->av (gV vs zs) (g us ws)
variable {g:List zz9->List zz9->List zz9}{gV:List V->List V->List V}
end
structure aH (N P:List Str) (sc:Scope):Prop where
 kind:sc.kind=.function
 co:sc.isCoroutine=false
 gen:sc.isGenerator=false
 nd:N.Nodup
 pre:N.take P.length=P
 par:∀x∈P,sc.names.lookup x=some .local\/sc.names.lookup x=some .cell
 nofree:∀y∈sc.names,y.2≠.free
theorem lX {kindOf:Str->Option NameKind}{x:Str}:∀{binds:List (Str×zz9)}{m:Str->Option zz9},(∀v,(x,v)∉binds)->bindL kindOf binds m x=m x
 | [],_,_=>rfl
 | (n,v)::r,m,h=>by
  unfold bindL;rw [lX λw hw=>h w (AN _ hw)];split
  ·have:x≠n:=by rintro rfl;exact h v AJ
   simp [this]
  ·rfl
theorem lD {kindOf:Str->Option NameKind}{x:Str}:∀{binds:List (Str×zz9)}{m:Str->Option zz9},(∀v,(x,v)∉binds)->bindC kindOf binds m x=m x
 | [],_,_=>rfl
 | (n,v)::r,m,h=>by
  unfold bindC;rw [lD λw hw=>h w (AN _ hw)];split
  ·rfl
  ·have:x≠n:=by rintro rfl;exact h v AJ
   simp [this]
theorem mq {kindOf:Str->Option NameKind}{x:Str}{v:zz9}:∀{P:List Str}{vs:List zz9}{i:Nat}{m:Str->Option zz9},P.Nodup->P[i]?=some x->vs[i]?=some v->kindOf x=some .local ->
  bindL kindOf (P.zip vs) m x=some v
 | [],_,_,_,_,h,_,_=>by simp at h
 | _::_,[],_,_,_,_,h,_=>by simp at h
 | p::P,w::vs,0,m,nd,h1,h2,hk=>by
  simp at h1 h2;subst h1;subst h2;show bindL kindOf ((p,w)::P.zip vs) m p=_;unfold bindL;rw [lX λv hv=>(Bc.mp nd).1 (EC hv).1,if_pos hk];simp
 | p::P,w::vs,i + 1,m,nd,h1,h2,hk=>by
  show bindL kindOf ((p,w)::P.zip vs) m x=_;unfold bindL;exact mq (i:=i) (Bc.mp nd).2 (by simpa using h1) (by simpa using h2) hk
theorem md {kindOf:Str->Option NameKind}{x:Str}{v:zz9}:∀{P:List Str}{vs:List zz9}{i:Nat}{m:Str->Option zz9},P.Nodup->P[i]?=some x->vs[i]?=some v->kindOf x≠some .local ->
  bindC kindOf (P.zip vs) m x=some v
 | [],_,_,_,_,h,_,_=>by simp at h
 | _::_,[],_,_,_,_,h,_=>by simp at h
 | p::P,w::vs,0,m,nd,h1,h2,hk=>by
  simp at h1 h2;subst h1;subst h2;show bindC kindOf ((p,w)::P.zip vs) m p=_;unfold bindC;rw [lD λv hv=>(Bc.mp nd).1 (EC hv).1,if_neg hk];simp
 | p::P,w::vs,i + 1,m,nd,h1,h2,hk=>by
  show bindC kindOf ((p,w)::P.zip vs) m x=_;unfold bindC;exact md (i:=i) (Bc.mp nd).2 (by simpa using h1) (by simpa using h2) hk
def start (N:List Str) (vs:List V):St:=vs.map some++List.replicate (N.length - vs.length) none
def gj (CX:IW) (P:Program) (w:World) (K:zz7) (mg:Str->Option zz9) (base:Heap) (N:List Str) (qual:Str) (scope:Scope) (f:Addr) (cd:zz9) (A:Around) (outer:List Env) (s:zz8) (H:Hp) (E:XK):Cx where
 prog:=P
 w:=w
 K:=K
 mg:=mg
 base:=base
 A:=A.deeper (envOfC qual scope s.heap.objs.size f cd)
 N:=N
 s₀:=s
 H₀:=H
 env:=envOfC qual scope s.heap.objs.size f cd
 outer:=outer
 stack:=envOfC qual scope s.heap.objs.size f cd::outer
 ex:=[]
 calm:=true
 fn:=λ_=>true
 pn:=[]
 xe:=λe s'=>wpAny (model P w) (A.deeper (envOfC qual scope s.heap.objs.size f cd)) (leaving (envOfC qual scope s.heap.objs.size f cd) e) (λ_ Me=>CX outer H s E e Me) (λe' Me=>CX outer H s E e' Me) s'
theorem nE {sc:Scope}{n:Nat}{x:Str} (h:sc.names.lookup x=some .cell):∃c,(cellsFrom n sc.names []).lookup x=some c:=by
 have q:=PySem.W.cellsFrom_some sc.names n [] (.inl h);exact Ew.mp q
theorem uk {CX:IW}{P:Program}{w:World}{K:zz7}{mg:Str->Option zz9}{base:Heap}{N ps:List Str}{qual:Str}{scope:Scope}{f:Addr}{cd:zz9}{A:Around}{outer:List Env}{s s1:zz8}{H:Hp}{E:XK}{us:List zz9}{vs:List V}
  (S:aH N ps scope) (hd:A.handled=none) (e0:jj P w K mg base A outer s H) (hl:vs.length=ps.length) (r:av vs us)
  (x:InCallC s s.heap.objs.size (bindL (envOfC qual scope s.heap.objs.size f cd).kindOf (ps.zip us) λ_=>none) (cellsFrom (s.heap.objs.size + 1) scope.names []) (bindC (envOfC qual scope s.heap.objs.size f cd).kindOf (ps.zip us) λ_=>none) s1) :
  Inv (gj CX P w K mg base N qual scope f cd A outer s H E) [] (start N vs) H s1:=by
 have Gu:ps.length<=N.length:=by have:=congrArg List.length S.pre;rw [AW] at this;omega
 obtain⟨h1,tk,rfl,hk⟩:=x.done;have Os:∀b:Addr,b∉(gj CX P w K mg base N qual scope f cd A outer s H E).ex:=λb z=>absurd (show b∈([]:List Addr) from z) (by simp)
 refine⟨⟨e0.mod,S.kind,rfl,rfl,AF _,λy z c h1 h2=>?_,λy hy=>?_,λy c _ h=>?_,λ_=>hd,Around.frames_deeper e0.frames,.inr ⟨rfl,rfl⟩,λb z=>absurd z (Os b),e0.bs,e0.bsz,λb _ _=>Os b,λb z=>absurd z (Os b),e0.funs,e0.frf⟩,
  rfl,e0.bare,Un.kept hk,⟨_,x.toInCall.ns,λi y v h1 h2 h3=>?_⟩,λy c h=>⟨_,x.cell y c h⟩,e0.hok.fresh (AF _),λy c h=>?_,λp hp=>absurd (show p∈([]:List (Addr×Obj)) from hp) (by simp),e0.hok.kept hk,?_⟩
 ·exact name_of_addr x.apart (Cn h1) (Cn h2)
 ·have hy:scope.names.lookup y=some .cell\/scope.names.lookup y=some .free:=hy
  rcases hy with hy | hy
  ·exact nE hy
  ·exact absurd rfl (S.nofree _ (Cn hy))
 ·exact BH (x.above y c (Cn h))
 ·have hi:i < vs.length:=by
   unfold start at h2
   by_cases hi:i < vs.length
   ·exact hi
   ·rw [BQ (by simpa using hi)] at h2
    rw [List.getElem?_replicate] at h2;split at h2 <;> cases h2
  have ha:vs[i]?=some v:=by
   unfold start at h2;rw [By (by simpa using hi),AH] at h2;cases e:vs[i]? with
   | none=>rw [e] at h2;cases h2
   | some a=>rw [e] at h2;cases h2;rfl
  obtain⟨u,hu,rv⟩:=r.get ha;have hp:ps[i]?=some y:=by
   rw [<- S.pre,Ey (by omega)];exact h1
  have Vk:ps.Nodup:=by rw [<- S.pre];exact S.nd.sublist (C4 _ _)
  refine⟨u,rv,?_⟩
  rcases S.par y (AB hp) with k | k
  ·exact .inl ⟨k,mq Vk hp hu k⟩
  ·obtain⟨c,e⟩:=nE (n:=s.heap.objs.size + 1) k
   refine .inr ⟨.inl k,c,e,?_⟩;have q:=x.cell y c e;rw [md Vk hp hu (by show scope.names.lookup y≠_;rw [k];decide)] at q;exact q
 ·exact e0.hok.fresh (BH (x.above y c (Cn h)))
 ·unfold start
  show _=N.length;rw [Ba,Av,DD];omega
theorem yP {CX:IW}{P:Program}{w:World}{K:zz7}{mg:Str->Option zz9}{base:Heap}{k:Nat}{f:Addr}{name qual:Str}{params:Arguments}{body:List Stmt}{scope:Scope}{dV kV doc pm Gb ct oc:zz9}{an od:Option Addr}
  {Ln:Array (Option zz9)}{N ps:List Str}{sp:Sp} (lk:K.lookup f=some ⟨oc,od,.func (PySem.W.fnOf name qual params body scope dV kV doc pm an Gb ct),Ln⟩) (JF:PySem.W.codeIn K Gb qual=true) (S:aH N ps scope)
  (len:∀vs H Q E,sp vs H Q E->vs.length=ps.length)
  (JG:∀(A:Around) (outer:List Env) (s:zz8) (H:Hp) (vs:List V) (Q:VK) (E:XK),aQ k (A.deeper (envOfC qual scope s.heap.objs.size f Gb))->sp vs H Q E ->
   ∃t,Iq (gj CX P w K mg base N qual scope f Gb A outer s H E) body t/\t { nx:=λ_ H'=>Q .non H',rt:=Q } (start N vs) H) :
  aD P w K mg base CX (k + 1) f (PySem.W.fnOf name qual params body scope dV kV doc pm an Gb ct) ps sp:=by
 refine⟨len,λA outer s H args us vs Q E hr e0 hb r LA=>?_⟩;have hl:=len _ _ _ _ LA;have KX:K.In s.heap:=e0.mod.kin.keeps λb o e=>(e0.bs b o e).1;have lim:s.heap.NoLimit:=e0.mod.nolimit.keeps λb o e=>(e0.bs b o e).1;have OZ:∀y∈ps.zip us,scope.names.lookup y.1=some .local\/(scope.names.lookup y.1=some .cell/\((cellsFrom (s.heap.objs.size + 1) scope.names []).lookup y.1).isSome=true):=λ⟨n,v⟩ hy=>by
  rcases S.par n (EC hy).1 with q | q
  ·exact .inl q
  ·exact .inr ⟨q,PySem.W.cellsFrom_some _ _ _ (.inl q)⟩
 refine codeAny_call_function hr.depth (KX _ _ lk) rfl S.co S.gen rfl (PySem.W.codeRec_of KX JF) (hb _ _ _ _ ?_);refine wpAny_newFunctionEnv_cells S.kind OZ λenv he s1 x=>?_;subst he;refine⟨lim.keeps x.toInCall.keep,codeAny_func ?_⟩;obtain⟨t,ht,hq⟩:=JG A outer s H vs Q E (hr.deeper _) LA;have I:Inv (gj CX P w K mg base N qual scope f Gb A outer s H E) [] (start N vs) H s1:=uk S hr.hd e0 hl r x;refine BW (ht [] s1 (start N vs) H _ I hq) (λfl s' hs=>?_) λe s' hs=>hs;have fin:∀{σ':St}{H':Hp}{v:V}{u:zz9},Inv (gj CX P w K mg base N qual scope f Gb A outer s H E) [] σ' H' s'->RelV v u->Q v H'->CE outer P w H s Q u s' :=
  λ{σ' H' v u} J rv q=>⟨v,H',J.os,J.bare,J.base,J.hok,rv,q⟩
 cases fl with
 | ret u =>
  obtain⟨v,σ',H',J,rv,q⟩:=hs;exact fin J rv q
 | next =>
  obtain⟨σ',H',J,q⟩:=hs;exact fin (v:=V.non) (u:=Value.none) J rfl q
 | brk =>
  obtain⟨_,_,_,q⟩:=hs;exact False.elim q
 | cont =>
  obtain⟨_,_,_,q⟩:=hs;exact False.elim q
section
variable {X:Cx}{x:Str}{p pos:Pos}{e:Expr}{es:List Expr}{t:TA}{id T:String}{r:List V->Hp->VK->Prop}
def US (r:List V->Hp->VK->Prop) (t:TA):TE:=λσ H Q=>t σ H λvs H1=>r vs H1 Q
theorem au (hc:bJ X (.builtin id) r) (hg:Gl X x) (hm:X.mg x=none) (hv:bootBuiltins x=some (.builtin id)) (ha:PA X (e::es) t) (hn:x≠"__name__":=by decide) (M3:(x == ("__debug__":Str))=false:=by decide)
  (he:starEach (e::es) X.env=(false,eval e X.env)::starEach es X.env:=by rfl) (Gu:(backTo pos (starEach es X.env)).any (·.1)=false:=by rfl):PE X (.Call (.Name x p) (e::es) [] pos) (US r t):=by
 intro pins s σ H Q I h;refine Ea (fm I hg hm hv ?_ hn M3);exact PyProof.Rows.callWith_builtin1 (EI (ha pos pins s σ H _ I h) λus s1 ⟨vs,H1,I1,r1,q1⟩=>hc pins s1 σ H1 vs us Q I1 r1 q1) he Gu
theorem bP (hc:bJ X (.type T) r) (hg:Gl X x) (hm:X.mg x=none) (hv:bootBuiltins x=some (.type T)) (ha:PA X (e::es) t) (hn:x≠"__name__":=by decide) (M3:(x == ("__debug__":Str))=false:=by decide)
  (he:starEach (e::es) X.env=(false,eval e X.env)::starEach es X.env:=by rfl) (Gu:(backTo pos (starEach es X.env)).any (·.1)=false:=by rfl):PE X (.Call (.Name x p) (e::es) [] pos) (US r t):=by
 intro pins s σ H Q I h;refine Ea (fm I hg hm hv ?_ hn M3);exact Cj (EI (ha pos pins s σ H _ I h) λus s1 ⟨vs,H1,I1,r1,q1⟩=>hc pins s1 σ H1 vs us Q I1 r1 q1) he Gu
end
end L2
namespace HT
open PySem PyProof.Rows
theorem Ah (A:Around) (s:zz8) (a:Int) (t:Tok) (c:Int) (u:Tok) (prog:Program) (w:World) (E:zz9->zz8->Prop) (Q:zz9->zz8->Prop) (h:Q (.bool (decide (a < c))) s) :
  wpAny (model prog w) A (richCompare .Lt (.int a t) (.int c u)) Q E s :=
 (PyProof.Rows.lt_int h:wpAny (model prog w) A (compareOp .Lt (.int a t) (.int c u)) Q E s)
section
open PySem.SeqAt
open PySem.AutoSeq1 (wpAny_loadPart')
open PySem.MeetsSeq PySem.MeetsSeq2 PySem.MeetsSeq3
end
section
variable {prog:Program}{w:World}{A:Around}{E:zz9->zz8->Prop}{s:zz8}
theorem Aj {t b:Addr}{vs ws:List zz9}{Q:zz9->zz8->Prop} (ht:IsTup s.heap t vs.toArray) (hb:IsTup s.heap b ws.toArray) (hv:vs≠[])
  (h1:ws=[]->Q (.ref t) s) (h2:ws≠[]->Q (.ref s.heap.objs.size) { s with heap:=s.heap.push { cls:=.type "tuple",data:=.seq (vs++ws).toArray } })
  (hsz:vs.length + ws.length<=sizeLine):wpAny (model prog w) A (binaryOp .Add (.ref t) (.ref b)) Q E s:=by
 obtain⟨⟨cls,dd,data,sl⟩,ho,hc,n,hd⟩:=id ht;obtain⟨⟨Ut,QI,data2,Qb⟩,Ie,KG,n2,hd2⟩:=id hb;simp only at hc hd KG hd2;subst hc hd KG hd2;have e:vs.toArray++ws.toArray=(vs++ws).toArray:=by simp
 by_cases hw:ws=[]
 ·exact concat_meets ⟨_,ho,rfl⟩ ⟨_,Ie,rfl⟩ noFill_tuple_add seq_tuple_add Dv Dp (Di _ _)
   (tuple_addW1 t b vs.toArray ws.toArray n n2 dd QI sl Qb (by simpa using hv) (by simp [hw])) ⟨ho,Ie,h1 hw⟩
 ·refine concat_meets ⟨_,ho,rfl⟩ ⟨_,Ie,rfl⟩ noFill_tuple_add seq_tuple_add Dv Dp (Di _ _)
   (tuple_addW2 t b vs.toArray ws.toArray n n2 dd QI sl Qb (by simpa using hv) (by simpa using hw) (by rw [AR,AR];exact hsz)) ⟨ho,Ie,?_⟩
  rw [e];exact h2 hw
def sIx (n d:Nat):Option Int->Nat
 | none=>d
 | some v=>if v < 0 then (v + (n:Int)).toNat else min v.toNat n
theorem Ag (n d:Nat):sIx n d none=d:=rfl
theorem Ai (n d k:Nat):sIx n d (some (k:Int))=min k n:=by
 show (if (k:Int) < 0 then ((k:Int) + (n:Int)).toNat else min (k:Int).toNat n)=min k n;rw [if_neg (by omega),B9]
theorem yi (n d:Nat) (hd:d<=n) (o:Option Int):sIx n d o<=n:=by
 cases o with
 | none=>exact hd
 | some v =>
  show (if v < 0 then (v + (n:Int)).toNat else min v.toNat n)<=n
  by_cases hv:v < 0
  ·rw [if_pos hv];omega
  ·rw [if_neg hv];exact Nat.min_le_right _ _
theorem nX (v:Int) (n d:Nat):(if v < 0 then max (v + (n:Int)) 0 else min v (n:Int))=((sIx n d (some v):Nat):Int):=by
 show (if v < 0 then max (v + (n:Int)) 0 else min v (n:Int))=(((if v < 0 then (v + (n:Int)).toNat else min v.toNat n):Nat):Int)
 by_cases hv:v < 0
 ·simp only [if_pos hv];omega
 ·simp only [if_neg hv];omega
theorem sL (lo hi:Option Int) (n:Nat):Builtin.Slice.sliceAdjust lo hi 1 (n:Int)=(((sIx n 0 lo:Nat):Int),((sIx n n hi:Nat):Int)):=by
 have h1:¬ ((1:Int) < 0):=by omega
 unfold Builtin.Slice.sliceAdjust;simp only [h1,if_false];refine Prod.ext ?_ ?_
 ·cases lo with
  | none=>rfl
  | some v=>exact nX v n 0
 ·cases hi with
  | none=>rfl
  | some v=>exact nX v n n
theorem sr (i j:Nat):Builtin.Slice.slicePlaces (i:Int) (j:Int) 1=j - i:=by
 unfold Builtin.Slice.slicePlaces;have h1:(1:Int) > 0:=by omega
 simp only [h1,if_true,Int.ediv_one];split <;> omega
theorem lu {v:zz9}{o:Option Int}{Q:Option Int->zz8->Prop} (p:IsPart v o) (h:Q o s):wpAny (model prog w) A (Builtin.Slice.slicePartIndex v) Q E s:=by
 cases p with
 | none=>exact slicePart_none h
 | int i t=>exact slicePart_int h
theorem qE {sl:Addr}{vl vu:zz9}{lo hi:Option Int}{n:Nat}{Q:Int×Int×Nat->zz8->Prop} (hs:s.heap.IsSliceOf sl vl vu .none) (pl:IsPart vl lo) (pu:IsPart vu hi)
  (h:Q (((sIx n 0 lo:Nat):Int),1,sIx n n hi - sIx n 0 lo) s):wpAny (model prog w) A (Builtin.Slice.sliceApplied (.ref sl) (pure (n:Int))) Q E s:=by
 obtain⟨os,Jt,HG,ND⟩:=id hs;unfold Builtin.Slice.sliceApplied Builtin.Slice.sliceFields;refine Aw (Aw (Dc Jt ND (x:=vl) rfl (Aw (Dc Jt ND (x:=vu) rfl (Aw (Dc Jt ND (x:=.none) rfl (Az ?_)))))));refine Aw (slicePart_none ?_);show wpAny _ _ (if ((1:Int) == 0)=true then _ else _) _ _ s;rw [if_neg (by decide)];refine Aw (lu pl (Aw (lu pu (Aw (Az ?_)))));show wpAny _ _ (match Builtin.Slice.sliceAdjust lo hi 1 (n:Int) with | (lo,hi)=>pure (lo,(1:Int),Builtin.Slice.slicePlaces lo hi 1)) _ _ s;rw [sL lo hi n];show wpAny _ _ (pure (((sIx n 0 lo:Nat):Int),(1:Int),Builtin.Slice.slicePlaces ((sIx n 0 lo:Nat):Int) ((sIx n n hi:Nat):Int) 1)) _ _ s;rw [sr];exact Az h
theorem vm (xs:Array zz9) (i k:Nat):((List.range k).filterMap λ(m:Nat)=>xs[((i:Int) + (m:Int) * 1).toNat]?).toArray=((xs.toList.drop i).take k).toArray:=by
 have e:(λ(m:Nat)=>xs[((i:Int) + (m:Int) * 1).toNat]?)=λm=>xs[i + m]?:=by
  funext m
  have:((i:Int) + (m:Int) * 1).toNat=i + m:=by omega
  rw [this]
 rw [e];have:=pick_run xs i k;rw [List.filterMap_map] at this;have e2:((λx=>xs[x]?) ∘ λx=>i + x)=λm=>xs[i + m]?:=rfl;rw [e2] at this;rw [this]
theorem Ae {t sl:Addr}{items:Array zz9}{vl vu:zz9}{lo hi:Option Int}{Q:zz9->zz8->Prop} (ht:IsTup s.heap t items) (hs:s.heap.IsSliceOf sl vl vu .none) (pl:IsPart vl lo) (pu:IsPart vu hi)
  (hw:¬ (sIx items.size 0 lo=0/\sIx items.size items.size hi=items.size))
  (h:Q (.ref s.heap.objs.size) { s with heap:=s.heap.push { cls:=.type "tuple",data:=.seq ((items.toList.drop (sIx items.size 0 lo)).take (sIx items.size items.size hi - sIx items.size 0 lo)).toArray } })
  (hsz:items.size<=sizeLine):wpAny (model prog w) A (getItem (.ref t) (.ref sl)) Q E s:=by
 have HZ:sizeOk (.seq ((items.toList.drop (sIx items.size 0 lo)).take (sIx items.size items.size hi - sIx items.size 0 lo)).toArray):=by
  show ((items.toList.drop (sIx items.size 0 lo)).take (sIx items.size items.size hi - sIx items.size 0 lo)).toArray.size<=sizeLine;rw [AR,AW,DA,BD];omega
 have hj:sIx items.size items.size hi<=items.size:=yi _ _ (AF _) hi;obtain⟨os,Jt,HG,ND⟩:=id hs;have Ua:s.TypeIs (.ref sl) "slice":=⟨os,Jt,HG⟩
 unfold getItem
 try with_reducible refine BJ ?_
 first | refine Aw (Az ?_) | skip
 refine Aw (wpAny_sequenceKey ht.typeIs (by decide) ?_)
 refine Aw (BK (name:=Str.ofString "__getitem__") ht.typeIs BP
  (BG BP ht.typeIs entry_tuple_getitem ?_ (args_tuple_getitem _ _)))
 show wpAny _ _ (Builtin.Tuple.tupleItemsOf (.ref t) >>= _) _ _ s;refine Aw (tupleItemsOf_ ht ?_);refine Aw (Dj Ua ?_);rw [if_pos (by decide)];refine Aw (qE hs pl pu ?_);have Fo:¬ ((((sIx items.size 0 lo:Nat):Int) == 0 && (1:Int) == 1 && (sIx items.size items.size hi - sIx items.size 0 lo) == items.size)=true):=by
  intro q;rw [BL,BL] at q;have q1:((sIx items.size 0 lo:Nat):Int)=0:=eq_of_beq q.1.1;have q2:sIx items.size items.size hi - sIx items.size 0 lo=items.size:=eq_of_beq q.2;exact hw ⟨by omega,by omega⟩
 show wpAny _ _ (if (((sIx items.size 0 lo:Nat):Int) == 0 && (1:Int) == 1 && (sIx items.size items.size hi - sIx items.size 0 lo) == items.size)=true then _ else _) _ _ s;rw [if_neg Fo,vm]
 first
  | exact Aw (m:=Builtin.Tuple.tupleExact _) (Bp (Az ⟨_,rfl,Az h⟩) HZ)
  | exact Aw (m:=Builtin.Tuple.tupleExact _) (Bp (Aw (Az (Az ⟨_,rfl,Az h⟩))) HZ)
  | exact Aw (Aw (m:=Builtin.Tuple.tupleExact _) (Bp (Az (Az ⟨_,rfl,Az h⟩)) HZ))
  | exact Aw (Aw (m:=Builtin.Tuple.tupleExact _) (Bp (Az ⟨_,rfl,Az h⟩) HZ))
end
end HT
namespace L2
open PySem PySem.Spec PyProof.Rows
abbrev TO:=St->Hp->(Option Int->Hp->Prop)->Prop
def PO (X:Cx) (e:Option Expr) (t:TO):Prop :=
 ∀(pins:List (Addr×Obj)) (s:zz8) (σ:St) (H:Hp) (Q:Option Int->Hp->Prop),Inv X pins σ H s->t σ H Q ->
  wpAny (model X.prog X.w) X.A (evalPart e X.env) (λu s'=>∃o H',Inv X pins σ H' s'/\IsPart u o/\Q o H') X.xe s
def wG:TO:=λ_ H Q=>Q none H
def yM (t:TE):TO:=λσ H Q=>t σ H λx H1=>∃i,x=.int i/\Q (some i) H1
section
variable {X:Cx}{e:Expr}{te:TE}{lo hi:Option Expr}{tl th:TO}{pos p2:Pos}
theorem fj:PO X none wG:=by
 intro pins s σ H Q I h;rw [evalPart_none];exact Az ⟨none,H,I,.none,h⟩
theorem fk (h:PE X e te):PO X (some e) (yM te):=by
 intro pins s σ H Q I hw;rw [evalPart_some];refine EI (h pins s σ H _ I hw) λu s1 ⟨x,H1,I1,r1,q1⟩=>?_;obtain⟨i,rfl,q⟩:=q1;obtain⟨t,rfl⟩:=r1;exact⟨some i,H1,I1,.int i t,q⟩
def QM (X:Cx) (r:V->Option Int->Option Int->Hp->VK->Prop):Prop :=
 ∀(pins:List (Addr×Obj)) (s:zz8) (σ:St) (H:Hp) (x:V) (v vl vu:zz9) (lo hi:Option Int) (sl:Addr) (Q:VK),Inv X pins σ H s->RelV x v->s.heap.IsSliceOf sl vl vu .none->IsPart vl lo->IsPart vu hi->r x lo hi H Q ->
  ∃T id,typeLookup (.type T) "__getitem__"=pure (some (.builtin id))/\s.TypeIs v T/\wpAny (model X.prog X.w) X.A (getItem v (.ref sl)) (EP X pins σ Q) X.xe s
def Xx (r:V->Option Int->Option Int->Hp->VK->Prop) (te:TE) (tl th:TO):TE:=λσ H Q=>te σ H λx H1=>tl σ H1 λl H2=>th σ H2 λu H3=>r x l u H3 Q
theorem fh {r:V->Option Int->Option Int->Hp->VK->Prop} (hr:QM X r) (he:PE X e te) (hl:PO X lo tl) (hu:PO X hi th):PE X (.Subscript e (.Slice lo hi none p2) pos) (Xx r te tl th):=by
 intro pins s σ H Q I h;refine Subscript_ (EI (he pins s σ H _ I h) λv s1 ⟨x,H1,I1,r1,q1⟩=>?_);refine wpAny_Slice (EI (hl pins s1 σ H1 _ I1 q1) λvl s2 ⟨l,H2,I2,pl,q2⟩=>EI (hu pins s2 σ H2 _ I2 q2) λvu s3 ⟨u,H3,I3,pu,q3⟩=>?_);rw [evalPart_none];refine Az ?_;have I4:Inv X pins σ H3 { s3 with heap:=s3.heap.push { cls:=.type "slice",data:=.fields #[vl,vu,.none] } }:=I3.kept (t':=s3.toks) λb ob q=>AA _ q;obtain⟨T,id,hT,ht,hg⟩:=hr pins { s3 with heap:=s3.heap.push { cls:=.type "slice",data:=.fields #[vl,vu,.none] } } σ H3 x v vl vu l u s3.heap.objs.size Q I4 r1 (Heap.IsSliceOf.new ..) pl pu q3;show wpAny (model X.prog X.w) X.A (subscriptTail e (.Slice lo hi none p2) v (.ref s3.heap.objs.size)) (EP X pins σ Q) X.xe { s3 with heap:=s3.heap.push { cls:=.type "slice",data:=.fields #[vl,vu,.none] } };exact tail_any (ops:=[.ref s3.heap.objs.size,v]) ht hT hg (by with_unfolding_all rfl)
def cA (xs:List V) (lo hi:Option Int):List V:=(xs.drop (HT.sIx xs.length 0 lo)).take (HT.sIx xs.length xs.length hi - HT.sIx xs.length 0 lo)
theorem k8 (xs:List V) (lo hi:Option Int):(cA xs lo hi).length<=xs.length:=by
 unfold cA;rw [AW,DA];omega
def zY (K:zz7):V->Option Int->Option Int->Hp->VK->Prop:=λx lo hi H Q=>∃a xs,x=.ref a/\EG K H a xs /\
 ¬ (HT.sIx xs.length 0 lo=0/\HT.sIx xs.length xs.length hi=xs.length)/\∀p,H p=none->Q (.ref p) (upd H p (.tup (cA xs lo hi)))
theorem x5:QM X (zY X.K):=by
 intro pins s σ H x v vl vu lo hi sl Q I rx hs pl pu h;obtain⟨a,xs,rfl,hx,hw,q⟩:=h;cases rx;obtain⟨EE,r,ht,hz⟩:=I.tuple hx;have EJ:EE.toArray.size=xs.length:=by rw [AR];exact r.length.symm
 refine⟨"tuple",_,BP.lookup,ht.typeIs,?_⟩;refine HT.Ae ht hs pl pu (by rw [EJ];exact hw) ?_ (by rw [EJ];exact hz);rw [EJ];refine⟨.ref s.heap.objs.size,_,I.laid (t':=s.toks) (o:=.tup (cA xs lo hi)) (λb ob q=>AA _ q) (AF _) ?_,rfl,q _ (I.hok.fresh (AF _))⟩;exact⟨AV (k8 xs lo hi) hz,_,(r.drop (HT.sIx xs.length 0 lo)).take (HT.sIx xs.length xs.length hi - HT.sIx xs.length 0 lo),IsTup.new _ _⟩
def yG (K:zz7):R2:=λx y H Q=>∃a b xs ys,x=.ref a/\y=.ref b/\EG K H a xs/\EG K H b ys/\xs≠[]/\xs.length + ys.length<=sizeLine /\
 (ys=[]->Q (.ref a) H)/\(ys≠[]->∀p,H p=none->Q (.ref p) (upd H p (.tup (xs++ys))))
theorem av.nil_iff {xs:List V}{us:List zz9} (r:av xs us):us=[] ↔ xs=[]:=by
 cases r with
 | nil=>simp
 | cons _ _=>simp
theorem wV:FG X (binaryOp .Add) (yG X.K):=by
 intro pins s σ H x y v u Q I rx ry h;obtain⟨a,b,xs,ys,rfl,rfl,ha,hb,hx,hz,q1,q2⟩:=h;cases rx;cases ry;obtain⟨EE,r1,p1,_⟩:=I.tuple ha;obtain⟨Gd,r2,p2,_⟩:=I.tuple hb;refine HT.Aj p1 p2 (λz=>hx (r1.nil_iff.mp z)) (λz=>⟨.ref a,H,I,rfl,q1 (r2.nil_iff.mp z)⟩) (λz=>?_) (by rw [<- r1.length,<- r2.length];exact hz);refine⟨.ref s.heap.objs.size,_,I.laid (t':=s.toks) (o:=.tup (xs++ys)) (λb ob q=>AA _ q) (AF _) ?_,rfl,q2 (λw=>z (r2.nil_iff.mpr w)) _ (I.hok.fresh (AF _))⟩;exact⟨by rw [Ba];exact hz,_,r1.append r2,IsTup.new _ _⟩
end
def Mr (n:Nat) (i:Int):Option Nat:=if 0<=i then (if i < n then some i.toNat else none) else if -(n:Int)<=i then some (i + n).toNat else none
def LO {α:Type} (xs:List α) (i:Int):Option α:=(Mr xs.length i).bind λj=>xs[j]?
theorem oF {n:Nat}{i:Int}{j:Nat} (h:Mr n i=some j):seqIndex? i n=some j/\j < n/\-(n:Int)<=i/\i < n:=by
 unfold Mr at h
 by_cases h0:0<=i
 ·rw [if_pos h0] at h
  by_cases h1:i < n
  ·rw [if_pos h1] at h
   have e:i.toNat=j:=Bx h;exact⟨by rw [seqIndex_of h0 h1,e],by omega,by omega,h1⟩
  ·rw [if_neg h1] at h;cases h
 ·rw [if_neg h0] at h
  by_cases h1:-(n:Int)<=i
  ·rw [if_pos h1] at h
   have e:(i + n).toNat=j:=Bx h;exact⟨by rw [seqIndex_neg (by omega) h1,e],by omega,h1,by omega⟩
  ·rw [if_neg h1] at h;cases h
theorem jY {α:Type}{xs:List α}{i:Int}{v:α} (h:LO xs i=some v):∃j,seqIndex? i xs.length=some j/\xs[j]?=some v/\j < xs.length/\-(xs.length:Int)<=i/\i < xs.length:=by
 unfold LO at h;cases e:Mr xs.length i with
 | none=>rw [e] at h;cases h
 | some j =>
  rw [e] at h;obtain⟨h1,h2,h3,h4⟩:=oF e;exact⟨j,h1,h,h2,h3,h4⟩
theorem xx {α:Type}{xs:List α}{j:Nat}{v:α} (h:xs[j]?=some v):LO xs (j:Int)=some v:=by
 have hj:j < xs.length:=(AE.mp h).1;have e:Mr xs.length (j:Int)=some j:=by
  unfold Mr;rw [if_pos (by omega),if_pos (by omega)];simp
 unfold LO;rw [e];exact h
def xm (b:Expr):Prop:=∀o i,subscripted b false o i=operate [o,i] (getItem o i)
def J5 (X:Cx) (r:R2):Prop :=
 ∀(value slice:Expr) (pins:List (Addr×Obj)) (s:zz8) (σ:St) (H:Hp) (x y:V) (v u:zz9) (Q:VK),Inv X pins σ H s->RelV x v->RelV y u->r x y H Q ->
  subscripted slice false v u=operate [v,u] (getItem v u)->wpAny (model X.prog X.w) X.A (subscriptTail value slice v u) (EP X pins σ Q) X.xe s
def QR (X:Cx) (id:String) (r:V->List V->Hp->VK->Prop):Prop :=
 ∀(pins:List (Addr×Obj)) (s:zz8) (σ:St) (H:Hp) (x:V) (xs:List V) (v:zz9) (us:List zz9) (Q:VK),Inv X pins σ H s->RelV x v->av xs us->r x xs H Q ->
  wpAny (model X.prog X.w) X.A (call (.builtin id) (v::us)) (EP X pins σ Q) X.xe s
section
variable {X:Cx}{a b:Expr}{ta tb:TE}{pos:Pos}
theorem J5.or {r r':R2} (h:J5 X r) (h':J5 X r'):J5 X (λx y H Q=>r x y H Q\/r' x y H Q):=by
 intro value slice pins s σ H x y v u Q I rx ry q hs
 rcases q with q | q
 ·exact h value slice pins s σ H x y v u Q I rx ry q hs
 ·exact h' value slice pins s σ H x y v u Q I rx ry q hs
theorem ax {r:R2} (hr:J5 X r) (ha:PE X a ta) (hb:PE X b tb) (hs:xm b):PE X (.Subscript a b pos) (PY r ta tb):=by
 intro pins s σ H Q I h;exact Subscript_ (kR ha hb I h λv u s2 x y H2 I2 rx ry q=>hr a b pins s2 σ H2 x y v u Q I2 rx ry q (hs _ _))
def qo (K:zz7):R2:=λx y H Q=>∃p xs i v,x=.ref p/\y=.int i/\EF K H p xs/\LO xs i=some v/\Q v H
def qv (K:zz7):R2:=λx y H Q=>∃p xs i v,x=.ref p/\y=.int i/\EG K H p xs/\LO xs i=some v/\Q v H
def qu:R2:=λx y H Q=>∃z i c,x=.str z/\y=.int i/\z.length<=sizeLine/\LO z.cps.toList i=some c/\Q (.str ⟨#[c]⟩) H
theorem wO:J5 X (qo X.K):=by
 intro value slice pins s σ H x y v u Q I rx ry h hs;obtain⟨p,xs,i,z,rfl,rfl,hq,he,q⟩:=h;cases rx;obtain⟨t,rfl⟩:=ry;obtain⟨EE,r,pl,hz⟩:=I.list hq;obtain⟨j,h1,h2,h3,h4,h5⟩:=jY he;obtain⟨w,ew,GC⟩:=r.get h2;have hl:=r.length;have hn:=fS;have fin:EP X pins σ Q w s:=⟨z,H,I,GC,q⟩
 by_cases h0:0<=i
 ·have hj:i.toNat=j:=by
   rw [seqIndex_of h0 h5] at h1;exact Bx h1
  exact item_listR pl.isList h0 (by omega) (by rw [hj];simpa using ew) fin hs
 ·have hj:(i + (EE.toArray.size:Int)).toNat=j:=by
   rw [seqIndex_neg (by omega) h4] at h1;rw [AR,<- hl];exact Bx h1
  exact subscriptTail_builtinR (x:=w) pl.isList.typeIs slot_list_getitem.lookup
   (wpAny_getItem_list_neg (Q:=λr s'=>r=w/\EP X pins σ Q r s') pl.isList (by omega) (by rw [AR] <;> omega) (by omega) (by rw [hj];simpa using ew) ⟨rfl,fin⟩) hs
theorem xX:J5 X (qv X.K):=by
 intro value slice pins s σ H x y v u Q I rx ry h hs;obtain⟨p,xs,i,z,rfl,rfl,hq,he,q⟩:=h;cases rx;obtain⟨t,rfl⟩:=ry;obtain⟨EE,r,pl,hz⟩:=I.tuple hq;obtain⟨j,h1,h2,h3,h4,h5⟩:=jY he;obtain⟨w,ew,GC⟩:=r.get h2;have hl:=r.length;have hn:=fS;have fin:EP X pins σ Q w s:=⟨z,H,I,GC,q⟩
 exact subscriptTail_builtinR (x:=w) pl.typeIs slot_tuple_getitem.lookup
  (getItem_tuple (j:=j) (Q:=λr s'=>r=w/\EP X pins σ Q r s') pl (by omega) (by omega) (by rw [AR,<- hl];exact h1) (by simpa using ew) ⟨rfl,fin⟩) hs
theorem xZ:J5 X qu:=by
 intro value slice pins s σ H x y v u Q I rx ry h hs;obtain⟨z,i,c,rfl,rfl,hz,he,q⟩:=h;obtain⟨t,rfl⟩:=rx;obtain⟨t',rfl⟩:=ry;obtain⟨j,h1,h2,h3,h4,h5⟩:=jY he;have hl:z.cps.toList.length=z.length:=by simp [Str.length]
 rw [hl] at h1 h4 h5;have hn:=fS
 exact tail_any (typeIs_str s z t) slot_str_getitem.lookup (getItem_str (c:=c) (by
  have e1:decide (i < -(2 ^ 63:Int))=false:=decide_eq_false (by omega);have e2:decide (i ≥ 2 ^ 63)=false:=decide_eq_false (by omega)
  rw [e1,e2,Bool.or_false]) (by rw [h1];simpa using h2) ⟨.str ⟨#[c]⟩,H,I.tok _,⟨_,rfl⟩,q⟩) hs
def Qi (K:zz7):R2:=λx y H Q=>qo K x y H Q\/qv K x y H Q\/qu x y H Q
theorem aG:J5 X (Qi X.K):=wO.or (xX.or xZ)
theorem sq (EE:List zz9) (n j:Nat) (u:zz9):Obj.mapSeq (·.setIfInBounds j u) { cls:=.type "list",data:=.seq EE.toArray n }={ cls:=.type "list",data:=.seq (EE.set j u).toArray n }:=by
 simp [Obj.mapSeq]
theorem Inv.lst {pins:List (Addr×Obj)}{σ:St}{H:Hp}{s:zz8}{p:Addr}{xs:List V} (I:Inv X pins σ H s) (h:H p=some (.lst xs)) :
  ∃(EE:List zz9) (n:Nat),av xs EE/\s.heap.get? p=some { cls:=.type "list",data:=.seq EE.toArray n }/\xs.length<=sizeLine:=by
 obtain⟨z,EE,n,r,e⟩:=I.hok p _ h;exact⟨EE,n,r,e,z⟩
theorem Inv.lstUpd {pins:List (Addr×Obj)}{σ:St}{H:Hp}{s:zz8}{p:Addr}{xs ys:List V}{EE its':List zz9}{n n':Nat}{f:Obj->Obj} (I:Inv X pins σ H s) (h:H p=some (.lst xs))
  (ho:s.heap.get? p=some { cls:=.type "list",data:=.seq EE.toArray n }) (hf:f { cls:=.type "list",data:=.seq EE.toArray n }={ cls:=.type "list",data:=.seq its'.toArray n' }) (r:av ys its') (hz:ys.length<=sizeLine) (t:Nat) :
  Inv X pins σ (upd H p (.lst ys)) { s with heap:=s.heap.update p f,toks:=t }:=by
 have e:(s.heap.update p f).get? p=some { cls:=.type "list",data:=.seq its'.toArray n' }:=by
  rw [BN f ho (by rw [hf] <;> rfl),hf]
 refine I.write (x:=p) (e:=p) (by rw [h];trivial) (.inl rfl) (λb u hb q=>(Bw _ _ (Cc hb)).trans q) ⟨_,e⟩ ?_;exact⟨hz,its',n',r,e⟩
def yH:V->V->V->Hp->(Hp->Prop)->Prop:=λo i v H Q=>∃p xs k j,o=.ref p/\i=.int k/\H p=some (.lst xs)/\Mr xs.length k=some j/\Q (upd H p (.lst (xs.set j v)))
theorem set_list:qA X yH:=by
 intro pins s σ H o i v ov iv u Q I ro ri rv h;obtain⟨p,xs,k,j,rfl,rfl,hp,hj,q⟩:=h;cases ro;obtain⟨t,rfl⟩:=ri;obtain⟨EE,n,r,ho,hz⟩:=I.lst hp;obtain⟨h1,h2,h3,h4⟩:=oF hj;have hl:=r.length;have hn:=fS;have I':Inv X pins σ (upd H p (.lst (xs.set j v))) { s with heap:=s.heap.update p (Obj.mapSeq (·.setIfInBounds j u)) } :=
  I.lstUpd hp ho (sq EE n j u) (r.set rv j) (by rw [List.length_set];exact hz) s.toks
 by_cases h0:0<=k
 ·have hk:k.toNat=j:=by
   rw [seqIndex_of h0 h4] at h1;exact Bx h1
  exact PySem.W.ki_setAt ho h0 (by omega) (by rw [AR,<- hl];exact h4) (by rw [hk];exact⟨_,I',q⟩)
 ·have hk:(k + (EE.toArray.size:Int)).toNat=j:=by
   rw [seqIndex_neg (by omega) h3] at h1;rw [AR,<- hl];exact Bx h1
  exact PySem.W.ki_setBack ho (by omega) (by rw [AR,<- hl];exact h3) (by omega) (by rw [hk];exact⟨_,I',q⟩)
theorem rC (lo hi:Option Int) (n:Nat):(sliceBounds lo hi none n).1=((HT.sIx n 0 lo:Nat):Int)/\(sliceBounds lo hi none n).2.1=((HT.sIx n n hi:Nat):Int)/\(sliceBounds lo hi none n).2.2=1:=by
 refine⟨?_,?_,rfl⟩
 ·cases lo with
  | none=>simp [sliceBounds,HT.sIx]
  | some i =>
   simp only [sliceBounds,HT.sIx,Option.getD_none,show (1:Int) > 0 by decide,if_true]
   by_cases h:i < 0
   ·simp only [h,if_true] <;> omega
   ·simp only [h,if_false] <;> omega
 ·cases hi with
  | none=>simp [sliceBounds,HT.sIx]
  | some i =>
   simp only [sliceBounds,HT.sIx,Option.getD_none,show (1:Int) > 0 by decide,if_true]
   by_cases h:i < 0
   ·simp only [h,if_true] <;> omega
   ·simp only [h,if_false] <;> omega
theorem qR (EE:List zz9) (lo hi:Option Int):slicePick EE.toArray lo hi none=((EE.drop (HT.sIx EE.length 0 lo)).take (HT.sIx EE.length EE.length hi - HT.sIx EE.length 0 lo)).toArray:=by
 obtain⟨h1,h2,h3⟩:=rC lo hi EE.toArray.size;unfold slicePick;rw [h1,h2,h3];simp only [sliceRange_one,pick_run,AR] <;> rfl
def Ab (K:zz7):V->Option Int->Option Int->Hp->VK->Prop:=λx lo hi H Q=>∃a xs,x=.ref a/\EF K H a xs/\∀p,H p=none->Q (.ref p) (upd H p (.lst (cA xs lo hi)))
theorem fM:QM X (Ab X.K):=by
 intro pins s σ H x v vl vu lo hi sl Q I rx hs pl pu h;obtain⟨a,xs,rfl,hx,q⟩:=h;cases rx;obtain⟨EE,r,ht,hz⟩:=I.list hx;have EJ:=r.length;refine⟨"list",_,slot_list_getitem.lookup,ht.isList.typeIs,?_⟩;refine wpAny_getItem_list_slice ht.isList hs pl pu .none (by simp) ?_ (by rw [AR] <;> omega);rw [qR,<- EJ];refine⟨.ref s.heap.objs.size,_,I.laid (t':=s.toks) (o:=.lst (cA xs lo hi)) (λb ob q=>AA _ q) (AF _) ?_,rfl,q _ (I.hok.fresh (AF _))⟩;exact⟨AV (k8 xs lo hi) hz,_,0,(r.drop (HT.sIx xs.length 0 lo)).take (HT.sIx xs.length xs.length hi - HT.sIx xs.length 0 lo),AS _ rfl⟩
def eL:V->Bool
 | .non=>true
 | .bl _=>true
 | .int _=>true
 | .str _=>true
 | _=>false
def J3:V->V->Bool
 | .non,.non=>true
 | .bl a,.bl b=>a == b
 | .bl a,.int b=>(if a then 1 else 0) == b
 | .int a,.bl b=>a == (if b then 1 else 0)
 | .int a,.int b=>a == b
 | .str a,.str b=>a == b
 | _,_=>false
theorem yw {A:Around}{s:zz8}{y x:V}{u v:zz9} (ry:RelV y u) (rx:RelV x v) (fy:eL y=true) (fx:eL x=true):SeqAt.EqAt A s u v (J3 y x):=by
 cases y with
 | non =>
  cases ry;cases x with
  | non=>cases rx;exact SeqAt.EqAt.same _
  | bl b=>cases rx;exact SeqAt.EqAt.none_bool b
  | int b=>obtain⟨t,rfl⟩:=rx;exact SeqAt.EqAt.none_int b t
  | str b=>obtain⟨t,rfl⟩:=rx;exact SeqAt.EqAt.none_str b t
  | _=>exact absurd (show false=true from fx) AX
 | bl a =>
  cases ry;cases x with
  | non=>cases rx;exact SeqAt.EqAt.bool_none a
  | bl b=>cases rx;exact SeqAt.EqAt.bool_bool a b
  | int b=>obtain⟨t,rfl⟩:=rx;exact SeqAt.EqAt.bool_int a b t
  | str b=>obtain⟨t,rfl⟩:=rx;exact SeqAt.EqAt.bool_str a b t
  | _=>exact absurd (show false=true from fx) AX
 | int a =>
  obtain⟨t',rfl⟩:=ry;cases x with
  | non=>cases rx;exact SeqAt.EqAt.int_none a t'
  | bl b=>cases rx;exact SeqAt.EqAt.int_bool a t' b
  | int b=>obtain⟨t,rfl⟩:=rx;exact SeqAt.EqAt.int_int a t' b t
  | str b=>obtain⟨t,rfl⟩:=rx;exact SeqAt.EqAt.int_str a t' b t
  | _=>exact absurd (show false=true from fx) AX
 | str a =>
  obtain⟨t',rfl⟩:=ry;cases x with
  | non=>cases rx;exact SeqAt.EqAt.str_none a t'
  | bl b=>cases rx;exact SeqAt.EqAt.str_bool a t' b
  | int b=>obtain⟨t,rfl⟩:=rx;exact SeqAt.EqAt.str_int a t' b t
  | str b=>obtain⟨t,rfl⟩:=rx;exact SeqAt.EqAt.str_str a t' b t
  | _=>exact absurd (show false=true from fx) AX
 | _=>exact absurd (show false=true from fy) AX
def HR (x:V) (u:zz9):Bool:=match u with
 | .none=>J3 .non x
 | .bool b=>J3 (.bl b) x
 | .int i _=>J3 (.int i) x
 | .str z _=>J3 (.str z) x
 | _=>false
theorem oR {x y:V}{u:zz9} (r:RelV y u) (f:eL y=true):HR x u=J3 y x:=by
 cases y with
 | non=>cases r;rfl
 | bl b=>cases r;rfl
 | int i=>obtain⟨t,rfl⟩:=r;rfl
 | str z=>obtain⟨t,rfl⟩:=r;rfl
 | _=>exact absurd (show false=true from f) AX
theorem gB {x:V}:∀{xs:List V}{us:List zz9},av xs us->xs.all eL=true->us.any (HR x)=xs.any λy=>J3 y x
 | _,_,.nil,_=>rfl
 | y::xs,u::us,.cons r t,f=>by
  rw [List.all_cons,BL] at f;rw [Dx,Dx,oR r f.1,gB t f.2]
theorem gr {A:Around}{s:zz8}{x:V}{v:zz9} (rx:RelV x v) (fx:eL x=true):∀{xs:List V}{us:List zz9},av xs us->xs.all eL=true->∀u∈us,SeqAt.EqAt A s u v (HR x u)
 | _,_,.nil,_=>λu hu=>by cases hu
 | y::xs,u::us,.cons r t,f=>λu' hu=>by
  rw [List.all_cons,BL] at f
  rcases AI.mp hu with rfl | hu
  ·rw [oR r f.1];exact yw r rx f.1 fx
  ·exact gr rx fx t f.2 u' hu
def FL (x:V) (xs:List V):Bool:=xs.any λy=>J3 y x
def Qj (K:zz7) (neg:Bool):R2:=λx y H Q=>∃p xs,y=.ref p/\(EF K H p xs\/EG K H p xs)/\eL x=true/\xs.all eL=true/\Q (.bl (if neg then !FL x xs else FL x xs)) H
theorem cW:FG X (compareOp .In) (Qj X.K false):=by
 intro pins s σ H x y v u Q I rx ry h;obtain⟨p,xs,rfl,hq,fx,fs,q⟩:=h;cases ry
 rcases hq with hq | hq
 ·obtain⟨EE,r,pl,hz⟩:=I.list hq
  refine SeqAt.in_listAt (HR x) pl.isList (λw hw=>gr rx fx r fs w (by simpa using hw)) ⟨.bl _,H,I,rfl,?_⟩;rw [show EE.toArray.any (HR x)=EE.any (HR x) by simp,gB r fs];exact q
 ·obtain⟨EE,r,pl,hz⟩:=I.tuple hq
  refine SeqAt.in_tupleAt (HR x) pl (λw hw=>gr rx fx r fs w (by simpa using hw)) ⟨.bl _,H,I,rfl,?_⟩;rw [show EE.toArray.any (HR x)=EE.any (HR x) by simp,gB r fs];exact q
theorem fA:FG X (compareOp .NotIn) (Qj X.K true):=by
 intro pins s σ H x y v u Q I rx ry h;obtain⟨p,xs,rfl,hq,fx,fs,q⟩:=h;cases ry
 rcases hq with hq | hq
 ·obtain⟨EE,r,pl,hz⟩:=I.list hq
  refine SeqAt.notIn_listAt (HR x) pl.isList (λw hw=>gr rx fx r fs w (by simpa using hw)) ⟨.bl _,H,I,rfl,?_⟩;rw [show EE.toArray.any (HR x)=EE.any (HR x) by simp,gB r fs];exact q
 ·obtain⟨EE,r,pl,hz⟩:=I.tuple hq
  refine SeqAt.notIn_tupleAt (HR x) pl (λw hw=>gr rx fx r fs w (by simpa using hw)) ⟨.bl _,H,I,rfl,?_⟩;rw [show EE.toArray.any (HR x)=EE.any (HR x) by simp,gB r fs];exact q
theorem bb:bJ X (.builtin "len") (λxs H Q=>∃p ys,xs=[.ref p]/\(EF X.K H p ys\/EG X.K H p ys)/\Q (.int ys.length) H):=by
 intro pins s σ H xs us Q I r h;obtain⟨p,ys,rfl,hq,q⟩:=h;obtain⟨u,rfl,rx⟩:=vals1 r;cases rx;have hn:=fS
 rcases hq with hq | hq
 ·obtain⟨EE,r',pl,hz⟩:=I.list hq
  have EJ:=r'.length;exact Calls.call_len_list pl.isList (by simp only [AR] <;> omega) ⟨.int ys.length,H,I.tok _,⟨s.toks + 1,by rw [AR,EJ]⟩,q⟩
 ·obtain⟨EE,r',pl,hz⟩:=I.tuple hq
  have EJ:=r'.length;exact len_tuple pl (by simp only [AR] <;> omega) ⟨.int ys.length,H,I.tok _,⟨s.toks + 1,by rw [AR,EJ]⟩,q⟩
theorem rB:bJ X (.builtin "len") (λxs H Q=>∃z,xs=[.str z]/\z.length<=sizeLine/\Q (.int z.length) H):=by
 intro pins s σ H xs us Q I r h;obtain⟨z,rfl,hz,q⟩:=h;obtain⟨u,rfl,t,rfl⟩:=vals1 r;have hn:=fS;exact len_str (by omega) ⟨.int z.length,H,I.tok _,⟨_,rfl⟩,q⟩
theorem fC:bJ X (.type "list") (λxs H Q=>∃p ys,xs=[.ref p]/\(EF X.K H p ys\/EG X.K H p ys)/\∀l,H l=none->Q (.ref l) (upd H l (.lst ys))):=by
 intro pins s σ H xs us Q I r h;obtain⟨p,ys,rfl,hq,q⟩:=h;obtain⟨u,rfl,rx⟩:=vals1 r;cases rx;have fin:∀(EE:List zz9),av ys EE->ys.length<=sizeLine->∀(h':Heap) (c':Nat),(∀b o',s.heap.get? b=some o'->h'.get? b=some o') ->
   h'.get? s.heap.objs.size=some { cls:=.type "list",dict:=none,data:=.seq EE.toArray c',slots:=#[] }->EP X pins σ Q (.ref s.heap.objs.size) { s with heap:=h' }:=λEE r' hz h' c' kp e =>
  ⟨.ref s.heap.objs.size,_,I.laid (t':=s.toks) kp (AF _) (show aY X.prog X.w _ h' _ (.lst ys) from ⟨hz,EE,c',r',e⟩),rfl,q _ (I.hok.fresh (AF _))⟩
 rcases hq with hq | hq
 ·obtain⟨EE,r',pl,hz⟩:=I.list hq
  have EJ:=r'.length;obtain⟨o,ho,hc,n,hd⟩:=pl.isList;exact call_list_seq p (.inl rfl) ho hc hd (λh' c' kp e=>fin EE r' hz h' c' kp e) (by simp only [AR] <;> omega)
 ·obtain⟨EE,r',pl,hz⟩:=I.tuple hq
  have EJ:=r'.length;obtain⟨o,ho,hc,n,hd⟩:=pl;exact call_list_seq p (.inr rfl) ho hc hd (λh' c' kp e=>fin EE r' hz h' c' kp e) (by simp only [AR] <;> omega)
theorem c8:bJ X (.type "tuple") (λxs H Q=>∃p ys,xs=[.ref p]/\((EF X.K H p ys/\∀l,H l=none->Q (.ref l) (upd H l (.tup ys)))\/(EG X.K H p ys/\Q (.ref p) H))):=by
 intro pins s σ H xs us Q I r h;obtain⟨p,ys,rfl,h⟩:=h;obtain⟨u,rfl,rx⟩:=vals1 r;cases rx
 rcases h with ⟨hq,q⟩ | ⟨hq,q⟩
 ·obtain⟨EE,r',pl,hz⟩:=I.list hq
  have EJ:=r'.length;refine call_tuple_list pl.isList (λh' kp=>?_) (by simp only [AR] <;> omega);have I1:Inv X pins σ H { s with heap:=h' }:=I.kept (t':=s.toks) kp;have I2:Inv X pins σ (upd H h'.objs.size (.tup ys)) { s with heap:=h'.push { cls:=.type "tuple",data:=.seq EE.toArray } } :=
   I1.laid (t':=s.toks) (λb o e=>AA _ e) (AF _) (show aY X.prog X.w _ _ _ (.tup ys) from ⟨hz,EE,r',IsTup.new _ _⟩)
  exact⟨.ref h'.objs.size,_,I2,rfl,q _ (I1.hok.fresh (AF _))⟩
 ·obtain⟨EE,r',pl,hz⟩:=I.tuple hq
  exact call_tuple_same pl ⟨.ref p,H,I,rfl,q⟩
def Q1 (K:zz7) (T:String) (x:V) (H:Hp):Prop:=match x with
 | .str _=>T="str"
 | .int _=>T="int"
 | .ref p=>(T="list"/\∃xs,EF K H p xs)\/(T="tuple"/\∃o,K.lookup p=some o/\o.cls=.type "tuple"/\o.dict=none) \/
   (T="dict"/\((∃kvs,H p=some (.dK kvs))\/∃kvs,H p=some (.dT kvs)))\/(T="set"/\∃S n,H p=some (.set S n))
 | _=>False
theorem pb {pins:List (Addr×Obj)}{σ:St}{H:Hp}{s:zz8}{T:String}{x:V}{v:zz9} (I:Inv X pins σ H s) (r:RelV x v) (ty:Q1 X.K T x H) :
  s.TypeIs v T/\∀a,v=.ref a->∃ob,s.heap.get? a=some ob/\ob.dict=none:=by
 cases x with
 | str z =>
  obtain⟨t,rfl⟩:=r;cases (show T="str" from ty);exact⟨typeIs_str s z t,λ_ e=>nomatch e⟩
 | int i =>
  obtain⟨t,rfl⟩:=r;cases (show T="int" from ty);exact⟨typeIs_int s i t,λ_ e=>nomatch e⟩
 | ref p =>
  cases r
  rcases ty with ⟨rfl,xs,hq⟩ | ⟨rfl,o,hk,hc,hd⟩ | ⟨rfl,hk⟩ | ⟨rfl,S,n,hk⟩
  ·obtain⟨EE,_,pl,_⟩:=I.list hq
   refine⟨pl.isList.typeIs,λa e=>?_⟩;cases e;obtain⟨o,n,e,c,hd,_⟩:=pl;exact⟨o,e,hd⟩
  ·refine⟨⟨o,I.kIn p o hk,hc⟩,λa e=>?_⟩
   cases e;exact⟨o,I.kIn _ o hk,hd⟩
  ·have z:∃o,s.heap.get? p=some o/\o.ExactDict:=by
    rcases hk with ⟨kvs,hk⟩ | ⟨kvs,hk⟩
    ·obtain⟨_,_,_,_,o,_,_,e,ex,_⟩:=I.hok p _ hk
     exact⟨o,e,ex⟩
    ·obtain⟨_,_,_,_,o,_,_,e,ex,_⟩:=I.hok p _ hk
     exact⟨o,e,ex⟩
   obtain⟨o,e,ex⟩:=z;refine⟨⟨o,e,ex.1⟩,λa e2=>?_⟩;cases e2;exact⟨o,e,ex.2.1⟩
  ·obtain⟨o,_,_,_,e,ex,_⟩:=I.hok p _ hk
   refine⟨⟨o,e,ex.1⟩,λa e2=>?_⟩;cases e2;exact⟨o,e,ex.2.1⟩
 | _=>exact False.elim ty
def zl (K:zz7) (T:String) (r:V->List V->Hp->VK->Prop) (to:TE):TE:=λσ H Q=>to σ H λx H1=>Q1 K T x H1/\r x [] H1 Q
def XC (K:zz7) (T:String) (r:V->List V->Hp->VK->Prop) (to:TE) (t:TA):TE:=λσ H Q=>to σ H λx H1=>Q1 K T x H1/\t σ H1 λxs H2=>r x xs H2 Q
variable {o e:Expr}{es:List Expr}{to:TE}{t:TA}{name:Str}{apos Fv:Pos}{T id:String}{r:V->List V->Hp->VK->Prop}
theorem pA (pa:PlainAttrs T) (slot:Slot T name id) (Sj:typeOf (.builtin id)=pure (.type "method_descriptor")) (hm:QR X id r) (ho:PE X o to)
  (JH:attributeBase o name X.env (eval o X.env)=eval o X.env:=by rfl) (Jy:(apos.endLine == Fv.line)=true:=by rfl):PE X (.Call (.Attribute o name apos) [] [] Fv) (zl X.K T r to):=by
 intro pins s σ H Q I h;refine wpAny_Call_method0_late JH Jy (EI (ho pins s σ H _ I h) λv s1 ⟨x,H1,I1,r1,ty,q1⟩=>?_);obtain⟨h1,h2⟩:=pb I1 r1 ty;exact⟨T,id,pa,slot,Sj,h1,h2,Calls.callWith_builtin rfl (PySem.evalArgs_none (hm pins s1 σ H1 x [] v [] Q I1 r1 .nil q1))⟩
theorem cH (pa:PlainAttrs T) (slot:Slot T name id) (Sj:typeOf (.builtin id)=pure (.type "method_descriptor")) (hm:QR X id r) (ho:PE X o to) (ha:PA X (e::es) t)
  (JH:attributeBase o name X.env (eval o X.env)=eval o X.env:=by rfl)
  (MY:((backTo Fv (starEach (e::es) X.env)).all (λx=>!x.1) && (backToKw Fv (keywordEach [] X.env)).all (λx=>x.1.isSome)
   && decide ((e::es).length + ([]:List Keyword).length + (if ([]:List Keyword).isEmpty then 0 else 1) < 30))=true:=by rfl)
  (Jy:(apos.endLine == Fv.line)=true:=by rfl) (hs:starEach (e::es) X.env=(false,eval e X.env)::starEach es X.env:=by rfl) (MH:(backTo Fv (starEach es X.env)).any (·.1)=false:=by rfl) :
  PE X (.Call (.Attribute o name apos) (e::es) [] Fv) (XC X.K T r to t):=by
 intro pins s σ H Q I h;refine wpAny_Call_method_late JH MY Jy rfl (EI (ho pins s σ H _ I h) λv s1 ⟨x,H1,I1,r1,ty,q1⟩=>?_);obtain⟨h1,h2⟩:=pb I1 r1 ty;refine⟨T,id,pa,slot,Sj,h1,h2,?_⟩;have hA:=ha Fv pins s1 σ H1 _ I1 q1;rw [hs] at hA ⊢;refine Calls.callWith_builtin (by show (false || (backTo Fv (starEach es X.env)).any (·.1))=false;rw [MH] <;> rfl) (Calls.evalArgs_plain ?_);exact EI hA λus s2 ⟨vs,H2,I2,r2,q2⟩=>hm pins s2 σ H2 x vs v us Q I2 r1 r2 q2
/- xs.append(e),list.index on a Ow tuple .. are QR facts of 06m -/
end
def QS (X:Cx) (id:String) (r:V->List V->Hp->VK->Prop):Prop :=
 ∀(pins:List (Addr×Obj)) (s:zz8) (σ:St) (H:Hp) (x:V) (xs:List V) (v:zz9) (us:List zz9) (Q:VK),Inv X pins σ H s->RelV x v->av xs us->r x xs H Q ->
  wpAny (model X.prog X.w) X.A (call (.builtin id) (v::us)) (EP X pins σ Q) X.xe s
theorem av.one:∀{x:V}{us:List zz9},av [x] us->∃u,us=[u]/\RelV x u
 | _,_,.cons r .nil=>⟨_,rfl,r⟩
theorem av.zero:∀{us:List zz9},av [] us->us=[]
 | _,.nil=>rfl
theorem av.eraseIdx:∀{xs:List V}{us:List zz9} (i:Nat),av xs us->av (xs.eraseIdx i) (us.eraseIdx i)
 | _,_,_,.nil=>.nil
 | _,_,0,.cons _ t=>t
 | _,_,i + 1,.cons r t=>.cons r (av.eraseIdx i t)
theorem av.rep {xs:List V}{us:List zz9} (h:av xs us):∀k:Nat,av (List.replicate k xs).flatten (List.replicate k us).flatten
 | 0=>.nil
 | k + 1=>by
  rw [Co,Co,BO,BO];exact av.append h (av.rep h k)
theorem lI {α:Type}:∀(l:List α) (i:Nat),(l.eraseIdx i).length<=l.length
 | [],_=>AF _
 | _::_,0=>Cu _
 | _::r,i + 1=>Nat.succ_le_succ (lI r i)
theorem foldl_rep (EE:List zz9):∀(k:Nat) (EL:List zz9),
  List.foldl (λx1 x2=>x1++x2) EL.toArray (List.replicate k EE.toArray)=(EL++(List.replicate k EE).flatten).toArray
 | 0,EL=>by simp
 | k + 1,EL=>by
  have e:EL.toArray++EE.toArray=(EL++EE).toArray:=by simp
  have e2:(EL++EE)++(List.replicate k EE).flatten=EL++(List.replicate (k + 1) EE).flatten:=by
   rw [Co,BO,Ci]
  rw [<- e2,<- foldl_rep EE k (EL++EE),<- e,Co,List.foldl_cons]
section
variable {X:Cx}{pins:List (Addr×Obj)}{σ:St}{H:Hp}{s:zz8}{l b:Addr}{xs ys zs:List V}
theorem Inv.lset {EE its':List zz9}{n:Nat}{f:Array zz9->Array zz9}{t':Nat} (I:Inv X pins σ H s) (hH:H l=some (.lst xs))
  (e:s.heap.get? l=some { cls:=.type "list",data:=.seq EE.toArray n }) (hf:f EE.toArray=its'.toArray) (hv:av ys its') (hz:ys.length<=sizeLine) :
  Inv X pins σ (upd H l (.lst ys)) { s with heap:=s.heap.update l (Obj.mapSeq f),toks:=t' }:=by
 have q:=PySem.IsL.update e f;rw [hf] at q;refine I.write (x:=l) (e:=l) (by rw [hH];exact trivial) (.inl rfl) (λb' u hb hu=>(Bw s.heap (Obj.mapSeq f) (Cc hb)).trans hu) ⟨_,q⟩ ?_;exact⟨hz,its',_,hv,q⟩
theorem Inv.lnew {EE:List zz9}{t':Nat} (I:Inv X pins σ H s) (hv:av ys EE) (hz:ys.length<=sizeLine) :
  Inv X pins σ (upd H s.heap.objs.size (.lst ys)) { s with heap:=s.heap.push { cls:=.type "list",data:=.seq EE.toArray },toks:=t' } :=
 I.laid (λ_ _ q=>AA _ q) (AF _) ⟨hz,EE,0,hv,AS _ rfl⟩
theorem Inv.fresh (I:Inv X pins σ H s):H s.heap.objs.size=none:=I.hok.fresh (AF _)
theorem Inv.lstM (I:Inv X pins σ H s) (hH:H l=some (.lst xs)):xs.length<=sizeLine/\∃(EE:List zz9) (n:Nat),av xs EE/\xs.length=EE.length/\s.heap.get? l=some { cls:=.type "list",data:=.seq EE.toArray n }:=by
 obtain⟨z,EE,n,r,e⟩:=I.hok l _ hH;exact⟨z,EE,n,r,r.length,e⟩
theorem uN {n:Nat} (h:n<=sizeLine):Builtin.List.listTooLong n=false:=by
 unfold Builtin.List.listTooLong;exact decide_eq_false (by omega)
end
section
variable {X:Cx}
def wg:V->List V->Hp->VK->Prop:=λx vs H Q=>∃l xs y,x=.ref l/\vs=[y]/\H l=some (.lst xs)/\xs.length < sizeLine/\Q .non (upd H l (.lst (xs++[y])))
theorem dj:QS X "list.append" wg:=by
 intro pins s σ H x vs v us Q I rx rv h;obtain⟨l,xs,y,rfl,rfl,hH,hz,q⟩:=h;cases rx;obtain⟨u,rfl,ru⟩:=rv.one;obtain⟨z,EE,n,r,hl,e⟩:=I.lstM hH;refine DL F.slot_list_append ⟨_,e,rfl⟩ F.entry_list_append (F.args_list_append_2 _ _) (PySem.list_append l EE.toArray n u (by rw [AR];omega)) ⟨e,?_⟩;refine⟨.non,_,I.lset (its':=EE++[u]) hH e (by simp) (r.append (.cons ru .nil)) ?_,rfl,q⟩;rw [Ba,List.length_singleton];omega
def xY:V->List V->Hp->VK->Prop:=λx vs H Q=>∃l xs i k y,x=.ref l/\vs=[.int i]/\H l=some (.lst xs)/\-(2 ^ 63)<=i/\i < 2 ^ 63/\seqIndex? i xs.length=some k/\xs[k]?=some y/\Q y (upd H l (.lst (xs.eraseIdx k)))
theorem vQ:QS X "list.pop" xY:=by
 intro pins s σ H x vs v us Q I rx rv h;obtain⟨l,xs,i,k,y,rfl,rfl,hH,h1,h2,hk,hy,q⟩:=h;cases rx;obtain⟨u,rfl,ru⟩:=rv.one;obtain⟨t,rfl⟩:=ru;obtain⟨z,EE,n,r,hl,e⟩:=I.lstM hH;obtain⟨w,hw,GC⟩:=r.get hy;refine DL F.slot_list_pop ⟨_,e,rfl⟩ F.entry_list_pop (F.args_list_pop_2 _ _)
  (MeetsSeq.list_pop_at l EE.toArray n i t k w (fitsIndex_both h1 h2) (by rw [AR,<- hl];exact hk) (by rw [<- BZ];exact hw) (by rw [AR];omega)) ⟨e,?_⟩
 refine⟨y,_,I.lset (its':=EE.eraseIdx k) hH e ?_ (r.eraseIdx k) ?_,GC,q⟩
 ·show EE.toArray.eraseIdxIfInBounds k=(EE.eraseIdx k).toArray
  rw [List.eraseIdxIfInBounds_toArray]
 ·have:=lI xs k
  omega
def yk:V->List V->Hp->VK->Prop:=λx vs H Q=>∃l xs,x=.ref l/\vs=[]/\H l=some (.lst xs)/\Q .non (upd H l (.lst []))
theorem nA:QS X "list.clear" yk:=by
 intro pins s σ H x vs v us Q I rx rv h;obtain⟨l,xs,rfl,rfl,hH,q⟩:=h;cases rx;have Zu:=rv.zero;subst Zu;obtain⟨z,EE,n,r,hl,e⟩:=I.lstM hH;refine DL F.slot_list_clear ⟨_,e,rfl⟩ F.entry_list_clear (F.args_list_clear_1 _) (AutoSeq1.list_clear_list_0 l EE.toArray n (by rw [AR];omega)) ⟨e,?_⟩;exact⟨.non,_,I.lset (its':=[]) (ys:=[]) hH e rfl .nil (Be _),rfl,q⟩
def zB:R2:=λx y H Q=>∃l b xs zs,x=.ref l/\y=.ref b/\H l=some (.lst xs)/\H b=some (.lst zs)/\xs.length + zs.length<=sizeLine/\∀p,H p=none->Q (.ref p) (upd H p (.lst (xs++zs)))
theorem dF:FG X (binaryOp .Add) zB:=by
 intro pins s σ H x y v u Q I rx ry h;obtain⟨l,b,xs,zs,rfl,rfl,hH,hB,hz,q⟩:=h;cases rx;cases ry;obtain⟨z,EE,n,r,hl,e⟩:=I.lstM hH;obtain⟨z2,Gd,n2,r2,MV,e2⟩:=I.lstM hB;refine PySem.P.add_list e e2 ?_ (by rw [AR,AR];omega);have ea:EE.toArray++Gd.toArray=(EE++Gd).toArray:=by simp
 rw [ea];exact⟨.ref _,_,I.lnew (t':=s.toks) (r.append r2) (by rw [Ba];omega),rfl,q _ I.fresh⟩
theorem len_rep {α:Type} (xs:List α) (k:Nat):(List.replicate k xs).flatten.length=k * xs.length:=by
 induction k with
 | zero=>simp
 | succ k ih=>rw [Co,BO,Ba,ih,Nat.succ_mul,Nat.add_comm]
end
section
variable {prog:Program}{w:World}{A:Around}{E:zz9->zz8->Prop}{s:zz8}
end
section
variable {X:Cx}
end
end L2
namespace Xm
open PySem PySem.W PySem.Calls PyProof.Rows
theorem qF {P:Params}{h:Heap}:∀(ns:List Int) (vs:List zz9),WellAll P h vs (ns.map WData.int)->IntsAre vs ns:=by
 intro ns
 induction ns with
 | nil =>
  intro vs w;rw [Dk] at w;cases w;exact .nil
 | cons n ns ih =>
  intro vs w;rw [Bj] at w;cases w with
  | cons a b =>
   cases a;exact .cons _ _ (ih _ b)
theorem uh {l:OpenLaw}{n:Nat} (hn:l.most=some n) {P:Params}{h:Heap}{args:List WData}{vals:List zz9}
  (Kt:l.row.toRowW.claim.pre args=true) (Sb:WellAll P h vals args) :
  ∃a vs ns,vals=[Value.ref a]/\args=[WData.list (ns.map WData.int)]/\h.get? a=some { cls:=.type "list",data:=.seq vs.toArray }/\IntsAre vs ns/\ns.length<=n:=by
 have QA:WShape.hasAll [] args [.list .int]=true:=(pre_splitW Kt).1;have hc:l.pre.holds [] { args:=args }=true:=(pre_splitW Kt).2;obtain⟨d,r,rfl,h1,h2⟩:=hasAllW_cons QA;obtain rfl:=hasAllW_nil h2;obtain⟨xs,rfl,h3⟩:=hasW_list h1;obtain⟨ns,rfl⟩:=items_int h3;have EJ:ns.length<=n:=by
  unfold OpenLaw.pre at hc;have h4:(WTm.not (.lt (.lit (.int (n:Int))) (.len (.arg 0)))).holds [] { args:=[.list (ns.map .int)] }=true:=by
   have h4:=(holds_andW hc).1;rw [hn] at h4;exact h4
  have h5:=condW_of h4 (w_not (w_lt w_lit (w_len_list (w_arg rfl))));rw [Av] at h5;refine Nat.le_of_not_lt λq=>?_;have q':(n:Int) < ((ns.length:Nat):Int):=by omega
  first
   | (rw [decide_eq_true q'] at h5;exact absurd h5 (by decide))
   | (simp at h5;omega)
 cases Sb with
 | cons w1 w2 =>
  cases w2;cases w1 with
  | list ho Gh=>exact⟨_,_,ns,rfl,rfl,ho,qF ns _ Gh,EJ⟩
theorem ua (l:OpenLaw) (args:List WData):l.row.toRowW.claim.post args (.bool true) args=true :=
 postW_of (r:=l.row.toRowW) (X:=(true == true))
  (show WShape.has [] (.bool true) .bool=true by first | rfl | decide | simp [WShape.has,WShape.arms,WShape.armsAll])
  (show (WTm.eq .res (.lit (.bool true))).value [] { args:=args,res:=some (.bool true),after:=args }=some (.bool (true == true)) from w_eq_bool (w_res rfl) w_lit) rfl
theorem Af {l:OpenLaw}{n:Nat}{q:Program}{loose:List Str}{XP:(Str->Option zz9)->Heap->Prop}{YP:World->Heap->Prop}{d:DefRec}
  (hn:l.most=some n) (Pd:d.params.defaults=[])
  (call:∀(w:World) (s₀ s₁:zz8) (mg mb:Str->Option zz9) (fa:Addr) (o:Obj) (pm cd doc:zz9) (a:Addr) (vs:List zz9) (ns:List Int),
   Ground q loose [] XP w s₀ mg mb s₁.heap->YP w s₁.heap ->
   s₁.heap.get? fa=some o->o.data=.func (docDef d.name d.params d.body d.scope pm cd doc)->s₁.heap.CodeRec cd d.name->mg d.name=some (.ref fa) ->
   s₁.heap.get? a=some { cls:=.type "list",data:=.seq vs.toArray }->IntsAre vs ns->ns.length<=n->s₁.gens=#[] ->
   codeAny (model l.prog w) callerA (.call (.ref fa) ⟨[.ref a],[]⟩) (λr s'=>r=.ok (.ret (.bool true))/\OldK s₁.heap s'.heap/\s'.os=s₁.os/\AllBare s'.gens) s₁) :
  WalkO q loose XP YP l.row.toRowW d [] (λf vs=>PySem.call f vs):=by
 intro w s₀ s₁ mg mb G Y fa o pm cd doc dV kV ho hd JF hD MR hg args vals as Kt ZW hrd Sb KC;obtain rfl:dV=.none:=Dflts.none hD Pd;obtain rfl:kV=.none:=Dflts.noKw hD;obtain⟨a,vs,ns,rfl,rfl,ML,hints,EJ⟩:=uh hn Kt Sb;refine enter_call (CJ (call w s₀ s₁ mg mb fa o pm cd doc a vs ns G Y ho (fd_plain hd) JF MR ML hints EJ hg) λr s' hq=>?_);obtain⟨rfl,h2,h3,h4⟩:=hq;exact⟨.inl ⟨.bool true,.bool true,[],rfl,λ_=>rfl,.bool true,ua l _,λ_=>⟨List.Pairwise.nil,λ_ hm=>(nomatch hm)⟩⟩,h2,h3,h4⟩
section
variable {prog:Program}{w:World}{A:Around}{E:zz9->zz8->Prop}{s:zz8}{K:Frag}
end
end Xm
namespace L2
open PySem PySem.Spec PyProof.Rows
theorem me:∀{vs:List zz9}{ns:List Int},IntsAre vs ns->av (ns.map V.int) vs
 | _,_,.nil=>.nil
 | _,_,.cons n t h=>.cons ⟨t,rfl⟩ (me h)
def kF (H:Hp):Prop:=∀b,H b=none\/∃o xs,H b=some (.frz o (.lst xs))
theorem vN {P:Program}{w:World}{K:zz7}{mg mb:Str->Option zz9}{CX:IW}{k:Nat}{fa a:Addr}{fd:FuncData}{x:Str}{sp:Sp}{s₁:zz8}{vs:List zz9}{ns:List Int}
  (KX:K.In s₁.heap) (Hj:s₁.heap.Ns mainGlobals mg) (hb:s₁.heap.Ns builtinsNs mb) (hbb:∀x:Str,x≠"__name__"->mb x=bootBuiltins x) (Ta:s₁.heap.NoLimit) (hg:s₁.gens=#[])
  (ha:s₁.heap.get? a=some { cls:=.type "list",data:=.seq vs.toArray }) (hi:IntsAre vs ns) (hl:ns.length<=sizeLine) (hr:aQ k callerA)
  (F:∀base:Heap,K.In base->base.Ns mainGlobals mg->aD P w K mg base CX k fa fd [x] sp) (Pk:∀(s:zz8) (u:zz9),BindsTo s fd ⟨[u],[]⟩ [(x,u)])
  (LA:∀H:Hp,kF H->EF K H a (ns.map V.int)->sp [.ref a] H (λv _=>v=.bl true) λ_ _ _=>False)
  (Uk:∀H e s',CX [] H s₁ (λ_ _ _=>False) e s'->False) :
  codeAny (model P w) callerA (.call (.ref fa) ⟨[.ref a],[]⟩) (λr s'=>r=.ok (.ret (.bool true))/\OldK s₁.heap s'.heap/\s'.os=s₁.os/\AllBare s'.gens) s₁:=by
 have rv:=me hi;have RN:=hi.length;have core:∀H:Hp,kF H->EF K H a (ns.map V.int)->FB P w H s₁.heap->(∀b,H b≠none->b=a)->(H a≠none->K.lookup a=none) ->
   codeAny (model P w) callerA (.call (.ref fa) ⟨[.ref a],[]⟩) (λr s'=>r=.ok (.ret (.bool true))/\OldK s₁.heap s'.heap/\s'.os=s₁.os/\AllBare s'.gens) s₁:=by
  intro H hO hS hok hA hK;have Io:∀{b:Addr}{o:Obj},s₁.heap.get? b=some o->H b=none->(eN s₁.heap H).get? b=some o:=λe n=>vk e n;have Os:∀{b:Addr}{o:Obj}{es:Array DictEntry}{ep:Nat},s₁.heap.get? b=some o->o.data=.dict es ep->H b=none:=λ{b o es ep} e d=>by
   cases q:H b with
   | none=>rfl
   | some u =>
    have e':b=a:=hA b (by rw [q];simp);subst e';rw [ha] at e;cases e;have d':Data.seq vs.toArray _=Data.dict es ep:=d;cases d'
  have Qr:∀{b:Addr}{m:Str->Option zz9},s₁.heap.Ns b m->(eN s₁.heap H).Ns b m:=λ{b m} ⟨o,es,ep,e,d,r⟩=>⟨o,es,ep,Io e (Os e d),d,r⟩
  have Wy:K.In (eN s₁.heap H):=λb o e=>Io (KX b o e) (by
   cases q:H b with
   | none=>rfl
   | some u =>
    have e':b=a:=hA b (by rw [q];simp);subst e'
    rw [hK (by rw [q];simp)] at e;cases e)
  have hM:Mod K mg (eN s₁.heap H):=⟨Wy,Qr Hj,⟨mb,Qr hb,hbb⟩,let ⟨mc,h1,h2⟩:=Ta;⟨mc,Qr h1,h2⟩⟩
  have e0:jj P w K mg (eN s₁.heap H) callerA [] s₁ H:=⟨rfl,hM,λb o e=>xq e,Nat.le_of_eq (uF _ _),trivial,λb hb=>absurd (show b∈([]:List Addr) from hb) (by simp),hok,.of_eq hg⟩
  refine CJ ((F _ Wy (Qr Hj)).run callerA [] s₁ H ⟨[.ref a],[]⟩ [.ref a] [.ref a] _ _ hr e0 (Pk s₁ (.ref a)) (.cons rfl .nil) (LA H hO hS)) λr s' h=>?_;cases r with
  | error e=>exact (Uk H e s' h).elim
  | ok fl =>
   cases fl with
   | next=>exact False.elim h
   | brk=>exact False.elim h
   | cont=>exact False.elim h
   | ret u =>
    obtain⟨v,H',os,bare,un,SQ,r',q⟩:=h;have q':v=.bl true:=q;subst q';obtain rfl:u=Value.bool true:=r';refine⟨rfl,OldK.of_keep λb o e=>?_,os,bare⟩;cases q:H b with
    | none=>exact un.keep b o e q (by intro z;exact absurd (show b∈([]:List Addr) from z) (by simp)) (by simp)
    | some u =>
     rcases hO b with z | ⟨ob,xs,z⟩
     ·rw [q] at z;cases z
     ·have z2:=un.frzs b ob _ z
      obtain⟨e1,_⟩:=hok b _ z;obtain⟨e2,_⟩:=SQ b _ z2;rw [e] at e1;cases e1;exact e2
 cases hk:K.lookup a with
 | some o =>
  have e:=KX a o hk;rw [ha] at e;cases e;refine core (λ_=>none) (λ_=>.inl rfl) (.inr ⟨_,vs.toArray,_,hk,rfl,rfl,rfl,by rw [AR,RN];exact hl,by simpa using rv⟩) (λb u z=>by have z':(none:Option HO)=some u:=z;cases z') (λb z=>absurd rfl z) λz=>absurd rfl z
 | none =>
  refine core (λb=>if b=a then some (.frz { cls:=.type "list",data:=.seq vs.toArray } (.lst (ns.map V.int))) else none) (λb=>?_) (.inl (.inr ⟨{ cls:=.type "list",data:=.seq vs.toArray },if_pos rfl⟩)) (λb u z=>?_) (λb z=>?_) λ_=>hk
  ·by_cases hb:b=a
   ·exact .inr ⟨_,_,if_pos hb⟩
   ·exact .inl (if_neg hb)
  ·by_cases hb:b=a
   ·have z':=(if_pos hb).symm.trans z
    cases z';subst hb;exact⟨ha,by rw [Av];exact hl,vs,_,rv,ha⟩
   ·have z':=(if_neg hb).symm.trans z
    cases z'
  ·by_cases hb:b=a
   ·exact hb
   ·exact absurd (if_neg hb) z
theorem Ak {l:PySem.W.OpenLaw}{n k:Nat}{q:Program}{loose:List Str}{XP:(Str->Option zz9)->Heap->Prop}{YP:World->Heap->Prop}{d:DefRec}{K:Params->zz7}{CX:World->IW}{sp:World->Sp}{x:Str}
  (hn:l.most=some n) (QB:n<=sizeLine) (Pd:d.params.defaults=[]) (hr:aQ k callerA)
  (hY:∀(w:World) (h:Heap),YP w h->(K w.params).In h)
  (F:∀(w:World) (mg:Str->Option zz9) (fa:Addr) (h:Heap),(K w.params).In h->h.Ns mainGlobals mg->mg d.name=some (.ref fa) ->
   ∃fd:FuncData,(∀(s:zz8) (u:zz9),BindsTo s fd ⟨[u],[]⟩ [(x,u)]) /\
    ∀base:Heap,(K w.params).In base->base.Ns mainGlobals mg->aD l.prog w (K w.params) mg base (CX w) k fa fd [x] (sp w))
  (LA:∀(w:World) (H:Hp) (a:Addr) (ns:List Int),ns.length<=n->kF H->EF (K w.params) H a (ns.map V.int)->sp w [.ref a] H (λv _=>v=.bl true) λ_ _ _=>False)
  (Uk:∀(w:World) (H:Hp) (s:zz8) (e:zz9) (s':zz8),CX w [] H s (λ_ _ _=>False) e s'->False) :
  PySem.W.WalkO q loose XP YP l.row.toRowW d [] (λf vs=>PySem.call f vs):=by
 refine Xm.Af hn Pd λw s₀ s₁ mg mb fa o pm cd doc a vs ns G Y ho hd JF MR ML hints EJ hg=>?_;have KX:=hY w _ Y;obtain⟨fd,hb,hF⟩:=F w mg fa _ KX G.T.g MR;exact vN KX G.T.g G.T.b G.T.builtins G.T.nolimit hg ML hints (AV EJ QB) hr hF hb (λH hO hS=>LA w H a ns EJ hO hS) λH e s'=>Uk w H s₁ e s'
end L2
/- THE abT QL (shape;LID,My.* are UK):
  My.Adr: a structure of UR addresses Xv Xo VA names (classes,NK);My.Txt K t: a structure (Prop) of UR equations over K;
  My.txt_mk:{K}{implicit addresses ..} (e1:nsIn K mainGlobals "law"=some (some (.ref f))) (e2:K.lookup f=some ⟨oc,od,.func (fnOf "law" "law" params body scope dV kV doc pm an Gb ct),sl⟩) (e3:codeIn K Gb "law"=true) ..:∃t,My.Txt K t
set_option maxRecDepth 100000 in
set_option maxHeartbeats 0 in
theorem PySem.Challenge.cw_LID_holds : PySem.Challenge.rw_LID.Holds := by
 w_on;o_law;k_head;(case hw=>w_witness2)
 k_fill
 refine L2.Ak (l:=PySem.Challenge.rw_LID) (n:=63) (k:=40) (x:="script") (CX:=λw=>..) (sp:=λ_=>My.sp_law) rfl (by decide) rfl ⟨rfl,by decide,by decide⟩ (λw h Y=>PySem.W.kIn_of Y) ?F ?S ?C
 case F =>
  intro w mg fa h KX G MR;have T:∃t,My.Txt (L2.KOf KX) t:=by
   dsimp only [L2.KOf]
   refine' My.txt_mk ?e1 ?e2 ?e3 ..
   (case e1=>PySem.W.k_is)
   (case e2=>PySem.W.k_is)
   ..
  obtain⟨t,T⟩:=T;have e0:=MR.symm.trans (Dy KX G T.law);cases e0;exact⟨_,λs u=>.of_eq rfl,λbase kb nb=>My.law_fn T kb nb⟩
 case S=>exact λw H a ns hl hO hS=>..
 case C=>exact ..
(UR tactic k_is has no namespace: write k_is) -/
namespace L2
open PySem PySem.Spec PyProof.Rows
def eV (s:Stmt):Arguments:=match s with
 | .FunctionDef _ a _ _ _ _ _ _ _ _=>a
 | _=>{ posonlyargs:=[],args:=[],vararg:=none,kwonlyargs:=[],kw_defaults:=[],kwarg:=none,defaults:=[] }
def eD (s:Stmt):List Stmt:=match s with
 | .FunctionDef _ _ b _ _ _ _ _ _ _=>b
 | _=>[]
def aC (s:Stmt):Scope:=match s with
 | .FunctionDef _ _ _ _ _ _ sc _ _ _=>sc
 | _=>{ kind:=.function,names:=[],isGenerator:=false,isCoroutine:=false }
abbrev EU:IW:=λ_ _ _ _ _ _=>False
abbrev E0:XK:=λ_ _ _=>False
theorem yJ {X:Cx}:ki EU X E0:=λ_ _ _ _ _ _ _ h=>h.elim
structure EW (K:zz7) (x qual:Str) (st:Stmt) (f:Addr) (fd:FuncData):Prop where
 ex:∃(oc:zz9) (od:Option Addr) (kV doc pm:zz9) (an:Option Addr) (Gb ct:zz9) (Ln:Array (Option zz9)),
  fd=PySem.W.fnOf x qual (eV st) (eD st) (aC st) .none kV doc pm an Gb ct/\K.lookup f=some ⟨oc,od,.func fd,Ln⟩/\PySem.W.codeIn K Gb qual=true
 kp:PySem.W.keepIn K (.ref f)=true
variable {P:Program}{w:World}{K:zz7}{mg:Str->Option zz9}{base:Heap}{f:Addr}{fd:FuncData}
theorem EW.ok {x qual:Str}{st:Stmt}{f:Addr}{fd:FuncData}{N ps:List Str}{k:Nat}{sp:Sp} (F:EW K x qual st f fd) (S:aH N ps (aC st)) (len:∀vs H Q E,sp vs H Q E->vs.length=ps.length)
  (JG:∀(Gb:zz9) (A:Around) (outer:List Env) (s:zz8) (H:Hp) (vs:List V) (Q:VK) (E:XK),aQ k (A.deeper (envOfC qual (aC st) s.heap.objs.size f Gb))->sp vs H Q E ->
   ∃t,Iq (gj EU P w K mg base N qual (aC st) f Gb A outer s H E).nox (eD st) t/\t { nx:=λ_ H'=>Q .non H',rt:=Q } (start N vs) H):aD P w K mg base EU (k + 1) f fd ps sp:=by
 obtain⟨oc,od,kV,doc,pm,an,Gb,ct,Ln,rfl,lk,JF⟩:=F.ex;refine yP lk JF S len λA outer s H vs Q E hr LA=>?_;obtain⟨t,h,q⟩:=JG Gb A outer s H vs Q E hr LA;exact⟨t,h.nox,q⟩
theorem EW.binds {x qual:Str}{st:Stmt}{f:Addr}{fd:FuncData}{ps:List Str} (F:EW K x qual st f fd)
  (h:∀(kV doc pm:zz9) (an:Option Addr) (Gb ct:zz9) (us:List zz9),us.length=ps.length->bindArgs (PySem.W.fnOf x qual (eV st) (eD st) (aC st) .none kV doc pm an Gb ct) ⟨us,[]⟩=pure (ps.zip us)):Binds K fd ps []:=by
 obtain⟨oc,od,kV,doc,pm,an,Gb,ct,Ln,rfl,lk,JF⟩:=F.ex;exact .all (h kV doc pm an Gb ct)
theorem ph {x qual:Str}{st:Stmt}{f:Addr}{oc:zz9}{od an:Option Addr}{Ln:Array (Option zz9)}{kV doc pm Gb ct:zz9} (l:K.lookup f=some ⟨oc,od,.func (PySem.W.fnOf x qual (eV st) (eD st) (aC st) .none kV doc pm an Gb ct),Ln⟩)
  (c:PySem.W.codeIn K Gb qual=true) (k:PySem.W.keepIn K (.ref f)=true):EW K x qual st f (PySem.W.fnOf x qual (eV st) (eD st) (aC st) .none kV doc pm an Gb ct):=⟨⟨oc,od,kV,doc,pm,an,Gb,ct,Ln,rfl,l,c⟩,k⟩
theorem uC {n:Nat} (h:n<=1000):n < sizeLine:=Nat.lt_of_le_of_lt h (by decide)
section
variable {X:Cx}
theorem pv (i:Nat) {x:Str}{pos:Pos} (hN:X.N[i]?=some x:=by rfl) (hv:QJ X.env.scope x:=by first | exact Or.inl rfl | exact Or.inr (Or.inl rfl) | exact Or.inr (Or.inr rfl)) (hd:(x == ("__debug__":Str))=false:=by decide)
  (JF:(x == ("__classdict__":Str))=false:=by decide):PE X (.Name x pos) (jg i):=xR hN hv hd JF
end
theorem aN {A B:Prop} (h:B):if false=true then A else B:=by
 rw [if_neg AX];exact h
theorem bK {A B:Prop} (h:A):if true=true then A else B:=by
 rw [if_pos rfl];exact h
theorem aU {c A B:Prop} [Decidable c] (h1:c->A) (h2:¬ c->B):if c then A else B:=by
 by_cases h:c
 ·rw [if_pos h]
  exact h1 h
 ·rw [if_neg h]
  exact h2 h
theorem fY {c A B:Prop} [Decidable c] (hc:c) (h:B):if (!decide c)=true then A else B:=by
 rw [decide_eq_true hc];exact aN h
def af (H H':Hp):Prop:=∀b o,H b=some o->H' b=some o
theorem af.refl (H:Hp):af H H:=λ_ _ h=>h
theorem af.trans {H H1 H2:Hp} (a:af H H1) (b:af H1 H2):af H H2:=λc o h=>b c o (a c o h)
theorem af.free {H H':Hp} (e:af H H') {l:Addr} (h:H' l=Option.none):H l=Option.none:=by
 cases q:H l with
 | none=>rfl
 | some o =>
  rw [e l o q] at h;cases h
theorem af.seq {K:zz7}{H H':Hp}{a:Addr}{xs:List V} (e:af H H') (h:EF K H a xs):EF K H' a xs:=by
 rcases h with (h | ⟨o,h⟩) | h
 ·exact .inl (.inl (e _ _ h))
 ·exact .inl (.inr ⟨o,e _ _ h⟩)
 ·exact .inr h
def cy (env:Env):List (Str×NameKind)->List (Str×Addr)->List (Str×Addr)
 | [],EL=>EL
 | (x,k)::r,EL=>if (k == NameKind.free)=true then (match env.cells.lookup x with | some c=>cy env r ((x,c)::EL) | none=>cy env r EL) else cy env r EL
theorem iy (env:Env):∀(ns:List (Str×NameKind)) (EL:List (Str×Addr)) (x:Str) (c:Addr),(x,c)∈cy env ns EL->(x,c)∈EL\/env.cells.lookup x=some c
 | [],EL,x,c,h=>.inl h
 | (y,k)::r,EL,x,c,h=>by
  unfold cy at h;split at h
  ·split at h
   ·next d e =>
    rcases iy env r _ x c h with z | z
    ·rcases AI.mp z with q | q
     ·cases q;exact .inr e
     ·exact .inl q
    ·exact .inr z
   ·exact iy env r EL x c h
  ·exact iy env r EL x c h
theorem iG (env:Env):∀(ns:List (Str×NameKind)) (EL:List (Str×Addr)) (p:Str×Addr),p∈EL->p∈cy env ns EL
 | [],EL,p,h=>h
 | (y,k)::r,EL,p,h=>by
  unfold cy;split
  ·split
   ·exact iG env r _ p (AN _ h)
   ·exact iG env r _ p h
  ·exact iG env r _ p h
theorem iF (env:Env):∀(ns:List (Str×NameKind)) (EL:List (Str×Addr)) (x:Str) (c:Addr),(x,NameKind.free)∈ns->env.cells.lookup x=some c->(x,c)∈cy env ns EL
 | [],EL,x,c,h,_=>nomatch h
 | (y,k)::r,EL,x,c,h,e=>by
  unfold cy
  rcases AI.mp h with q | q
  ·cases q
   rw [if_pos (show (NameKind.free == NameKind.free)=true from rfl),e];exact iG env r _ _ AJ
  ·split
   ·split
    ·exact iF env r _ x c q e
    ·exact iF env r _ x c q e
   ·exact iF env r _ x c q e
theorem vy {l:List (Str×Addr)}{x:Str}{c:Addr} (h:(x,c)∈l):∃d,l.lookup x=some d:=by
 induction l with
 | nil=>cases h
 | cons p r ih =>
  obtain⟨y,d⟩:=p;rw [CV];cases hx:x == y with
  | true=>exact⟨d,rfl⟩
  | false =>
   rcases AI.mp h with q | q
   ·cases q
    rw [beq_self_eq_true] at hx;cases hx
   ·exact ih q
theorem dk {env:Env}{ns:List (Str×NameKind)}{x:Str}{c:Addr} (h:(cy env ns []).lookup x=some c):env.cells.lookup x=some c:=by
 rcases iy env ns [] x c (Cn h) with z | z
 ·cases z
 ·exact z
theorem mw {env:Env}{ns:List (Str×NameKind)}{x:Str}{c:Addr} (h:(x,NameKind.free)∈ns) (e:env.cells.lookup x=some c):(cy env ns []).lookup x=some c:=by
 obtain⟨d,q⟩:=vy (iF env ns [] x c h e);rw [q,<- dk q,e]
theorem sY {env:Env}{scope:Scope} (h:∀x∈scope.names,x.2=NameKind.free->∃c,env.cells.lookup x.1=some c):closureFor scope env=pure (cy env scope.names []):=by
 have go:∀(ns:List (Str×NameKind)) (EL:List (Str×Addr)),(∀x∈ns,x.2=NameKind.free->∃c,env.cells.lookup x.1=some c) ->
   (forIn ns EL (λx cs=>match x with | (name,kind)=>if (kind == NameKind.free)=true then (do let c <- cellOf env name;pure (ForInStep.yield ((name,c)::cs))) else pure (ForInStep.yield cs)):Sem (List (Str×Addr)))=pure (cy env ns EL):=by
  intro ns
  induction ns with
  | nil=>intro EL _;rfl
  | cons p r ih =>
   intro EL hh;obtain⟨y,k⟩:=p;rw [List.forIn_cons];unfold cy
   by_cases hk:(k == NameKind.free)=true
   ·rw [if_pos hk]
    obtain⟨c,e⟩:=hh (y,k) AJ (by cases k <;> first | rfl | cases hk)
    dsimp only at e ⊢
    rw [if_pos hk];unfold cellOf;rw [e];exact ih _ λx hx=>hh x (AN _ hx)
   ·rw [if_neg hk]
    dsimp only
    rw [if_neg hk];exact ih _ λx hx=>hh x (AN _ hx)
 unfold closureFor;have q:=go scope.names [] h;simp only [bind_pure];exact q
def aw (X:Cx) (scope:Scope) (N:List Str) (C:Addr) (s0:zz8) (H0:Hp) (fp:List Addr):Cx :=
 { X with N:=N,s₀:=s0,H₀:=H0,env:=compEnvC scope (cy X.env scope.names []) C X.env,outer:=X.stack,stack:=X.stack,ex:=fp,fn:=λ_=>false,pn:=[],xe:=λ_ _=>False }
def GW (ix:List (Option Nat)) (σ:St):St:=ix.map λo=>match o with | none=>none | some j=>(σ[j]?).join
def i8 (No:List Str) (out:Str->Option NameKind) (scope:Scope) (N:List Str) (ix:List (Option Nat)):Bool :=
 (N.length == ix.length) && (N.zip ix).all λp=>match p.2 with | none=>true | some j=>(No[j]? == some p.1) && (scope.names.lookup p.1 == some NameKind.free) && ((out p.1 == some .cell) || (out p.1 == some .free))
structure bX (X:Cx) (scope:Scope) (N:List Str) (ix:List (Option Nat)):Prop where
 kind:scope.kind=.function
 names:scope.names.all (λx=>(x.2 != .cell) && ((x.2 != .local) || (scope.names.lookup x.1 == some .local)) && ((x.2 != .free) || (X.env.kindOf x.1 == some .cell) || (X.env.kindOf x.1 == some .free)))=true
 em:i8 X.N X.env.kindOf scope N ix=true
 nd:N.Nodup
theorem kC {scope:Scope}{env:Env}{x:Str}{k:NameKind}:∀{ns:List (Str×NameKind)},(ns.map λ(n,k)=>if (k == NameKind.free && env.scope.kind == .function && env.kindOf n == some .cell)=true then (n,NameKind.cell) else (n,k)).lookup x=some k ->
  (k=.cell\/k=.free)->(∀y∈ns,y.2≠.cell)->(x,NameKind.free)∈ns
 | [],h,_,_=>by cases h
 | (n,k')::r,h,hk,hc=>by
  have ih:=λh'=>kC (scope:=scope) (env:=env) (x:=x) (k:=k) (ns:=r) h' hk λy hy=>hc y (AN _ hy);have key:∀Qu:NameKind,List.lookup x ((n,Qu)::(r.map λ(n,k)=>if (k == NameKind.free && env.scope.kind == .function && env.kindOf n == some .cell)=true then (n,NameKind.cell) else (n,k)))=some k ->
    (Qu=k'\/(Qu=.cell/\k'=.free))->(x,NameKind.free)∈(n,k')::r:=λQu h hq=>by
   rw [CV] at h;cases hx:x == n with
   | true =>
    rw [hx] at h;cases h;have e:x=n:=eq_of_beq hx;subst e
    rcases hq with q | ⟨_,q⟩
    ·rcases hk with z | z
     ·exact absurd (q.symm.trans z) (hc (x,k') AJ)
     ·rw [<- q,z];exact AJ
    ·rw [q];exact AJ
   | false =>
    rw [hx] at h;exact AN _ (ih h)
  rw [Bj] at h
  dsimp only at h
  split at h
  ·next hh =>
   refine key _ h (.inr ⟨rfl,?_⟩);cases k' <;> first | rfl | (simp at hh)
  ·exact key _ h (.inl rfl)
theorem pN {env:Env}{x:Str}:∀{ns:List (Str×NameKind)},ns.lookup x=some NameKind.free->∃k,(k=NameKind.cell\/k=NameKind.free) /\
  (ns.map λ(n,k)=>if (k == NameKind.free && env.scope.kind == .function && env.kindOf n == some .cell)=true then (n,NameKind.cell) else (n,k)).lookup x=some k
 | [],h=>by cases h
 | (n,k')::r,h=>by
  rw [CV] at h;rw [Bj]
  dsimp only
  cases hx:x == n with
  | true =>
   rw [hx] at h;cases h;split
   ·exact⟨_,.inl rfl,by rw [CV,hx]⟩
   ·exact⟨_,.inr rfl,by rw [CV,hx]⟩
  | false =>
   rw [hx] at h;obtain⟨k,hk,e⟩:=pN (env:=env) (ns:=r) h;refine⟨k,hk,?_⟩;split <;> (rw [CV,hx];exact e)
section
variable {X:Cx}{scope:Scope}{N:List Str}{ix:List (Option Nat)}
theorem bX.nocell (L:bX X scope N ix):∀x∈scope.names,x.2≠.cell:=λx hx z=>by
 have q:=B4.mp L.names x hx;rw [z] at q;simp at q
theorem bX.locals (L:bX X scope N ix):∀x∈scope.names,x.2=.local->scope.names.lookup x.1=some .local:=λx hx z=>by
 have q:=B4.mp L.names x hx;rw [z] at q;simpa using q
theorem bX.frees (L:bX X scope N ix):∀x∈scope.names,x.2=.free->X.env.kindOf x.1=some .cell\/X.env.kindOf x.1=some .free:=λx hx z=>by
 have q:=B4.mp L.names x hx;rw [z] at q;simpa using q
theorem bX.clos (L:bX X scope N ix) (ok:X.Ok):closureFor scope X.env=pure (cy X.env scope.names []) :=
 sY λx hx z=>ok.has _ (L.frees x hx z)
theorem bX.len (L:bX X scope N ix):N.length=ix.length:=by
 have q:=L.em;unfold i8 at q;rw [BL] at q;exact eq_of_beq q.1
theorem bX.out (L:bX X scope N ix) {i j:Nat}{x:Str} (h1:N[i]?=some x) (h2:ix[i]?=some (some j)):X.N[j]?=some x/\scope.names.lookup x=some NameKind.free/\(X.env.kindOf x=some .cell\/X.env.kindOf x=some .free):=by
 have q:=L.em;unfold i8 at q;rw [BL] at q;have hz:(N.zip ix)[i]?=some (x,some j):=by
  rw [List.getElem?_zip_eq_some];exact⟨h1,h2⟩
 have r:=B4.mp q.2 _ (AB hz);simp only [BL,Bool.or_eq_true,beq_iff_eq] at r;exact⟨r.1.1,r.1.2,r.2⟩
theorem yY (L:bX X scope N ix) {pins:List (Addr×Obj)}{σ:St}{H2:Hp}{s2:zz8}{C:Addr}{fp:List Addr} (I2:Inv X pins σ H2 s2) (hC:s2.heap.objs.size<=C) (hf:∀b∈fp,bR X pins H2 b) (hb:∀b∈fp,b < s2.heap.objs.size) :
  (aw X scope N C s2 H2 fp).Ok where
 mod:=I2.ok.mod
 kind:=L.kind
 glob:=I2.ok.glob
 blt:=I2.ok.blt
 above:=hC
 inj:=λx y c h1 h2=>I2.ok.inj x y c (dk h1) (dk h2)
 has:=λx hx=>by
  have hm:(x,NameKind.free)∈scope.names:=by
   rcases hx with hx | hx
   ·exact kC (scope:=scope) (env:=X.env) hx (.inl rfl) L.nocell
   ·exact kC (scope:=scope) (env:=X.env) hx (.inr rfl) L.nocell
  obtain⟨c,e⟩:=I2.ok.has x (L.frees _ hm rfl);exact⟨c,mw hm e⟩
 cab:=λx c h _=>Bool.noConfusion h
 hd:=I2.ok.hd
 frames:=I2.ok.frames
 stk:=.inl rfl
 exf:=λb h=>⟨Bh (Bk (hb b h) hC),λx c e=>(hf b h).2.2.2.2.1 x c (dk e)⟩
 bs:=λb o e=>I2.bs b o e
 bsz:=AV I2.ok.bsz I2.sz
 noex:=λb o e h=>by
  rcases (hf b h).2.2.2.1 with z | z
  ·exact I2.ok.noex b o e z
  ·exact absurd (Bk (AQ e) (AV I2.ok.bsz z)) (BI _)
 exfs:=λb h z=>(AI.mp (I2.stkSub b z)).elim (hf b h).2.1 (hf b h).2.2.1
 funs:=I2.stack
 frf:=λb h=>I2.stkFree b h
end
def HS (X:Cx) (ifs:List Expr) (t:TT):Prop :=
 ∀(pins:List (Addr×Obj)) (s:zz8) (σ:St) (H:Hp) (Q:Bool->Hp->Prop),Inv X pins σ H s->t σ H Q ->
  wpAny (model X.prog X.w) X.A (forIn ifs true λc r=>if r=true then do let ok <- isTrue c X.env (eval c X.env);pure (ForInStep.yield ok) else pure (ForInStep.yield r)) (TP X pins σ Q) X.xe s
def cG:TT:=λ_ H Q=>Q true H
theorem bz {X:Cx}:HS X [] cG:=λ_ _ _ H _ I h=>wpAny_tests_nil ⟨H,I,h⟩
theorem bL {X:Cx}{c:Expr}{t:TT} (h:PT X c t):HS X [c] t:=λpins s σ H Q I q=>wpAny_tests_one (h pins s σ H Q I q)
section
variable {prog:Program}{w:World}{A:Around}{R:Result->zz8->Prop}{s:zz8}
theorem xw {elt tg iter:Expr}{ifs:List Expr}{scope:Scope}{pos:Pos}{it EL:zz9}{env:Env} (J:Nat->zz8->Prop)
  (turn:∀n s,J n s->wpAny (model prog w) A (pyNext it) (λr s1=>match r with
   | none=>R (.ok .next) s1
   | some v=>wpAny (model prog w) A (letOwnedTupleGo tg it v) (λ_ s2=>wpAny (model prog w) A (assign tg env v) (λ_ s3 =>
     wpAny (model prog w) A (forIn ifs true λc r=>if r=true then do let ok <- isTrue c env (eval c env);pure (ForInStep.yield ok) else pure (ForInStep.yield r)) (λok s4 =>
      if ok=true then wpAny (model prog w) A (eval elt env) (λx s5=>wpAny (model prog w) A (call (.builtin "list.append") [EL,x]) (λ_ s6=>∃m,m < n/\J m s6) (λ_ _=>False) s5) (λ_ _=>False) s4
      else ∃m,m < n/\J m s4) (λ_ _=>False) s3) (λ_ _=>False) s2) (λ_ _=>False) s1) (λ_ _=>False) s)
  (n:Nat) (h:J n s):codeAny (model prog w) A (.compLoop (.ListComp elt [⟨tg,iter,ifs,0⟩] scope pos) 0 it EL env) R s:=by
 refine Ez rfl J (λk t hJ=>?_) n h;show wpAny _ A ((compTurn (.ListComp elt [⟨tg,iter,ifs,0⟩] scope pos) 0 it EL env).onRaise (λx=>do noteFrame x env;theTreesLotGoes x)) _ _ t;refine wpAny_noted (BW (E:=λ_ _=>False) ?_ (λ_ _ q=>q) λ_ _ f=>f.elim);rw [compTurn_list];refine Aw (B7 (Aw (EI (turn k t hJ) λr s1 h1=>?_)));cases r with
 | none=>exact Az h1
 | some v =>
  refine Aw (EI h1 λ_ s2 h2=>Aw (EI h2 λ_ s3 h3=>Aw (EI h3 λok s4 h4=>?_)));cases ok with
  | false=>exact Az ⟨rfl,h4⟩
  | true=>exact Aw (Aw (EI h4 λx s5 h5=>Aw (EI h5 λ_ s6 h6=>Az (Az ⟨rfl,h6⟩))))
end
def Hl (J:It) (g:TG) (tt:TT) (te:TE) (σ':St) (fin:List V->Hp->Prop) (H1:Hp):Prop :=
 ∃W:Nat->Nat->List V->St->Hp->Prop,(∃m,W 0 m [] σ' H1)/\∀i m ys σ H,W i m ys σ H ->
  (J.stop i H/\ys.length<=sizeLine/\fin ys H)\/(J.go i H/\ys.length < sizeLine/\∃Nx:List V->St->Hp->Prop,(∀FQ σ' H',Nx FQ σ' H'->∃m',m' < m/\W (i + 1) m' FQ σ' H') /\
   ∀x H',J.yld i H x H'->g x σ H' λσ2 H2=>tt σ2 H2 λb H3=>if b=true then te σ2 H3 (λv H4=>Nx (ys++[v]) σ2 H4) else Nx ys σ2 H3)
def Xz (wi:TI) (g:TG) (tt:TT) (te:TE) (ix:List (Option Nat)):TE:=λσ H Q=>wi σ H λJ H1=>Hl J g tt te (GW ix σ) (λys H'=>∀p,H' p=none->Q (.ref p) (upd H' p (.lst ys))) H1
section
variable {X:Cx}{scope:Scope}{N:List Str}{ix:List (Option Nat)}
theorem oV {pins pins':List (Addr×Obj)}{σ σ':St}{H2 H':Hp}{s2 s':zz8}{C D:Addr}{fp:List Addr}{ys:List V}{EE:List zz9}{k:Nat}{h':Heap} (I2:Inv X pins σ H2 s2) (hf:∀b∈fp,bR X pins H2 b)
  (I':Inv (aw X scope N C s2 H2 fp) pins' σ' H' s') (hC:s2.heap.objs.size<=C) (hD:s2.heap.objs.size<=D) (GR:D≠C) (hn:H' D=none) (ho:s'.heap.get? D=some { cls:=.type "list",data:=.seq EE.toArray k }) (rv:av ys EE) (hz:ys.length<=sizeLine)
  (hs:∀b o,b≠C->s'.heap.get? b=some o->h'.get? b=some o):Inv X pins σ (upd H' D (.lst ys)) { s' with heap:=h' }:=by
 have B:Un (HI X.stack) fp H2 H' s2.heap s'.heap:=I'.base;have IQ:∀b o,s2.heap.get? b=some o->b≠C:=λb o e=>Bh (Bk (AQ e) hC);have Yf:∀b o,s2.heap.get? b=some o->b≠D:=λb o e=>Bh (Bk (AQ e) hD);have Ui:H' C=none:=I'.free;have tD:∀b u,H' b=some u->b≠D:=λb u e=>aR e hn;have tC:∀b u,H' b=some u->b≠C:=λb u e=>aR e Ui;refine I2.call' (s':={ s' with heap:=h' }) (ch:=fp) I'.os ⟨λb o e n hb hx=>?_,λb o e n hb hx=>?_,λb o e n hx=>?_,λb o e hx=>?_,λb xs e=>?_,λb o u e=>?_,λb ps e=>?_⟩ (λb u e=>?_) I'.bare λb hb=>⟨(hf b hb).2.2.2.1,(hf b hb).2.1,(hf b hb).2.2.2.2.1,(hf b hb).2.2.2.2.2⟩
 ·exact hs b o (IQ b o e) (B.keep b o e n hb hx)
 ·obtain⟨sl,q⟩:=B.slot b o e n hb hx
  exact⟨sl,hs b _ (IQ b o e) q⟩
 ·rw [ao (Yf b o e)];exact B.free b o e n hx
 ·obtain⟨o',q⟩:=B.there b o e hx
  exact⟨o',hs b o' (IQ b o e) q⟩
 ·rw [ao (tD b _ (B.tups b xs e))];exact B.tups b xs e
 ·rw [ao (tD b _ (B.frzs b o u e))];exact B.frzs b o u e
 ·obtain⟨m,q⟩:=B.tbls b ps e
  exact⟨m,by rw [ao (tD b _ q)];exact q⟩
 ·by_cases hb:b=D
  ·subst hb
   rw [ag] at e;cases e;exact⟨hz,EE,k,rv,hs b _ GR ho⟩
  ·rw [ao hb] at e
   refine (I'.hok b u e).stay (λc v hc q=>hs c v ?_ q) (λc q=>by rw [ao (tD c _ q)];exact q) λc xs q=>by rw [ao (tD c _ q)];exact q
   rcases hc with z | z
   ·rw [z];exact tC b u e
   ·exact tC c _ z
theorem i7 (L:bX X scope N ix) {pins:List (Addr×Obj)}{σ:St}{H2:Hp}{s2:zz8}{C:Addr}{fp:List Addr}{h1:Heap}{tk:Nat}{m:Str->Option zz9} (I2:Inv X pins σ H2 s2) (hC:s2.heap.objs.size<=C) (hf:∀b∈fp,bR X pins H2 b) (hb:∀b∈fp,b < s2.heap.objs.size)
  (kp:∀b o,s2.heap.get? b=some o->h1.get? b=some o) (hn:h1.Ns C m):Inv (aw X scope N C s2 H2 fp) [] (GW ix σ) H2 { s2 with heap:=h1,toks:=tk }:=by
 refine⟨yY L I2 hC hf hb,rfl,I2.bare,Un.kept kp,⟨m,hn,λi x v e1 e2 e3=>?_⟩,λx c e=>?_,I2.hok.fresh hC,λx c e=>I2.freeC x c (dk e),λp hp=>absurd (show p∈([]:List (Addr×Obj)) from hp) (by simp),I2.hok.kept kp,?_⟩
 ·unfold GW at e2
  rw [AH] at e2;cases q:ix[i]? with
  | none=>rw [q] at e2;cases e2
  | some o =>
   rw [q] at e2;cases o with
   | none=>cases e2
   | some j =>
    have KN:(σ[j]?).join=some v:=Bx e2;have e4:σ[j]?=some (some v):=by
     cases z:σ[j]? with
     | none=>rw [z] at KN;cases KN
     | some y=>rw [z] at KN;exact congrArg some KN
    obtain⟨a1,a2,a3⟩:=L.out e1 q;obtain⟨mo,_,hl⟩:=I2.loc;obtain⟨u,r,lk⟩:=hl j x v a1 e4 (.inr a3);refine⟨u,r,?_⟩
    rcases lk with ⟨k,_⟩ | ⟨k,c,e,o,ho,hd⟩
    ·rcases a3 with z | z
     ·rw [z] at k;cases k
     ·rw [z] at k;cases k
    ·obtain⟨k',Z1,e'⟩:=pN (env:=X.env) a2
     refine .inr ⟨?_,c,mw (Cn a2) e,o,kp _ _ ho,hd⟩
     rcases Z1 with z | z
     ·subst z;exact .inl e'
     ·subst z;exact .inr e'
 ·obtain⟨v,o,ho,hd⟩:=I2.cell x c (dk e)
  exact⟨v,o,kp _ _ ho,hd⟩
 ·unfold GW
  rw [Av];exact L.len.symm
variable {tg iter elt:Expr}{ifs:List Expr}{pos:Pos}{g:TG}{tt:TT}{te:TE}
theorem pH (L:bX X scope N ix) (hc:X.calm=true) (hg:∀C s0 H0 fp,PG (aw X scope N C s0 H0 fp) tg g) (ht:∀C s0 H0 fp,HS (aw X scope N C s0 H0 fp) ifs tt) (he:∀C s0 H0 fp,PE (aw X scope N C s0 H0 fp) elt te)
  {pins:List (Addr×Obj)}{σ:St}{H2:Hp}{s2:zz8}{it:Addr}{fp:List Addr}{tn:Nat->Heap->Prop}{J:It}{fin:List V->Hp->Prop}{E:zz9->zz8->Prop}{RR:zz9->Addr->Result->zz8->Prop}
  (I2:Inv X pins σ H2 s2) (T:Turn X.prog X.w X.K tg J fp it tn) (st:tn 0 s2.heap) (f2:∀b∈fp,bR X pins H2 b) (hW:Hl J g tt te (GW ix σ) fin H2)
  (M6:∀D C s' m ys H',s'.heap.Ns C m->s'.os=s2.os->D≠C->bR X pins (upd H' D (.lst ys)) C->(∀h',Heap.SameBut C s'.heap h'->Inv X pins σ (upd H' D (.lst ys)) { s' with heap:=h' })->H' D=none->fin ys H'->RR (.ref D) C (.ok .next) s') :
  wpAny (model X.prog X.w) X.A (newList []) (λEL s3=>wpAny (model X.prog X.w) X.A (newFunctionEnv scope X.env.globals (cy X.env scope.names []) [] X.env.qual none .none (some X.env)) (λGF s4 =>
   codeAny (model X.prog X.w) X.A (.compStart (.ListComp elt [⟨tg,iter,ifs,0⟩] scope pos) 0 (.ref it) EL { GF with scope:=relabel scope X.env }) (RR EL GF.locals) s4) E s3) E s2:=by
 obtain⟨W,⟨m0,w0⟩,turn⟩:=hW;have IE:∀b∈fp,b < s2.heap.objs.size:=λb hb=>by
  obtain⟨o,e,_⟩:=T.obj _ _ st b hb;exact AQ e
 refine Bp (C6 L.nocell (by intro y hy;simp at hy) (λh1 Hj Hq=>?_) L.kind)
 dsimp only at Hj Hq ⊢
 generalize hG:s2.heap.push { cls:=.type "list",dict:=none,data:=.seq ([]:List zz9).toArray }=G at Hj Hq ⊢;have JJ:G.objs.size=s2.heap.objs.size + 1:=by rw [<- hG,B0]
 generalize M7:s2.heap.objs.size=D at JJ IE;generalize IF:G.objs.size=C at JJ Hj Hq ⊢;have GR:D≠C:=by omega
 have nq:∀b:Nat,b < s2.heap.objs.size->b≠C/\b≠D:=λb h=>⟨by omega,by omega⟩
 have Mj:∀b∈fp,b≠C/\b≠D:=λb hb=>nq b (by rw [M7];exact IE b hb);have kG:∀b o,s2.heap.get? b=some o->G.get? b=some o:=λb o e=>by rw [<- hG];exact AA _ e
 have kp:∀b o,s2.heap.get? b=some o->h1.get? b=some o:=λb o e=>Hq.extBut b o (nq b (AQ e)).1 (AA _ (kG b o e));have oD:∃n,h1.get? D=some { cls:=.type "list",data:=.seq ([]:List zz9).toArray n }:=⟨_,Hq.extBut _ _ GR (AA _ (by rw [<- hG,<- M7];exact AS _ rfl))⟩
 have I4:=i7 L (tk:=s2.toks + ([]:List (Str×zz9)).length) I2 (C:=C) (by omega) f2 (by rw [M7];exact IE) kp Hj;have HK:tn 0 h1:=T.keep _ _ _ st λb _ o e=>kp b o e;have NI:D∉(aw X scope N C s2 H2 fp).fs:=λz=>by
  have z':D∈HI X.stack:=z
  rcases AI.mp (I2.stkSub D z') with q | q
  ·exact (nq _ I2.lt).2 q.symm
  ·exact I2.nofs (a:=D) (by omega) q
 have HC:∀x c,(aw X scope N C s2 H2 fp).env.cells.lookup x=some c->c≠D:=λx c e z=>by
  obtain⟨v,o,ho,_⟩:=I2.cell x c (dk e);exact (nq c (AQ ho)).2 z
 have stat:∀{H':Hp}{pl:List (Addr×Obj)},(∀b∈fp,H' b=none)->(∀p∈pl,p.1=D)->∀b∈fp,bR (aw X scope N C s2 H2 fp) pl H' b:=λ{H' pl} hn hp b hb=>by
  have EM:=IE b hb;refine⟨hn b hb,(Mj b hb).1,λz=>?_,.inl hb,λx c e=>(f2 b hb).2.2.2.2.1 x c (dk e),λp hq z=>?_⟩
  ·exact (AI.mp (I2.stkSub b z)).elim (f2 b hb).2.1 (f2 b hb).2.2.1
  ·have HF:p∈pl:=by simpa [aw] using hq
   exact (Mj b hb).2 (z.symm.trans (hp p HF))
 have Kj:∀{pl:List (Addr×Obj)}{σ':St}{H':Hp}{s':zz8}{o:Obj},Inv (aw X scope N C s2 H2 fp) pl σ' H' s'->s'.heap.get? D=some o->H' D=none->(∀v,o.data≠.cell v)->Inv (aw X scope N C s2 H2 fp) [(D,o)] σ' H' s' :=
  λ{pl σ' H' s' o} I' ho hn hd=>I'.pins_of λp hp=>by
   have e:p=(D,o):=by simpa using hp
   subst e;exact⟨ho,hn,GR,NI,hd⟩
 have loop:∀s4:zz8,s4={ s2 with heap:=h1,toks:=s2.toks + ([]:List (Str×zz9)).length } ->
   codeAny (model X.prog X.w) X.A (.compLoop (.ListComp elt [⟨tg,iter,ifs,0⟩] scope pos) 0 (.ref it) (.ref D) (aw X scope N C s2 H2 fp).env) (RR (.ref D) C) s4:=by
  rintro s4 rfl;refine xw (λn s'=>∃i σ' H' ys EE k,Inv (aw X scope N C s2 H2 fp) [(D,{ cls:=.type "list",data:=.seq EE.toArray k })] σ' H' s'/\tn i s'.heap/\(∀b∈fp,H' b=none)/\av ys EE/\W i n ys σ' H') ?_ m0 ?_
  ·rintro n s' ⟨i,σ',H',ys,EE,k,I',Fb,Im,rv,w'⟩
   have hD':=I'.pin _ (AK _ AJ)
   rcases turn i n ys σ' H' w' with ⟨stop,hz,qf⟩ | ⟨go,hz,Nx,hN,step⟩
   ·refine EI (T.done (aw X scope N C s2 H2 fp) rfl rfl rfl hc i _ s' σ' H' _ I' (stat Im (by simp)) Fb stop) λr s5 ⟨hr,I5⟩=>?_
    subst hr;have M9:=I5.pin _ (AK _ AJ);obtain⟨m5,KA,_⟩:=I5.loc;refine M6 D C s5 m5 ys H' KA I5.os GR (I2.fpOk (by omega) (by rw [ao (Cc GR)];exact I5.free)) (λh' FO=>?_) M9.2.1 qf;exact oV I2 f2 I5 (by omega) (by omega) GR M9.2.1 M9.1 rv hz λb o hb e=>FO.extBut b o hb e
   ·refine EI (T.item (aw X scope N C s2 H2 fp) rfl rfl rfl hc i _ s' σ' H' _ I' (stat Im (by simp)) Fb go) λr s5 ⟨u,hr,h5⟩=>?_
    subst hr;refine EI h5 λ_ s6 ⟨x,H6,I6,r6,y6,GL,KL⟩=>?_;have KS:=I6.pinned (stat KL (by simp)) (T.obj _ _ GL);refine EI (hg C s2 H2 fp _ s6 σ' H6 x u _ KS r6 (step x H6 y6)) λ_ s7 ⟨σ7,H7,I7,q7⟩=>?_;refine EI (ht C s2 H2 fp _ s7 σ7 H7 _ I7 q7) λok s8 ⟨H8,I8,q8⟩=>?_;have back:∀{H9:Hp}{s9:zz8},Inv (aw X scope N C s2 H2 fp) ([(D,{ cls:=.type "list",data:=.seq EE.toArray k })]++df fp s6.heap) σ7 H9 s9->tn (i + 1) s9.heap/\∀b∈fp,H9 b=none:=λ{H9 s9} I9=>by
     refine⟨T.keep _ _ _ GL λb hb o e=>(I9.pin (b,o) (AK _ (AK _ (cV hb e)))).1,λb hb=>?_⟩;obtain⟨o,e,d⟩:=T.obj _ _ GL b hb;exact (I9.pin (b,o) (AK _ (AK _ (cV hb e)))).2.1
    cases ok with
    | false =>
     rw [if_neg AX] at q8 ⊢;obtain⟨m',hm,w8⟩:=hN _ _ _ q8;obtain⟨Ke,KJ⟩:=back I8;exact⟨m',hm,i + 1,σ7,H8,ys,EE,k,I8.unpinned,Ke,KJ,rv,w8⟩
    | true =>
     rw [if_pos rfl] at q8 ⊢;refine EI (he C s2 H2 fp _ s8 σ7 H8 _ I8 q8) λy s9 ⟨v,H9,I9,r9,q9⟩=>?_;have M8:=I9.pin _ (AK _ (AZ _ AJ));obtain⟨Q2,Um⟩:=back I9;refine wpAny_list_append_plain (hsz:=by have:=rv.length;rw [AR];omega) ⟨k,M8.1⟩ λh' Gw FO=>?_;obtain⟨m',hm,w9⟩:=hN _ _ _ q9;obtain⟨k',Hi⟩:=Gw;have IV:Inv (aw X scope N C s2 H2 fp) [] σ7 H9 { s9 with heap:=h' }:=(I9.pins_of (pins':=[]) λp hp=>absurd hp (by simp)).turned (t':=s9.toks) (it:=D) (λb o hb e=>FO.extBut b o hb e) M8.2.1 GR (.inr (by show s2.heap.objs.size<=D;omega)) HC (λp hp=>absurd hp (by simp [aw]));refine⟨m',hm,i + 1,σ7,H9,ys++[v],EE++[y],k',Kj IV (by rw [Hi];simp) M8.2.1 (λv z=>by cases z),?_,Um,rv.append (.cons r9 .nil),w9⟩;exact T.keep _ _ _ Q2 λb hb o e=>FO.extBut b o (Mj b hb).2 e
  ·obtain⟨n,e⟩:=oD
   exact⟨0,GW ix σ,H2,[],[],n,Kj I4 e (I2.hok.fresh (by omega)) (λv z=>by cases z),HK,λb hb=>(f2 b hb).1,.nil,w0⟩
 have q:=loop _ rfl;exact codeAny_compStart_list q (T.self _ 0 _ _ _ HK q)
end
theorem ip {ss:List Str}:∀{us:List zz9},av (ss.map V.str) us->StrsAre us ss:=by
 induction ss with
 | nil=>intro us r;rw [Dk] at r;cases r;exact .nil
 | cons n ns ih =>
  intro us r;rw [Bj] at r;cases r with
  | cons r1 r2 =>
   obtain⟨t,e⟩:=r1;subst e;exact .cons n t (ih r2)
theorem iz:∀{vs:List zz9}{ss:List Str},StrsAre vs ss->av (ss.map V.str) vs
 | _,_,.nil=>.nil
 | _,_,.cons n t h=>.cons ⟨t,rfl⟩ (iz h)
section
variable {X:Cx}
variable {scope:Scope}{N:List Str}{ix:List (Option Nat)}{tg iter elt:Expr}{ifs:List Expr}{pos:Pos}{g:TG}{tt:TT}{te:TE}{wi:TI}
theorem aZ (L:bX X scope N ix) (hc:X.calm=true) (hi:PI X tg iter wi) (hg:∀C s0 H0 fp,PG (aw X scope N C s0 H0 fp) tg g) (ht:∀C s0 H0 fp,HS (aw X scope N C s0 H0 fp) ifs tt) (he:∀C s0 H0 fp,PE (aw X scope N C s0 H0 fp) elt te)
  (hs:∀x,foldedSetIterable iter X.env x=pure x:=by intro _;rfl):PE X (.ListComp elt [⟨tg,iter,ifs,0⟩] scope pos) (Xz wi g tt te ix):=by
 intro pins s σ H Q I h;rw [eval_ListComp];refine Cd (use:=none) rfl hs (L.clos I.ok) L.kind L.locals (EI (hi pins s σ H _ I h) λv s1 h1=>EI h1 λLq s2 h2=>?_);obtain⟨it,fp,tn,J,H2,rfl,I2,T,Gy,f2,hW⟩:=h2;refine pH (RR:=λEL C=>compPost (model X.prog X.w) X.A X.xe none (EP X pins σ Q) EL C) L hc hg ht he I2 T Gy f2 hW ?_;intro D C s' m ys H' hn ho GR hC hI hD fin;exact⟨m,hn,λh' FO=>⟨.ref D,_,hI h' FO,rfl,fin D hD⟩⟩
def pC (i:Nat) (wi:TI) (g:TG) (tt:TT) (te:TE) (ix:List (Option Nat)):TS:=λD σ H=>wi σ H λJ H1=>Hl J g tt te (GW ix σ) (λys H'=>∀p,H' p=none->D.nx (σ.set i (some (.ref p))) (upd H' p (.lst ys))) H1
theorem dB {i:Nat}{y:Str}{py Jc:Pos} (hN:X.N.Nodup) (GP:X.N[i]?=some y) (hx:Loc X.env.scope y) (L:bX X scope N ix) (hc:X.calm=true) (hi:PI X tg iter wi) (hg:∀C s0 H0 fp,PG (aw X scope N C s0 H0 fp) tg g)
  (ht:∀C s0 H0 fp,HS (aw X scope N C s0 H0 fp) ifs tt) (he:∀C s0 H0 fp,PE (aw X scope N C s0 H0 fp) elt te)
  (Sr:swapsWith (.ListComp elt [⟨tg,iter,ifs,0⟩] scope pos) (some (.Name y py)) Jc.line X.env=pure true:=by rfl) (hs:∀x,foldedSetIterable iter X.env x=pure x:=by intro _;rfl)
  (hf:X.fn y=true\/X.env.scope.names.lookup y=some .local:=by first | exact .inl rfl | exact .inr rfl | assumption) :
  PS X (.Assign [.Name y py] (.ListComp elt [⟨tg,iter,ifs,0⟩] scope pos) Jc) (pC i wi g tt te ix):=by
 intro pins s σ H D I h;rw [exec_Assign_Name_used _ _ _ _ Sr];refine Aw (B7 (Aw ?_));show wpAny _ X.A (do let _ <- comprehension (.ListComp elt [⟨tg,iter,ifs,0⟩] scope pos) scope X.env _ (newList []) false (eval iter X.env) (some (assign (.Name y py) X.env))) _ _ s
 refine Aw (EI (Cd (use:=some (assign (.Name y py) X.env)) (Q:=λ_ s'=>SP X pins D .next s') rfl hs (L.clos I.ok) L.kind L.locals
  (EI (hi pins s σ H _ I h) λv s1 h1=>EI h1 λLq s2 h2=>?_)) λ_ s' hq=>Az (Az hq))
 obtain⟨it,fp,tn,J,H2,rfl,I2,T,Gy,f2,hW⟩:=h2;refine pH (RR:=λEL C=>compPost (model X.prog X.w) X.A X.xe (some (assign (.Name y py) X.env)) (λ_ s'=>SP X pins D .next s') EL C) L hc hg ht he I2 T Gy f2 hW ?_;intro Da C s' m ys H' hn ho GR hC hI hD fin;have I':=hI s'.heap (Ek _ _);show wpAny _ X.A (assign (.Name y py) X.env (.ref Da)) _ _ s';refine Ej (jA (v:=.ref Da) I' hN GP hx rfl (λMe Nk ch=>?_) hf);obtain⟨a,Sz,Sd⟩:=ch;obtain⟨c1,c2,c3,c4,c5,c6⟩:=hC;have Uj:C≠a:=by
  rcases Sd with z | z
  ·rw [z];exact c2
  ·exact λw=>c5 y a z w.symm
 refine⟨m,hn.sameBut Sz Uj,λh' FO=>⟨_,_,Nk.turned (t':=Me.toks) (it:=C) (λb o hb e=>FO.extBut b o hb e) c1 c2 c4 c5 c6,fin Da hD⟩⟩
end
mutual
inductive DV (H:Hp):V->PyData->Prop
 | non:DV H .non .none
 | bl (b:Bool):DV H (.bl b) (.bool b)
 | int (i:Int):DV H (.int i) (.int i)
 | str (x:Str):DV H (.str x) (.str x)
 | tup {a:Addr}{xs:List V}{ds:List PyData}:H a=some (.tup xs)->Gi H xs ds->DV H (.ref a) (.tuple ds)
 | lst {a:Addr}{xs:List V}{ds:List PyData}:H a=some (.lst xs)->Gi H xs ds->DV H (.ref a) (.list ds)
inductive Gi (H:Hp):List V->List PyData->Prop
 | nil:Gi H [] []
 | cons {x:V}{d:PyData}{xs:List V}{ds:List PyData}:DV H x d->Gi H xs ds->Gi H (x::xs) (d::ds)
end
section
variable {P:Program}{w:World}{H:Hp}{h:Heap}
mutual
theorem DV.reads (ok:FB P w H h):∀{x:V}{d:PyData}{u:zz9},DV H x d->RelV x u->∃as,Reads h u d as
 | _,_,u,.non,r=>by cases (show u=Value.none from r);exact⟨_,Reads.none⟩
 | _,_,u,.bl b,r=>by cases (show u=Value.bool b from r);exact⟨_,Reads.bool b⟩
 | _,_,u,.int i,r=>by obtain⟨t,e⟩:=(show ∃t,u=Value.int i t from r);cases e;exact⟨_,Reads.int i t⟩
 | _,_,u,.str x,r=>by obtain⟨t,e⟩:=(show ∃t,u=Value.str x t from r);cases e;exact⟨_,Reads.str x t⟩
 | _,_,u,.tup (a:=a) (xs:=xs) e q,r=>by
  cases (show u=Value.ref a from r);obtain⟨_,EE,rv,o,ho,hc,n,hd⟩:=(show aY P w H h a (.tup xs) from ok a _ e)
  obtain⟨as,z⟩:=Gi.reads ok q rv;exact⟨as,Reads.tuple ho hc hd (by simpa using z)⟩
 | _,_,u,.lst (a:=a) (xs:=xs) e q,r=>by
  cases (show u=Value.ref a from r);obtain⟨_,EE,n,rv,ho⟩:=(show aY P w H h a (.lst xs) from ok a _ e)
  obtain⟨as,z⟩:=Gi.reads ok q rv;exact⟨_,Reads.list ho rfl rfl (by simpa using z)⟩
theorem Gi.reads (ok:FB P w H h):∀{xs:List V}{ds:List PyData}{us:List zz9},Gi H xs ds->av xs us->∃as,ReadsAll h us ds as
 | _,_,_,.nil,.nil=>⟨_,ReadsAll.nil⟩
 | _,_,_,.cons a b,.cons r rs=>by
  obtain⟨as,p⟩:=DV.reads ok a r;obtain⟨bs,q⟩:=Gi.reads ok b rs;exact⟨_,ReadsAll.cons p q⟩
end
end
theorem Gi.strs {H:Hp}:∀ss:List Str,Gi H (ss.map V.str) (ss.map PyData.str)
 | []=>.nil
 | x::r=>.cons (.str x) (Gi.strs r)
section
variable {X:Cx}
open SeqAt in
theorem fV {k:Nat} (hr:aQ k X.A):FG X (compareOp .NotEq) (λx y H Q=>∃d e,DV H x d/\DV H y e/\shaped d=true/\shaped e=true/\Q (.bl (!PyData.eqv d e)) H):=by
 intro pins s σ H x y v u Q I rx ry h;obtain⟨d,e,dx,dy,sd,se,q⟩:=h;obtain⟨as,r1⟩:=dx.reads I.hok rx;obtain⟨bs,r2⟩:=dy.reads I.hok ry;exact ne_dataH r1 r2 sd se hr.units ⟨.bl (!PyData.eqv d e),H,I,rfl,q⟩
theorem sk {k:Nat} (hr:aQ k X.A):bJ X (.builtin "repr") (λxs H Q=>∃a d,xs=[.ref a]/\DV H (.ref a) d/\d.showable=true/\d.hasDict=false/\d.depth<=40/\d.shown.length<=sizeLine/\Q (.str d.shown) H):=by
 intro pins s σ H xs us Q I r h;obtain⟨a,d,rfl,dx,h1,h2,h3,h4,q⟩:=h;obtain⟨u,rfl,rx⟩:=vals1 r;cases rx;obtain⟨as,r1⟩:=dx.reads I.hok (show RelV (.ref a) (Value.ref a) from rfl);exact repr_of_reads' r1 h1 (λz=>by rw [h2] at z;cases z) hr.gd (by have:=hr.units;omega) (λ_ _ e=>e) (λh' t tk kp=>⟨.str d.shown,H,I.kept kp,⟨_,rfl⟩,q⟩) h4
theorem tG (bs:List Bool):((List.range bs.length).all λi=>(bs[i]?).getD true)=bs.all id:=by
 rw [Cb,B4,B4];constructor
 ·intro h b hb
  obtain⟨i,hi,e⟩:=Cw.mp hb;have:=h i (CS.mpr hi);rw [AD hi,e] at this;simpa using this
 ·intro h i hi
  have hi:=CS.mp hi;rw [AD hi];simpa using h _ (Bt hi)
theorem eU (hc:X.calm=true):bJ X (.builtin "all") (λxs H Q=>∃(p:Addr) (bs:List Bool),xs=[.ref p]/\EF X.K H p (bs.map V.bl)/\Q (.bl (bs.all id)) H):=by
 intro pins s σ H xs us Q I r h;obtain⟨p,bs,rfl,hq,q⟩:=h;obtain⟨u,rfl,rx⟩:=vals1 r;cases rx;obtain⟨EE,r',pl,hz⟩:=I.list hq;have EM:p < s.heap.objs.size:=by obtain⟨o,n,e,_⟩:=pl;exact AQ e
 have EJ:=r'.length;rw [Av] at EJ;refine call_all_walk (Ds pl.isList ?_)
 refine⟨s.heap.objs.size,[s.heap.objs.size,p],[s.heap.objs.size],EE.toArray.size,_,_,λi=>(bs[i]?).getD true,rfl,Walks.list (A:=X.A.in1) (I.ok.hd hc) _ p (Bh EM) EE.toArray,
  ⟨⟨_,AS _ rfl,rfl,rfl⟩,pl.isList.push _⟩,λi v s' Q' E' hP hQ=>?_,λh' tk hk=>?_⟩
 ·have Wx:EE[i]?=some v:=by simpa using hP
  have hb:∃b,bs[i]?=some b/\v=Value.bool b:=by
   have hi:i < bs.length:=by rw [EJ];exact (AE.mp Wx).1
   have e1:(bs.map V.bl)[i]?=some (V.bl bs[i]):=by rw [AH,AD hi];rfl
   obtain⟨w',e2,GC⟩:=r'.get e1;rw [Wx] at e2;cases e2;exact⟨bs[i],AD hi,GC⟩
  obtain⟨b,e,rfl⟩:=hb;simp only [e,Option.getD_some] at hQ;exact BX hQ
 ·have e:((List.range EE.toArray.size).all λi=>(bs[i]?).getD true)=bs.all id:=by
   rw [AR,<- EJ];exact tG bs
  rw [e];refine⟨.bl (bs.all id),H,I.kept (t':=tk) λb x e=>hk b x (λhm=>?_) (AA _ e),rfl,q⟩;rw [Bd.mp hm] at e;exact BI _ (AQ e)
theorem dA {T:String}:bJ X (.builtin "isinstance") (λxs H Q=>∃x t b,xs=[x,.ty T]/\dg X.K H x t/\PySem.W.kitOne X.K t (.type T)=some b/\Q (.bl b) H):=by
 intro pins s σ H xs us Q I r h;obtain⟨x,t,b,rfl,ty,e,q⟩:=h;obtain⟨u,w',rfl,rx,ry⟩:=vals2 r;cases (show w'=Value.type T from ry);exact uK I rx ty e λtk=>⟨.bl b,H,I.tok tk,rfl,q⟩
theorem lS:FG X (compareOp .LtE) (λx y H Q=>∃i j,x=.str i/\y=.str j/\Q (.bl (!decide (j.cps.toList < i.cps.toList))) H):=by
 intro pins s σ H x y v u Q I rx ry h;obtain⟨i,j,rfl,rfl,q⟩:=h;obtain⟨t,rfl⟩:=rx;obtain⟨t',rfl⟩:=ry;exact PySem.P.le_str ⟨.bl (!decide (j.cps.toList < i.cps.toList)),H,I,rfl,q⟩
theorem j9:QR X "str.join" (λx xs H Q=>∃(z:Str) (p:Addr) (ss:List Str),x=.str z/\xs=[.ref p]/\EF X.K H p (ss.map V.str)/\(ss.map (·.length)).sum + ss.length * z.length<=16777216/\Q (.str (Txt.join z ss)) H):=by
 intro pins s σ H x xs v us Q I rx rs h;obtain⟨z,p,ss,rfl,rfl,hq,hz,q⟩:=h;obtain⟨t,rfl⟩:=rx;obtain⟨u,rfl,ru⟩:=vals1 rs;cases ru;obtain⟨EE,r',pl,_⟩:=I.list hq;exact join_list pl.isList (ip r') hz λt' k=>⟨.str (Txt.join z ss),H,I.tok k,⟨_,rfl⟩,q⟩
theorem eP:bJ X (.builtin "sorted") (λxs H Q=>∃(p:Addr) (ss:List Str),xs=[.ref p]/\EF X.K H p (ss.map V.str)/\ss.length < 64/\∀(ES:List Str) (q:Addr),ES.Perm ss->sortedS ES=true->H q=none->Q (.ref q) (upd H q (.lst (ES.map V.str)))):=by
 intro pins s σ H xs us Q I r h;obtain⟨p,ss,rfl,hq,J1,q⟩:=h;obtain⟨u,rfl,rx⟩:=vals1 r;cases rx;obtain⟨EE,r',pl,hz⟩:=I.list hq;have EJ:=r'.length;rw [Av] at EJ;refine sorted_strs pl.isList (ip r') (by omega) λout ES a1 a2 a3=>?_;obtain⟨e,he⟩:=sortedAll_at s.heap EE out;have hv:av (ES.map V.str) out.toList:=iz a1;have KF:H (s.heap.objs.size + 1)=none:=I.hok.fresh (Cu _);refine⟨.ref (s.heap.objs.size + 1),_,I.laid (t':=s.toks) (o:=.lst (ES.map V.str)) (λb o z=>sortedAll_old z) (Cu _) ⟨?_,out.toList,e,hv,?_⟩,rfl,q ES _ a2 a3 KF⟩
 ·rw [Av,a2.length_eq,Br];omega
 ·simpa [seqObj] using he
end
end L2
set_option maxHeartbeats 4000000
namespace L2
open PySem PySem.W PyProof.Rows
abbrev gp (p:Array Nat) (i:Nat):Nat:=p.getD i 0
structure Ord (N:Nat) (lt:Nat->Nat->Bool):Prop where
 tr:∀i j k,lt i j=true->lt j k=true->lt i k=true
 irr:∀i,lt i i=false
 tot:∀i j,i < N->j < N->i≠j->lt i j=true\/lt j i=true
def Pm (N:Nat) (p:Array Nat):Prop:=p.Perm (List.toArray (List.range N))
theorem Pm.size {N:Nat}{p:Array Nat} (h:Pm N p):p.size=N:=by
 have:=Array.Perm.size_eq h;simpa using this
theorem ft {p:Array Nat}{i:Nat} (h:i < p.size):gp p i=p[i]:=by simp [gp,Array.getD,h]
theorem iE {p q:Array Nat}{i j:Nat} (h:p[i]?=q[j]?):gp p i=gp q j:=by simp [gp,Ck,h]
theorem Pm.lt {N:Nat}{p:Array Nat} (h:Pm N p) {i:Nat} (hi:i < N):gp p i < N:=by
 have hs:i < p.size:=by rw [h.size];exact hi
 rw [ft hs];have hm:p[i]∈(List.toArray (List.range N)):=h.mem_iff.mp (Array.getElem_mem hs);simpa using hm
theorem Pm.nd {N:Nat}{p:Array Nat} (h:Pm N p):p.toList.Nodup:=by
 have hp:p.toList.Perm (List.range N):=by simpa using Ee.mp h
 exact hp.nodup_iff.mpr List.nodup_range
theorem Pm.inj {N:Nat}{p:Array Nat} (h:Pm N p) {i j:Nat} (hi:i < N) (hj:j < N) (FW:i≠j):gp p i≠gp p j:=by
 have Sx:i < p.size:=by rw [h.size];exact hi
 have Sw:j < p.size:=by rw [h.size];exact hj
 rw [ft Sx,ft Sw];intro e;have nd:=h.nd
 rcases CK FW with z | z
 ·exact Bb.mp nd i j (by simpa using Sx) (by simpa using Sw) z (by simpa using e)
 ·exact Bb.mp nd j i (by simpa using Sw) (by simpa using Sx) z (by simpa using e.symm)
section
variable {N:Nat}{lt:Nat->Nat->Bool}{cmp:Nat->Nat->(Bool->zz8->Prop)->zz8->Prop}{s:zz8}
def HV (lt:Nat->Nat->Bool) (p:Array Nat) (b:Nat):Prop:=∀i j,i < j->j < b->lt (gp p i) (gp p j)=true
def NR (lt:Nat->Nat->Bool) (p:Array Nat) (b:Nat):Prop:=∀i j,i < j->j < b->lt (gp p j) (gp p i)=true
theorem HV.more (O:Ord N lt) {p:Array Nat}{n:Nat} (h:HV lt p n) (h1:1<=n) (e:lt (gp p (n - 1)) (gp p n)=true):HV lt p (n + 1):=λi j FW hj=>by
 by_cases q:j < n
 ·exact h i j FW q
 ·have:j=n:=by omega
  subst this
  by_cases z:i=j - 1
  ·rw [z];exact e
  ·exact O.tr _ _ _ (h i (j - 1) (by omega) (by omega)) e
theorem NR.more (O:Ord N lt) {p:Array Nat}{n:Nat} (h:NR lt p n) (h1:1<=n) (e:lt (gp p n) (gp p (n - 1))=true):NR lt p (n + 1):=λi j FW hj=>by
 by_cases q:j < n
 ·exact h i j FW q
 ·have:j=n:=by omega
  subst this
  by_cases z:i=j - 1
  ·rw [z];exact e
  ·exact O.tr _ _ _ e (h i (j - 1) (by omega) (by omega))
theorem Ord.other (O:Ord N lt) {p:Array Nat} (hp:Pm N p) {i j:Nat} (hi:i < N) (hj:j < N) (FW:i≠j) (e:lt (gp p i) (gp p j)≠true):lt (gp p j) (gp p i)=true :=
 (O.tot _ _ (hp.lt hi) (hp.lt hj) (hp.inj hi hj FW)).resolve_left e
variable (O:Ord N lt) (hc:∀(i j:Nat) (C:Bool->zz8->Prop),i < N->j < N->i≠j->C (lt i j) s->cmp i j C s)
include O hc
theorem kg {p:Array Nat} (hp:Pm N p) {Q:Nat->zz8->Prop}:∀(f n:Nat),1<=n->n + f<=N->HV lt p n->(∀m,n<=m->m<=n + f->HV lt p m->(m=n + f\/lt (gp p m) (gp p (m - 1))=true)->Q m s)->(kas_asc p f n).kasWp cmp Q s
 | 0,n,h1,hn,ha,k=>k n (AF _) (AF _) ha (.inl rfl)
 | f + 1,n,h1,hn,ha,k=>by
  unfold kas_asc;refine hc _ _ _ (hp.lt (by omega)) (hp.lt (by omega)) (hp.inj (by omega) (by omega) (by omega)) ?_
  by_cases e:lt (gp p n) (gp p (n - 1))=true
  ·show KasT.kasWp cmp (if lt (gp p n) (gp p (n - 1))=true then _ else _) Q s
   rw [if_pos e];exact k n (AF _) (by omega) ha (.inr e)
  ·show KasT.kasWp cmp (if lt (gp p n) (gp p (n - 1))=true then _ else _) Q s
   rw [if_neg e];exact kg hp f (n + 1) (by omega) (by omega) (ha.more O h1 (O.other hp (by omega) (by omega) (by omega) e)) λm a b c d=>k m (by omega) (by omega) c (d.imp (λz=>by omega) id)
theorem n0 {p:Array Nat} (hp:Pm N p) {Q:Array Nat×Nat×Nat->zz8->Prop}:∀(f n:Nat),1<=n->n + f<=N->NR lt p n->(∀m,n<=m->m<=n + f->NR lt p m->Q (p,m,0) s)->(kas_desc f p n 0).kasWp cmp Q s
 | 0,n,h1,hn,ha,k=>k n (AF _) (AF _) ha
 | f + 1,n,h1,hn,ha,k=>by
  unfold kas_desc;refine hc _ _ _ (hp.lt (by omega)) (hp.lt (by omega)) (hp.inj (by omega) (by omega) (by omega)) ?_
  by_cases e:lt (gp p n) (gp p (n - 1))=true
  ·show KasT.kasWp cmp (if lt (gp p n) (gp p (n - 1))=true then _ else _) Q s
   rw [if_pos e,if_neg (by omega)];exact n0 hp f (n + 1) (by omega) (by omega) (ha.more O h1 e) λm a b c=>k m (by omega) (by omega) c
  ·show KasT.kasWp cmp (if lt (gp p n) (gp p (n - 1))=true then _ else _) Q s
   rw [if_neg e];refine hc _ _ _ (hp.lt (by omega)) (hp.lt (by omega)) (hp.inj (by omega) (by omega) (by omega)) ?_;have e2:=O.other hp (show n < N by omega) (show n - 1 < N by omega) (by omega) e;show KasT.kasWp cmp (if lt (gp p (n - 1)) (gp p n)=true then _ else _) Q s;rw [if_pos e2];exact k n (AF _) (by omega) ha
theorem xW {p:Array Nat} (hp:Pm N p) {m:Nat} (hm:m<=N) (h:NR lt p m):Pm N (kas_rev p 0 m)/\HV lt (kas_rev p 0 m) m:=by
 have hz:m<=p.size:=by rw [hp.size];exact hm
 refine⟨(mirror_perm p 0 m _).trans hp,λi j FW hj=>?_⟩
 have g:∀k,k < m->gp (kas_rev p 0 m) k=gp p (0 + m - 1 - k):=λk hk=>iE (by
  unfold kas_rev
  rw [getElem?_mirror_all hz,if_pos ⟨Be _,hk⟩])
 rw [g i (by omega),g j hj];exact h _ _ (by omega) (by omega)
theorem uP {p:Array Nat} (hp:Pm N p) (h2:2<=N) {Q:Nat×Array Nat->zz8->Prop} (h0:∀m q,1<=m->m<=N->Pm N q->HV lt q m->Q (m,q) s):(kas_count N p).kasWp cmp Q s:=by
 unfold kas_count;rw [Df];refine kg O hc hp (N - 1) 1 (AF _) (by omega) (λi j a b=>by omega) λm a b c d=>?_
 by_cases e:(m == N)=true
 ·rw [if_pos e]
  exact h0 m p a (by omega) hp c
 ·rw [if_neg e]
  have hm:m≠N:=λz=>e (beq_iff_eq.mpr z)
  by_cases e1:m > 1
  ·rw [if_pos e1]
   refine hc _ _ _ (hp.lt (by omega)) (hp.lt (by omega)) (hp.inj (by omega) (by omega) (by omega)) ?_;show KasT.kasWp cmp (if lt (gp p 0) (gp p (m - 1))=true then _ else _) Q s;rw [if_pos (c 0 (m - 1) (by omega) (by omega))];exact h0 m p a (by omega) hp c
  ·rw [if_neg e1]
   have:m=1:=by omega
   subst this;have e2:lt (gp p 1) (gp p (1 - 1))=true:=d.resolve_left (by omega);unfold kas_descPart;rw [Df]
   refine n0 O hc hp (N - (1 + 1)) (1 + 1) (by omega) (by omega) (λi j x y=>by
    have:i=0:=by omega
    have:j=1:=by omega
    subst i j
    exact e2) λm' a' b' c'=>?_
   show KasT.kasWp cmp (if (0:Nat) > 0 then _ else _) Q s;rw [if_neg (by omega)];show KasT.kasWp cmp (kas_tail3 m' N p) Q s;unfold kas_tail3;rw [Df];obtain⟨r1,r2⟩:=xW O hc hp (show m'<=N by omega) c';exact kg O hc r1 (N - m') m' (by omega) (by omega) r2 λY4 x y z w=>h0 Y4 _ (by omega) (by omega) r1 z
theorem jQ {p:Array Nat} (hp:Pm N p) {k:Nat} (hk:k < N) (ha:HV lt p k) {Q:Nat->zz8->Prop}:∀(f l r:Nat),l<=r->r<=k->r - l<=f->(∀i,i < l->lt (gp p i) (gp p k)=true)->(∀i,r<=i->i < k->lt (gp p k) (gp p i)=true) ->
  (∀l,l<=k->(∀i,i < l->lt (gp p i) (gp p k)=true)->(∀i,l<=i->i < k->lt (gp p k) (gp p i)=true)->Q l s)->(kas_place p k f l r).kasWp cmp Q s
 | 0,l,r,h1,h2,h3,hl,hr,q=>by
  have:l=r:=by omega
  subst this;exact q l h2 hl hr
 | f + 1,l,r,h1,h2,h3,hl,hr,q=>by
  unfold kas_place
  by_cases e:l ≥ r
  ·rw [if_pos e]
   have:l=r:=by omega
   subst this;exact q l h2 hl hr
  ·rw [if_neg e]
   refine hc _ _ _ (hp.lt hk) (hp.lt (by omega)) (hp.inj hk (by omega) (by omega)) ?_
   by_cases c:lt (gp p k) (gp p ((l + r) / 2))=true
   ·show KasT.kasWp cmp (if lt (gp p k) (gp p ((l + r) / 2))=true then _ else _) Q s
    rw [if_pos c];refine jQ hp hk ha f l ((l + r) / 2) (by omega) (by omega) (by omega) hl (λi a b=>?_) q
    by_cases z:i=(l + r) / 2
    ·rw [z];exact c
    ·exact O.tr _ _ _ c (ha _ _ (by omega) b)
   ·show KasT.kasWp cmp (if lt (gp p k) (gp p ((l + r) / 2))=true then _ else _) Q s
    rw [if_neg c];have c':=O.other hp hk (show (l + r) / 2 < N by omega) (by omega) c;refine jQ hp hk ha f ((l + r) / 2 + 1) r (by omega) h2 (by omega) (λi a=>?_) hr q
    by_cases z:i=(l + r) / 2
    ·rw [z];exact c'
    ·exact O.tr _ _ _ (ha i ((l + r) / 2) (by omega) (by omega)) c'
theorem pk {Q:Array Nat->zz8->Prop} (h0:∀q,Pm N q->HV lt q N->Q q s):∀(f:Nat) (p:Array Nat) (k:Nat),k + f=N->Pm N p->HV lt p k->(kas_bin f p k).kasWp cmp Q s
 | 0,p,k,hk,hp,ha=>h0 p hp (by rw [<- hk];exact ha)
 | f + 1,p,k,hk,hp,ha=>by
  unfold kas_bin;rw [Df];refine jQ O hc hp (show k < N by omega) ha k 0 k (by omega) (AF _) (by omega) (λi z=>by omega) (λi a b=>by omega) λl hl h1 h2=>?_;refine pk h0 f _ (k + 1) (by omega) ((bubble_perm p k _).trans hp) λi j FW hj=>?_;have hs:k < p.size:=by rw [hp.size];omega
  have g:∀i,gp (bubble p k (k - l)) i=if i=l then gp p k else if l < i/\i<=k then gp p (i - 1) else gp p i:=λi=>by
   have e:=getElem?_bubble hs (k - l) (by omega) i;have e1:k - (k - l)=l:=by omega
   rw [e1] at e
   by_cases z1:i=l
   ·rw [if_pos z1] at e ⊢;exact iE e
   ·rw [if_neg z1] at e ⊢
    by_cases z2:l < i/\i<=k
    ·rw [if_pos z2] at e ⊢;exact iE e
    ·rw [if_neg z2] at e ⊢;exact iE e
  rw [g i,g j]
  by_cases a1:i=l
  ·rw [if_pos a1,if_neg (by omega),if_pos (by omega)]
   exact h2 _ (by omega) (by omega)
  ·rw [if_neg a1]
   by_cases a2:l < i/\i<=k
   ·rw [if_pos a2,if_neg (by omega),if_pos (by omega)]
    exact ha _ _ (by omega) (by omega)
   ·rw [if_neg a2]
    by_cases b1:j=l
    ·rw [if_pos b1];exact h1 i (by omega)
    ·rw [if_neg b1]
     by_cases b2:l < j/\j<=k
     ·rw [if_pos b2]
      exact ha _ _ (by omega) (by omega)
     ·rw [if_neg b2]
      exact ha _ _ FW (by omega)
theorem xn (h2:2<=N) {Q:Array Nat->zz8->Prop} (h0:∀q,Pm N q->HV lt q N->Q q s):(kas_sort N).kasWp cmp Q s:=by
 unfold kas_sort;rw [Df];refine uP O hc (Array.Perm.refl _) h2 λm q a b hp ha=>?_;show KasT.kasWp cmp (if m < N then _ else _) Q s
 by_cases e:m < N
 ·rw [if_pos e]
  have em:max m 1=m:=by omega
  show KasT.kasWp cmp (kas_bin (N - max m 1) q (max m 1)) Q s;rw [em];exact pk O hc h0 (N - m) q m (by omega) hp ha
 ·rw [if_neg e]
  have:m=N:=by omega
  subst this;exact h0 q hp ha
end
end L2
namespace L2
open PySem PySem.Spec PyProof.Rows PySem.W PySem.Calls
section
variable {prog:Program}{w:World}{A:Around}{E:zz9->zz8->Prop}{s:zz8}
def ky (prog:Program) (w:World) (A:Around) (vs:List zz9) (lt:Nat->Nat->Bool) (s:zz8):Prop :=
 ∃κ:SortKind,(∀Q:SortKind->zz8->Prop,Q κ s->wpAny (model prog w) A (keyKind' vs.toArray) Q (λ_ _=>False) s) /\
  ∀(i j:Nat) (C:Bool->zz8->Prop),i < vs.length->j < vs.length->i≠j->C (lt i j) s->kas_ask prog w A κ vs i j C s
def dW (vs:List zz9) (p:Array Nat):List zz9:=p.toList.map λi=>vs.getD i Value.none
theorem sA {lt:Nat->Nat->Bool}{a:Addr}{vs:List zz9}{n:Nat}{P:PySem.Fin->zz8->Prop} (ho:s.heap.get? a=some (seqObj "list" vs.toArray n)) (J1:vs.length < 64) (O:Ord vs.length lt)
  (hk:2<=vs.length->∀s':zz8,(∀b o,b≠a->s.heap.get? b=some o->s'.heap.get? b=some o)->ky prog w A vs lt s')
  (h:∀p,Pm vs.length p->HV lt p vs.length->P (.done (.ret .none)) { s with heap:=sortedHeap s.heap a vs (dW vs p).toArray }) :
  wpAny (model prog w) A (Builtin.«list.sort» ⟨[.ref a],[]⟩) P E s:=by
 rw [list_sort_plain];have EM:a < s.heap.objs.size:=AQ ho;have O2:vs.length<=sizeLine:=by rw [Br];omega
 refine Aw (listItems_at ho rfl (Aw (listUpdate_at ho rfl ?_ (by rw [AR];exact O2) (Be _))));obtain⟨e1,MM⟩:∃e1,(s.heap.update a (Obj.mapSeq λ_=>(#[]:Array zz9))).get? a=some (seqObj "list" #[] e1):=⟨_,get?_update_seq ho λ_=>#[]⟩
 refine Aw (seqEpoch_at MM rfl (Aw (wpAny_newTuple (Aw (Dz (BJ ?_) (Be _))) (by show vs.length<=_;exact O2))));have Ie:(((s.heap.update a (Obj.mapSeq λ_=>(#[]:Array zz9))).push (seqObj "tuple" vs.toArray 0)).push (seqObj "list" #[] 0)).get? a=some (seqObj "list" #[] e1):=AA _ (AA _ MM);show wpAny (model prog w) A _ P E { s with heap:=((s.heap.update a (Obj.mapSeq λ_=>(#[]:Array zz9))).push (seqObj "tuple" vs.toArray 0)).push (seqObj "list" #[] 0) }
 dsimp only
 by_cases h2:vs.toArray.size < 2
 ·rw [if_pos h2,if_pos h2]
  refine Aw (Az ?_);rw [StateT.run_pure];refine Aw (Az ?_)
  dsimp only
  have hz:((vs.toArray.zip vs.toArray).map (·.2))=(dW vs (List.toArray (List.range vs.length))).toArray:=by
   unfold dW;apply Array.ext
   ·simp
   ·intro i h1 h2
    simp only [Array.size_map,Array.size_zip,AR,Nat.min_self] at h1;simp [h1]
  have es:vs.toArray.size=vs.length:=by simp
  refine Aw (seqEpoch_at Ie rfl (Aw (listUpdate_at Ie rfl ?_ (Be _) ?_)))
  ·simp only [bne_self_eq_false,Cq,if_false]
   have q:=h (List.toArray (List.range vs.length)) (Array.Perm.refl _) (λi j FW hj=>by omega);unfold sortedHeap at q;rw [<- hz] at q;exact Az q
  ·show ((vs.toArray.zip vs.toArray).map (·.2)).size<=sizeLine + 1
   simp only [Array.size_map,Array.size_zip,AR,Nat.min_self];omega
 ·have Pp:2<=vs.length:=by rw [AR] at h2;omega
  rw [if_neg h2,if_neg h2];obtain⟨κ,kd,ask⟩:=hk Pp { s with heap:=((s.heap.update a (Obj.mapSeq λ_=>(#[]:Array zz9))).push (seqObj "tuple" vs.toArray 0)).push (seqObj "list" #[] 0) } λb o hb e =>
   AA _ (AA _ (by rw [Heap.get?_update_ne _ _ _ _ hb];exact e))
  refine Aw (BW (E:=λ_ _=>False) (Q:=λk s'=>k=κ/\s'={ s with heap:=((s.heap.update a (Obj.mapSeq λ_=>(#[]:Array zz9))).push (seqObj "tuple" vs.toArray 0)).push (seqObj "list" #[] 0) }) (kd _ ⟨rfl,rfl⟩) ?_ λ_ _ f=>f.elim);rintro k s' ⟨rfl,rfl⟩
  refine Aw (BW (kat_run (ks:=vs) (G:=λp s'=>(Pm vs.length p/\HV lt p vs.length)/\s'={ s with heap:=((s.heap.update a (Obj.mapSeq λ_=>(#[]:Array zz9))).push (seqObj "tuple" vs.toArray 0)).push (seqObj "list" #[] 0) })
   (Q:=λFb s'=>∃p:Array Nat,arrOf Fb=p.map (kas_item (vs.toArray.zip vs.toArray))/\failedOf Fb=none/\(Pm vs.length p/\HV lt p vs.length)/\s'={ s with heap:=((s.heap.update a (Obj.mapSeq λ_=>(#[]:Array zz9))).push (seqObj "tuple" vs.toArray 0)).push (seqObj "list" #[] 0) })
   rfl Pp J1 (λp Fb s' _ a2 a3 a4=>⟨p,a2,a3,a4⟩) (xn O ask Pp λq hq ha=>⟨⟨hq,ha⟩,rfl⟩)) ?_ λ_ _ e=>e)
  rintro⟨⟨⟩,Fb⟩ s' ⟨p,har,hf,⟨hp,ha⟩,rfl⟩
  dsimp only
  rw [kat_snds rfl har];have hsz:(List.toArray (p.toList.map λi=>vs.getD i Value.none)).size<=sizeLine + 1:=by
   rw [AR,Av,BD,hp.size];omega
  refine Aw (seqEpoch_at Ie rfl (Aw (listUpdate_at Ie rfl ?_ (Be _) hsz)));rw [hf];simp only [bne_self_eq_false,Cq,if_false];exact Az (h p hp ha)
theorem k9 {l:Addr}{o:Obj}{vs:List zz9}{n:Nat}{T:String}{Q:List zz9->zz8->Prop} (hT:T="list"\/T="tuple") (ho:s.heap.get? l=some o) (hc:o.cls=.type T) (hd:o.data=.seq vs.toArray n)
  (h:Q vs { s with heap:=(s.heap.push (seqObj "list" #[] 0)).update s.heap.objs.size (Obj.mapSeq (·++vs.toArray)) }) (hsz:vs.length<=sizeLine):wpAny (model prog w) A (collect (.ref l)) Q E s:=by
 rcases hT with rfl | rfl
 ·exact collect_list ⟨o,ho,hc,n,hd⟩ h hsz
 ·unfold collect
  refine Aw (DZ (BR entry_proto_collect' ?_));show wpAny _ _ (do again (.builtin "list.__iadd__" ⟨[<- newList [],.ref l],[]⟩)) _ _ s;refine Aw (Dz (Az ⟨Eb _ (by decide +kernel),BR entry_list_iadd' ?_⟩));show wpAny _ _ (Builtin.List.listExtendWith (.ref s.heap.objs.size) (.ref l) (.ref s.heap.objs.size)) _ _ { s with heap:=s.heap.push (seqObj "list" #[] 0) };unfold Builtin.List.listExtendWith;have Hi:(s.heap.push (seqObj "list" #[] 0)).get? l=some o:=AA _ ho;refine Aw (Dj (T:="tuple") ⟨o,Hi,hc⟩ ?_);rw [if_pos (by rw [show (Value.type "tuple" == Value.type "tuple")=true from rfl];simp)];refine Aw (listItems_at Hi hd (Aw (listItems_at (xs:=#[]) (n:=0) (AS _ rfl) rfl ?_)));rw [if_neg (by simp)];refine Aw (listUpdate_at (xs:=#[]) (n:=0) (AS _ rfl) rfl (Az ?_) (Be _) (by show (#[]++vs.toArray).size<=sizeLine + 1;simp only [Array.size_append,AR,ED];omega))
  show wpAny (model prog w) A (do
    let o <- load s.heap.objs.size
    match o.data with
    | .seq xs _=>pure xs.toList
    | _=>unsupported "internal:collect") Q E { s with heap:=(s.heap.push (seqObj "list" #[] 0)).update s.heap.objs.size (Obj.mapSeq (·++vs.toArray)) }
  refine Aw (Ep (get?_update_seq (AS _ rfl) _) ?_);show wpAny _ _ (pure ((#[]:Array zz9)++vs.toArray).toList) Q E _;rw [show ((#[]:Array zz9)++vs.toArray).toList=vs by simp];exact Az h
theorem nZ {lt:Nat->Nat->Bool}{l:Addr}{o:Obj}{vs:List zz9}{n:Nat}{T:String}{Q:zz9->zz8->Prop} (hT:T="list"\/T="tuple") (ho:s.heap.get? l=some o) (hc:o.cls=.type T) (hd:o.data=.seq vs.toArray n) (J1:vs.length < 64) (O:Ord vs.length lt)
  (hk:2<=vs.length->∀s':zz8,(∀b o,s.heap.get? b=some o->s'.heap.get? b=some o)->ky prog w A.in1.in1 vs lt s')
  (h:∀p,Pm vs.length p->HV lt p vs.length->Q (.ref (s.heap.objs.size + 1)) { s with heap:=sortedAll s.heap vs (dW vs p).toArray }):wpAny (model prog w) A (call (.builtin "sorted") [.ref l]) Q E s:=by
 refine Calls.call_function_entry kind_sorted plain_sorted entry_sorted (args_sorted1 _) ?_;unfold Builtin.«sorted»;refine Aw (m:=checkCount "sorted" 1 1 _) (Az (Aw (k9 hT ho hc hd (Aw (Dz ?_ (by rw [Br];omega))) (by rw [Br];omega))));have hsz:((s.heap.push (seqObj "list" #[] 0)).update s.heap.objs.size (Obj.mapSeq (·++vs.toArray))).objs.size=s.heap.objs.size + 1:=by rw [Heap.size_update,size_push']
 have Jv:(((s.heap.push (seqObj "list" #[] 0)).update s.heap.objs.size (Obj.mapSeq (·++vs.toArray))).push (seqObj "list" vs.toArray 0)).get? (s.heap.objs.size + 1)=some (seqObj "list" vs.toArray 0):=by
  rw [<- hsz];exact AS _ rfl
 show wpAny _ _ _ _ _ { s with heap:=((s.heap.push (seqObj "list" #[] 0)).update s.heap.objs.size (Obj.mapSeq (·++vs.toArray))).push (seqObj "list" vs.toArray 0) };rw [hsz];have kp:∀b o,s.heap.get? b=some o->(((s.heap.push (seqObj "list" #[] 0)).update s.heap.objs.size (Obj.mapSeq (·++vs.toArray))).push (seqObj "list" vs.toArray 0)).get? b=some o:=λb ob e=>by
  have hb:=AQ e;refine AA _ ?_;rw [Heap.get?_update_ne _ _ _ _ (Bh hb)];exact AA _ e
 refine Aw (BJ (BG slot_list_sort ⟨_,Jv,rfl⟩ entry_list_sort (sA Jv J1 O (λz s' FO=>hk z s' λb ob e=>FO b ob (by have:=AQ e;exact Bh (BY this)) (kp b ob e)) λp hp ha=>⟨_,rfl,?_⟩) (args_list_sort _)));exact Az ⟨_,rfl,h p hp ha⟩
end
theorem kn {h:Heap}:∀{vs fs:List zz9},KatTups h vs fs->∀(i:Nat),i < vs.length->∃a o xs n f,vs.getD i Value.none=.ref a/\h.get? a=some o/\o.data=.seq xs n/\xs[0]?=some f/\fs[i]?=some f
 | [],[],_,i,hi=>absurd hi (C0 _)
 | [],_::_,t,_,_=>t.elim
 | _::_,[],t,_,_=>t.elim
 | v::vs,f::fs,t,0,_=>by
  obtain⟨⟨a,o,xs,n,rfl,ho,hc,hd,hf⟩,_⟩:=t;exact⟨a,o,xs,n,f,rfl,ho,hd,hf,rfl⟩
 | v::vs,f::fs,t,i + 1,hi=>by
  obtain⟨_,t⟩:=t;obtain⟨a,o,xs,n,g,e1,e2,e3,e4,e5⟩:=kn t i (by simpa using hi);exact⟨a,o,xs,n,g,by simpa using e1,e2,e3,e4,by simpa using e5⟩
theorem kf:∀{fs:List zz9}{ss:List Str},StrsAre fs ss->∀(i:Nat) (f:zz9),fs[i]?=some f->∃t,f=.str (ss.getD i Str.empty) t/\i < ss.length
 | _,_,.nil,i,f,h=>by simp at h
 | _,_,.cons y t r,0,f,h=>by simp at h;exact⟨t,h.symm,by simp⟩
 | _,_,.cons y t r,i + 1,f,h=>by
  obtain⟨t',e1,e2⟩:=kf r i f (by simpa using h);exact⟨t',by simpa using e1,by simpa using e2⟩
theorem yu {prog:Program}{w:World}{A:Around}{s:zz8}{vs fs:List zz9}{ss:List Str} (t:KatTups s.heap vs fs) (hS:StrsAre fs ss) (EZ:0 < fs.length) (Fz:ss.Nodup) :
  ky prog w A vs (λi j=>decide ((ss.getD i Str.empty).cps.toList < (ss.getD j Str.empty).cps.toList)) s:=by
 refine⟨tuples' (Value.type "str" != Value.type "tuple"),λQ q=>kat_kind (T:=Value.type "str") t EZ (λv hv=>?_) (by decide) q,λi j C hi hj FW q=>?_⟩
 ·obtain⟨x,u,rfl⟩:=hS.all v hv
  exact Looks.now
 ·obtain⟨a,o,xs,n,f,e1,e2,e3,e4,e5⟩:=kn t i hi
  obtain⟨b,o',ys,n',g,g1,g2,g3,g4,g5⟩:=kn t j hj;obtain⟨tf,rfl,Gx⟩:=kf hS i f e5;obtain⟨tg,rfl,FK⟩:=kf hS j g g5;unfold kas_ask;rw [e1,g1];refine kat_lt e2 e3 g2 g3 ?_;obtain⟨xr,hx⟩:∃xr,xs.toList=.str (ss.getD i Str.empty) tf::xr:=by
   cases hq:xs.toList with
   | nil=>rw [<- BZ,hq] at e4;simp at e4
   | cons z zr=>rw [<- BZ,hq] at e4;simp at e4;rw [e4];exact⟨zr,rfl⟩
  obtain⟨yr,hy⟩:∃yr,ys.toList=.str (ss.getD j Str.empty) tg::yr:=by
   cases hq:ys.toList with
   | nil=>rw [<- BZ,hq] at g4;simp at g4
   | cons z zr=>rw [<- BZ,hq] at g4;simp at g4;rw [g4];exact⟨zr,rfl⟩
  rw [hx,hy];have ZR:ss.getD i Str.empty≠ss.getD j Str.empty:=by
   rw [Bs,Bs,AD Gx,AD FK];intro z;have z':ss[i]=ss[j]:=z
   rcases CK FW with y | y
   ·exact Bb.mp Fz i j Gx FK y z'
   ·exact Bb.mp Fz j i FK Gx y z'.symm
  show KatLex prog w A _ _ C ((Value.str (ss.getD i Str.empty) tf,Value.str (ss.getD j Str.empty) tg)::xr.zip yr) 0 s;refine kat_cons (wpAny_eqBool_str ?_);rw [decide_eq_false ZR];refine kat_no ?_;show wpAny _ A (oneLt' true _ _) C _ s;exact strKind_oneLt prog w A _ s _ _ _ _ rfl rfl q
theorem j7 {x y:Str} (h:x≠y):x.cps.toList < y.cps.toList\/y.cps.toList < x.cps.toList:=by
 by_cases c:x.cps.toList < y.cps.toList
 ·exact .inl c
 ·rcases List.le_iff_lt_or_eq.mp (List.not_lt.mp c) with z | z
  ·exact .inr z
  ·refine absurd ?_ h
   obtain⟨a⟩:=x;obtain⟨b⟩:=y;have e:b=a:=Array.toList_inj.mp z;rw [e]
def pD (H:Hp) (rs:List (Addr×Str)):Prop:=∀r∈rs,∃rest,H r.1=some (.tup (.str r.2::rest))
abbrev refs (rs:List (Addr×Str)):List V:=rs.map λr=>V.ref r.1
def FU (x y:Str):Prop:=x.cps.toList < y.cps.toList
theorem lB {P:Program}{w:World}{H:Hp}{h:Heap} (ok:FB P w H h):∀{rs:List (Addr×Str)}{us:List zz9},pD H rs->av (refs rs) us->∃fs,KatTups h us fs/\StrsAre fs (rs.map (·.2))
 | [],us,_,r=>by cases r;exact⟨[],trivial,.nil⟩
 | x::rs,us,hr,r=>by
  cases r with
  | @cons _ u _ us' r1 r2 =>
   obtain⟨fs,t,q⟩:=lB ok (rs:=rs) (λy hy=>hr y (AN _ hy)) r2;obtain⟨rest,e⟩:=hr x AJ;cases (show u=Value.ref x.1 from r1);obtain⟨_,EE,rv,o,ho,hc,n,hd⟩:=(show aY P w H h x.1 (.tup (.str x.2::rest)) from ok x.1 _ e)
   cases rv with
   | @cons _ f _ its' rf _ =>
    obtain⟨tk,rfl⟩:=rf;exact⟨.str x.2 tk::fs,KatTups.cons ho hc hd (by simp) t,.cons _ _ q⟩
theorem jC {xs:List V}{us:List zz9} (r:av xs us):∀{ps:List Nat},(∀i∈ps,i < xs.length)->av (ps.map λi=>xs.getD i .non) (ps.map λi=>us.getD i Value.none)
 | [],_=>.nil
 | i::ps,h=>by
  have hi:=h i AJ;obtain⟨u,e,ru⟩:=r.get (AD hi);refine .cons ?_ (jC r λj hj=>h j (AN _ hj));show RelV (xs.getD i .non) (us.getD i Value.none);rw [Bs,Bs,AD hi,e];exact ru
theorem lR {α:Type} (d:α) (xs:List α) {p:Array Nat} (h:Pm xs.length p):(p.toList.map λi=>xs.getD i d).Perm xs:=by
 have hp:p.toList.Perm (List.range xs.length):=by simpa using Ee.mp h
 have e:(List.range xs.length).map (λi=>xs.getD i d)=xs:=by
  apply EA
  ·simp
  ·intro i h1 h2
   simp [h2]
 exact (hp.map _).trans (by rw [e])
section
variable {X:Cx}
theorem rg:bJ X (.builtin "sorted") (λxs H Q=>∃(p:Addr) (rs:List (Addr×Str)),xs=[.ref p]/\(EF X.K H p (refs rs)\/EG X.K H p (refs rs))/\pD H rs/\rs.length < 64/\(rs.map (·.2)).Nodup /\
  ∀(FC:List (Addr×Str)) (q:Addr),FC.Perm rs->(FC.map (·.2)).Pairwise FU->H q=none->Q (.ref q) (upd H q (.lst (refs FC)))):=by
 intro pins s σ H xs us Q I r h;obtain⟨p,rs,rfl,hq,hR,J1,Fz,q⟩:=h;obtain⟨u,rfl,rx⟩:=vals1 r;cases rx;have core:∀(T:String) (o:Obj) (EE:List zz9) (n:Nat),(T="list"\/T="tuple")->s.heap.get? p=some o->o.cls=.type T->o.data=.seq EE.toArray n->av (refs rs) EE ->
   wpAny (model X.prog X.w) X.A (call (.builtin "sorted") [.ref p]) (EP X pins σ Q) X.xe s:=λT o EE n hT ho hc hd r'=>by
  have hl:=r'.length;have Gw:EE.length=rs.length:=by rw [<- hl];simp
  have O:Ord EE.length (λi j=>decide (((rs.map (·.2)).getD i Str.empty).cps.toList < ((rs.map (·.2)).getD j Str.empty).cps.toList)):=by
   refine⟨λi j k h1 h2=>?_,λi=>?_,λi j hi hj FW=>?_⟩
   ·exact decide_eq_true (Ef (of_decide_eq_true h1) (of_decide_eq_true h2))
   ·exact decide_eq_false (D0 _)
   ·have Gx:i < (rs.map (·.2)).length:=by simpa [<- Gw] using hi
    have FK:j < (rs.map (·.2)).length:=by simpa [<- Gw] using hj
    rw [Bs,Bs,AD Gx,AD FK];have ne:(rs.map (·.2))[i]≠(rs.map (·.2))[j]:=by
     rcases CK FW with y | y
     ·exact Bb.mp Fz i j Gx FK y
     ·exact λz=>Bb.mp Fz j i FK Gx y z.symm
    exact (j7 ne).imp decide_eq_true decide_eq_true
  refine nZ hT ho hc hd (by omega) O (λh2 s' FO=>?_) λpm hp ha=>?_
  ·obtain⟨fs,t,hS⟩:=lB (I.hok.kept FO) hR r'
   have GQ:0 < fs.length:=by
    have:=hS.length;simp at this;omega
   exact yu t hS GQ Fz
  ·obtain⟨e,he⟩:=sortedAll_at s.heap EE (dW EE pm).toArray
   have E8:Pm rs.length pm:=by rw [<- Gw];exact hp
   have EM:∀i∈pm.toList,i < rs.length:=λi hi=>by
    have:i∈(List.toArray (List.range rs.length)):=E8.mem_iff.mp (by simpa using hi);simpa using this
   have hv:av ((pm.toList.map λi=>(refs rs).getD i .non)) (dW EE pm):=jC r' λi hi=>by simpa using EM i hi
   have LL:(pm.toList.map λi=>(refs rs).getD i .non)=refs (pm.toList.map λi=>rs.getD i (0,Str.empty)):=by
    unfold refs;rw [Bf];exact Cp λi hi=>by simp [EM i hi]
   rw [LL] at hv;have KF:H (s.heap.objs.size + 1)=none:=I.hok.fresh (Cu _);have OL:=lR (0,Str.empty) rs E8;refine⟨.ref (s.heap.objs.size + 1),_,I.laid (t':=s.toks) (o:=.lst (refs (pm.toList.map λi=>rs.getD i (0,Str.empty)))) (λb o z=>sortedAll_old z) (Cu _) ⟨?_,dW EE pm,e,hv,?_⟩,rfl,q _ _ OL ?_ KF⟩
   ·unfold refs
    rw [Av,OL.length_eq,Br];omega
   ·simpa [seqObj] using he
   ·rw [Bf,Ca]
    refine Bb.mpr λi j hi hj FW=>?_;have Ib:=hp.size;have GP:i < pm.size:=by simpa using hi
    have JY:j < pm.size:=by simpa using hj
    have z:=of_decide_eq_true (ha i j FW (by omega));rw [ft GP,ft JY] at z;show ((rs.getD pm.toList[i] (0,Str.empty)).2).cps.toList < ((rs.getD pm.toList[j] (0,Str.empty)).2).cps.toList;have b1:=EM pm.toList[i] (Bt _);have b2:=EM pm.toList[j] (Bt _);simp only [Array.getElem_toList] at b1 b2 ⊢;simpa [b1,b2] using z
 rcases hq with hq | hq
 ·obtain⟨EE,r',pl,hz⟩:=I.list hq
  obtain⟨o,ho,hc,n,hd⟩:=pl.isList;exact core "list" o EE n (.inl rfl) ho hc hd r'
 ·obtain⟨EE,r',pl,hz⟩:=I.tuple hq
  obtain⟨o,ho,hc,n,hd⟩:=pl;exact core "tuple" o EE n (.inr rfl) ho hc hd r'
end
end L2
namespace L2
open PySem PySem.Spec PyProof.Rows
def QX (x:Str):It:=⟨λi _=>i < x.length,λi H v H'=>H'=H/\∃c,x.cps[i]?=some c/\v=.str ⟨#[c]⟩,λi _=>x.length<=i⟩
theorem vJ {P:Program}{w:World}{K:zz7}{tg:Expr} (x:Str) (t:Tok) (it:Addr):Turn P w K tg (QX x) [it] it (λi h=>h.IsStrIter it "str_ascii_iterator" x t i) where
 mem:=by simp
 obj:=λi h st b hb=>by
  have e:b=it:=by simpa using hb
  subst e;obtain⟨o,e,c,d⟩:=st;exact⟨o,e,λv z=>by rw [d] at z;cases z⟩
 keep:=λi h h' st k=>by
  obtain⟨o,e,r⟩:=st;exact⟨o,k it (by simp) o e,r⟩
 item:=by
  intro X hP hw hK hc i pins s σ H E I hf st hg;subst hP hw hK;have QF:i < x.cps.size:=hg;obtain⟨f0,f1,f2,f3,f4,f5⟩:=hf it (by simp);refine wpAny_pyNext_ascii_item st (BE QF) λh' Fb sb=>?_;have I1:Inv X pins σ H { s with heap:=h',toks:=s.toks + 1 }:=I.turned (λb o hb e=>(sb.2 b hb).trans e) f0 f1 f3 f4 f5;obtain⟨o,e,c,d⟩:=id Fb;exact⟨_,rfl,gQ (s:={ s with heap:=h',toks:=s.toks + 1 }) e c d (by decide) ⟨.str ⟨#[x.cps[i]]⟩,H,I1,⟨_,rfl⟩,⟨rfl,_,BE QF,rfl⟩,Fb,λb hb=>(hf b hb).1⟩⟩
 done:=by
  intro X hP hw hK hc i pins s σ H E I hf st hg;subst hP hw hK;have QF:x.cps.size<=i:=hg;obtain⟨f0,f1,f2,f3,f4,f5⟩:=hf it (by simp);exact wpAny_pyNext_ascii_end (I.ok.hd hc) st (C3 QF) λh' eb=>⟨rfl,I.turned (t':=s.toks) (λb o hb e=>eb b o hb e) f0 f1 f3 f4 f5⟩
 self:=λA i s Q E st h=>wpAny_pyIter_striter_ascii st h
section
variable {X:Cx}{tg:Expr}
def zZ (tl:TE):TI:=λσ H R=>tl σ H λv H1=>∃x:Str,v=.str x/\x.cps.all (· < 128)=true/\R (QX x) H1
theorem x6 {l:Expr}{tl:TE} (hl:PE X l tl):PI X tg l (zZ tl):=by
 intro pins s σ H R I h;refine EI (hl pins s σ H _ I h) λv s1 ⟨x,H1,I1,r1,q1⟩=>?_;obtain⟨y,rfl,ha,q⟩:=q1;obtain⟨t,rfl⟩:=r1;refine wpAny_pyIter_ascii ha ?_;refine⟨s1.heap.objs.size,[s1.heap.objs.size],_,_,H1,rfl,I1.kept (t':=s1.toks) λb o e=>AA _ e,vJ y t _,⟨_,AS _ rfl,rfl,rfl⟩,λb hb=>?_,q⟩;have e:b=s1.heap.objs.size:=by simpa using hb
 subst e;exact I1.fpOk (AF _) (I1.hok.fresh (AF _))
theorem ur {prog:Program}{w:World}{A:Around}{E:zz9->zz8->Prop}{s:zz8}{t sl:Addr}{items:Array zz9}{vl vu:zz9}{lo hi:Option Int}{Q:zz9->zz8->Prop} (ht:IsTup s.heap t items) (hs:s.heap.IsSliceOf sl vl vu .none) (pl:IsPart vl lo) (pu:IsPart vu hi)
  (h0:HT.sIx items.size 0 lo=0) (h1:HT.sIx items.size items.size hi=items.size) (h:Q (.ref t) s):wpAny (model prog w) A (getItem (.ref t) (.ref sl)) Q E s:=by
 obtain⟨os,Jt,HG,ND⟩:=id hs;have Ua:s.TypeIs (.ref sl) "slice":=⟨os,Jt,HG⟩
 unfold getItem
 try with_reducible refine BJ ?_
 first | refine Aw (Az ?_) | skip
 refine Aw (wpAny_sequenceKey ht.typeIs (by decide) (Aw (BK (name:=Str.ofString "__getitem__") ht.typeIs BP
  (BG BP ht.typeIs entry_tuple_getitem ?_ (args_tuple_getitem _ _)))))
 show wpAny _ _ (Builtin.Tuple.tupleItemsOf (.ref t) >>= _) _ _ s;refine Aw (tupleItemsOf_ ht (Aw (Dj Ua ?_)));rw [if_pos (by decide)];refine Aw (HT.qE hs pl pu ?_);show wpAny _ _ (if (((HT.sIx items.size 0 lo:Nat):Int) == 0 && (1:Int) == 1 && (HT.sIx items.size items.size hi - HT.sIx items.size 0 lo) == items.size)=true then _ else _) _ _ s;rw [h0,h1,if_pos (by simp)];refine Aw (Aw (Dj ht.typeIs (Az ?_)));rw [if_pos (by rfl)];exact Aw (C5 (Az ⟨_,rfl,Az h⟩))
def zw (K:zz7):V->Option Int->Option Int->Hp->VK->Prop:=λx lo hi H Q=>∃a xs,x=.ref a/\EG K H a xs /\
 (cA xs lo hi=xs->Q (.ref a) H)/\∀p,H p=none->Q (.ref p) (upd H p (.tup (cA xs lo hi)))
theorem xl:QM X (zw X.K):=by
 intro pins s σ H x v vl vu lo hi sl Q I rx hs pl pu h;obtain⟨a,xs,rfl,hx,q1,q2⟩:=h
 by_cases hw:HT.sIx xs.length 0 lo=0/\HT.sIx xs.length xs.length hi=xs.length
 ·cases rx
  obtain⟨EE,r,ht,hz⟩:=I.tuple hx;have EJ:EE.toArray.size=xs.length:=by rw [AR];exact r.length.symm
  refine⟨"tuple",_,BP.lookup,ht.typeIs,ur ht hs pl pu (by rw [EJ];exact hw.1) (by rw [EJ];exact hw.2) ⟨.ref a,H,I,rfl,q1 ?_⟩⟩;unfold cA;rw [hw.1,hw.2];simp
 ·exact x5 pins s σ H (.ref a) v vl vu lo hi sl Q I rx hs pl pu ⟨a,xs,rfl,hx,hw,q2⟩
def pY (K:zz7):R2:=λx y H Q=>∃a b xs ys,x=.ref a/\y=.ref b/\EG K H a xs/\EG K H b ys/\xs.length + ys.length<=sizeLine /\
 (xs=[]->Q (.ref b) H)/\(ys=[]->Q (.ref a) H)/\∀p,H p=none->Q (.ref p) (upd H p (.tup (xs++ys)))
theorem jV:FG X (binaryOp .Add) (pY X.K):=by
 intro pins s σ H x y v u Q I rx ry h;obtain⟨a,b,xs,ys,rfl,rfl,ha,hb,hz,q0,q1,q2⟩:=h
 by_cases hx:xs=[]
 ·subst hx
  cases rx;cases ry;obtain⟨EE,r1,p1,_⟩:=I.tuple ha;obtain⟨Gd,r2,p2,_⟩:=I.tuple hb;cases r1;obtain⟨⟨cls,dd,data,sl⟩,ho,hc,n,hd⟩:=id p1;obtain⟨⟨Ut,QI,data2,Qb⟩,Ie,KG,n2,hd2⟩:=id p2;simp only at hc hd KG hd2;subst hc hd KG hd2;exact concat_meets ⟨_,ho,rfl⟩ ⟨_,Ie,rfl⟩ noFill_tuple_add seq_tuple_add Dv Dp (Di _ _)
   (tuple_addW0 a b _ Gd.toArray n n2 dd QI sl Qb (by simp)) ⟨ho,Ie,⟨.ref b,H,I,rfl,q0 rfl⟩⟩
 ·exact wV pins s σ H (.ref a) (.ref b) v u Q I rx ry ⟨a,b,xs,ys,rfl,rfl,ha,hb,hx,hz,q1,λ_=>q2⟩
end
section
variable {K:zz7}{g:TG}{tt:TT}{te:TE}{σ':St}{fin:List V->Hp->Prop}{H1:Hp}
theorem iJ {J:It}{n:Nat} (hn:n < sizeLine) (Pv:Nat->List V->St->Hp->Prop) (Yd:Nat->V->Prop) (h0:Pv 0 [] σ' H1) (hl:∀i ys σ H,i<=n->Pv i ys σ H->ys.length<=i)
  (Z8:∀i ys σ H,i < n->Pv i ys σ H->J.go i H) (GE:∀ys σ H,Pv n ys σ H->J.stop n H) (hy:∀i ys σ H x H',i < n->Pv i ys σ H->J.yld i H x H'->H'=H/\Yd i x)
  (hs:∀i x ys σ H,i < n->Yd i x->Pv i ys σ H->g x σ H λσ2 H2=>tt σ2 H2 λb H3=>if b=true then te σ2 H3 (λv H4=>Pv (i + 1) (ys++[v]) σ2 H4) else Pv (i + 1) ys σ2 H3) (hd:∀ys σ H,Pv n ys σ H->fin ys H) :
  Hl J g tt te σ' fin H1:=by
 refine⟨λi m ys σ H=>m=n - i/\i<=n/\Pv i ys σ H,⟨n,by simp,Be _,h0⟩,?_⟩;rintro i m ys σ H ⟨rfl,hi,p⟩;have hly:=hl i ys σ H hi p
 by_cases EM:i < n
 ·refine .inr ⟨Z8 i ys σ H EM p,by omega,λFQ σ2 H2=>Pv (i + 1) FQ σ2 H2,λFQ σ2 H2 q=>⟨n - (i + 1),by omega,rfl,EM,q⟩,λx H' y=>?_⟩
  obtain⟨e,yd⟩:=hy i ys σ H x H' EM p y;subst e;exact hs i x ys σ H' EM yd p
 ·have e:i=n:=by omega
  subst e;exact .inl ⟨GE ys σ H p,by omega,hd ys σ H p⟩
theorem gE {a:Addr}{xs:List V} (hn:xs.length < sizeLine) (Pv:Nat->List V->St->Hp->Prop) (h0:Pv 0 [] σ' H1) (hl:∀i ys σ H,i<=xs.length->Pv i ys σ H->ys.length<=i/\EG K H a xs)
  (hs:∀i x ys σ H,xs[i]?=some x->Pv i ys σ H->g x σ H λσ2 H2=>tt σ2 H2 λb H3=>if b=true then te σ2 H3 (λv H4=>Pv (i + 1) (ys++[v]) σ2 H4) else Pv (i + 1) ys σ2 H3) (hd:∀ys σ H,Pv xs.length ys σ H->fin ys H) :
  Hl (KQ K a) g tt te σ' fin H1 :=
 iJ hn Pv (λi x=>xs[i]?=some x) h0 (λi ys σ H hi p=>(hl i ys σ H hi p).1) (λi ys σ H hi p=>⟨xs,xs[i],(hl i ys σ H (BH hi) p).2,by simp [hi]⟩) (λys σ H p=>⟨xs,(hl _ ys σ H (AF _) p).2,AF _⟩)
  (λi ys σ H x H' hi p y=>⟨y.1,y.2 xs (hl i ys σ H (BH hi) p).2⟩) (λi x ys σ H _ yd p=>hs i x ys σ H yd p) hd
theorem jH {a:Addr}{xs:List V} (hn:xs.length < sizeLine) (Pv:Nat->List V->St->Hp->Prop) (h0:Pv 0 [] σ' H1) (hl:∀i ys σ H,i<=xs.length->Pv i ys σ H->ys.length<=i/\EF K H a xs)
  (hs:∀i x ys σ H,xs[i]?=some x->Pv i ys σ H->g x σ H λσ2 H2=>tt σ2 H2 λb H3=>if b=true then te σ2 H3 (λv H4=>Pv (i + 1) (ys++[v]) σ2 H4) else Pv (i + 1) ys σ2 H3) (hd:∀ys σ H,Pv xs.length ys σ H->fin ys H) :
  Hl (J6 K a) g tt te σ' fin H1 :=
 iJ hn Pv (λi x=>xs[i]?=some x) h0 (λi ys σ H hi p=>(hl i ys σ H hi p).1) (λi ys σ H hi p=>⟨xs,xs[i],(hl i ys σ H (BH hi) p).2,by simp [hi]⟩) (λys σ H p=>⟨xs,(hl _ ys σ H (AF _) p).2,AF _⟩)
  (λi ys σ H x H' hi p y=>⟨y.1,y.2 xs (hl i ys σ H (BH hi) p).2⟩) (λi x ys σ H _ yd p=>hs i x ys σ H yd p) hd
theorem uc {lo:Int}{n:Nat} (hn:n < sizeLine) (Pv:Nat->List V->St->Hp->Prop) (h0:Pv 0 [] σ' H1) (hl:∀i ys σ H,i<=n->Pv i ys σ H->ys.length<=i)
  (hs:∀i ys σ H,i < n->Pv i ys σ H->g (.int (lo + i)) σ H λσ2 H2=>tt σ2 H2 λb H3=>if b=true then te σ2 H3 (λv H4=>Pv (i + 1) (ys++[v]) σ2 H4) else Pv (i + 1) ys σ2 H3) (hd:∀ys σ H,Pv n ys σ H->fin ys H) :
  Hl (KR lo n) g tt te σ' fin H1 :=
 iJ hn Pv (λi x=>x=.int (lo + i)) h0 hl (λi ys σ H hi p=>hi) (λys σ H p=>AF _) (λi ys σ H x H' hi p y=>y) (λi x ys σ H hi yd p=>by subst yd;exact hs i ys σ H hi p) hd
theorem wY {x:Str} (hn:x.length < sizeLine) (Pv:Nat->List V->St->Hp->Prop) (h0:Pv 0 [] σ' H1) (hl:∀i ys σ H,i<=x.length->Pv i ys σ H->ys.length<=i)
  (hs:∀i c ys σ H,x.cps[i]?=some c->Pv i ys σ H->g (.str ⟨#[c]⟩) σ H λσ2 H2=>tt σ2 H2 λb H3=>if b=true then te σ2 H3 (λv H4=>Pv (i + 1) (ys++[v]) σ2 H4) else Pv (i + 1) ys σ2 H3) (hd:∀ys σ H,Pv x.length ys σ H->fin ys H) :
  Hl (QX x) g tt te σ' fin H1 :=
 iJ hn Pv (λi v=>∃c,x.cps[i]?=some c/\v=.str ⟨#[c]⟩) h0 hl (λi ys σ H hi p=>hi) (λys σ H p=>AF _) (λi ys σ H v H' hi p y=>y) (λi v ys σ H hi yd p=>by obtain⟨c,e,rfl⟩:=yd;exact hs i c ys σ H e p) hd
end
section
variable {K:zz7}{tt:TT}{te:TE}{σ':St}{fin:List V->Hp->Prop}{H1:Hp}{j:Nat}
theorem gu {a:Addr}{xs:List V} (hn:xs.length < sizeLine) (Pv:Nat->List V->St->Hp->Prop) (h0:Pv 0 [] σ' H1) (hl:∀i ys σ H,i<=xs.length->Pv i ys σ H->ys.length<=i/\EG K H a xs)
  (hs:∀i x ys σ H,xs[i]?=some x->Pv i ys σ H->te (σ.set j (some x)) H λv H4=>Pv (i + 1) (ys++[v]) (σ.set j (some x)) H4) (hd:∀ys σ H,Pv xs.length ys σ H->fin ys H):Hl (KQ K a) (cm j) cG te σ' fin H1 :=
 gE hn Pv h0 hl (λi x ys σ H hx p=>by unfold cm cG;exact bK (hs i x ys σ H hx p)) hd
theorem c9 {a:Addr}{xs:List V} (hn:xs.length < sizeLine) (Pv:Nat->List V->St->Hp->Prop) (h0:Pv 0 [] σ' H1) (hl:∀i ys σ H,i<=xs.length->Pv i ys σ H->ys.length<=i/\EF K H a xs)
  (hs:∀i x ys σ H,xs[i]?=some x->Pv i ys σ H->te (σ.set j (some x)) H λv H4=>Pv (i + 1) (ys++[v]) (σ.set j (some x)) H4) (hd:∀ys σ H,Pv xs.length ys σ H->fin ys H):Hl (J6 K a) (cm j) cG te σ' fin H1 :=
 jH hn Pv h0 hl (λi x ys σ H hx p=>by unfold cm cG;exact bK (hs i x ys σ H hx p)) hd
theorem eQ {lo:Int}{n:Nat} (hn:n < sizeLine) (Pv:Nat->List V->St->Hp->Prop) (h0:Pv 0 [] σ' H1) (hl:∀i ys σ H,i<=n->Pv i ys σ H->ys.length<=i)
  (hs:∀i ys σ H,i < n->Pv i ys σ H->te (σ.set j (some (.int (lo + i)))) H λv H4=>Pv (i + 1) (ys++[v]) (σ.set j (some (.int (lo + i)))) H4) (hd:∀ys σ H,Pv n ys σ H->fin ys H):Hl (KR lo n) (cm j) cG te σ' fin H1 :=
 uc hn Pv h0 hl (λi ys σ H hx p=>by unfold cm cG;exact bK (hs i ys σ H hx p)) hd
theorem uQ {x:Str} (hn:x.length < sizeLine) (Pv:Nat->List V->St->Hp->Prop) (h0:Pv 0 [] σ' H1) (hl:∀i ys σ H,i<=x.length->Pv i ys σ H->ys.length<=i)
  (hs:∀i c ys σ H,x.cps[i]?=some c->Pv i ys σ H->te (σ.set j (some (.str ⟨#[c]⟩))) H λv H4=>Pv (i + 1) (ys++[v]) (σ.set j (some (.str ⟨#[c]⟩))) H4) (hd:∀ys σ H,Pv x.length ys σ H->fin ys H):Hl (QX x) (cm j) cG te σ' fin H1 :=
 wY hn Pv h0 hl (λi c ys σ H hx p=>by unfold cm cG;exact bK (hs i c ys σ H hx p)) hd
theorem cE {a:Addr}{xs:List V} (hn:xs.length < sizeLine) (Pv:Nat->List V->St->Hp->Prop) (h0:Pv 0 [] σ' H1) (hl:∀i ys σ H,i<=xs.length->Pv i ys σ H->ys.length<=i/\EG K H a xs)
  (hs:∀i x ys σ H,xs[i]?=some x->Pv i ys σ H->tt (σ.set j (some x)) H λb H3=>if b=true then te (σ.set j (some x)) H3 (λv H4=>Pv (i + 1) (ys++[v]) (σ.set j (some x)) H4) else Pv (i + 1) ys (σ.set j (some x)) H3)
  (hd:∀ys σ H,Pv xs.length ys σ H->fin ys H):Hl (KQ K a) (cm j) tt te σ' fin H1:=gE hn Pv h0 hl hs hd
theorem fH {a:Addr}{xs:List V} (hn:xs.length < sizeLine) (Pv:Nat->List V->St->Hp->Prop) (h0:Pv 0 [] σ' H1) (hl:∀i ys σ H,i<=xs.length->Pv i ys σ H->ys.length<=i/\EF K H a xs)
  (hs:∀i x ys σ H,xs[i]?=some x->Pv i ys σ H->tt (σ.set j (some x)) H λb H3=>if b=true then te (σ.set j (some x)) H3 (λv H4=>Pv (i + 1) (ys++[v]) (σ.set j (some x)) H4) else Pv (i + 1) ys (σ.set j (some x)) H3)
  (hd:∀ys σ H,Pv xs.length ys σ H->fin ys H):Hl (J6 K a) (cm j) tt te σ' fin H1:=jH hn Pv h0 hl hs hd
end
section
variable {X:Cx}{pins:List (Addr×Obj)}{σ:St}{H:Hp}{s:zz8}{h':Heap}
theorem Inv.turnedS {t':Nat}{ch:List Addr} (I:Inv X pins σ H s) (k:∀b o,b∉ch->s.heap.get? b=some o->h'.get? b=some o) (hf:∀b∈ch,bR X pins H b):Inv X pins σ H { s with heap:=h',toks:=t' }:=by
 have Ou:∀b u,H b=some u->b∉ch:=λb u e z=>by rw [(hf b z).1] at e;cases e
 have hL:X.env.locals∉ch:=λz=>(hf _ z).2.1 rfl;refine I.step (g':=s.gens) (d':=s.drawn) (ch:=ch) (λb hb=>⟨(hf b hb).2.2.2.1,(hf b hb).2.1,(hf b hb).2.2.2.2.1,(hf b hb).2.2.2.2.2⟩) (λb o _ _ hc e _=>k b o hc e) (λb o _ _ hc e _=>⟨o.slots,k b o hc e⟩) (λ_ _ _ _ n=>n)
  (λb o hc e=>⟨o,k b o hc e⟩) (λ_ _ e=>e) (λ_ _ _ e=>e) (λb ps e=>⟨#[],by rw [e];simp⟩) (λm hm=>?_) (λb u e=>?_) I.bare
 ·obtain⟨o,es,ep,ho,r⟩:=hm
  exact⟨o,es,ep,k _ o hL ho,r⟩
 ·refine (I.hok b u e).stay (λc v hc q=>k c v ?_ q) (λ_ q=>q) λ_ _ q=>q
  rcases hc with z | z
  ·rw [z];exact Ou b u e
  ·exact Ou c _ z
end
def QW (K:zz7) (a b:Addr):It :=
 ⟨λi H=>∃xs ys x y,EF K H a xs/\EF K H b ys/\xs[i]?=some x/\ys[i]?=some y,
  λi H v H'=>∃T x y,v=.ref T/\H T=none/\H'=upd H T (.tup [x,y])/\(∀xs,EF K H a xs->xs[i]?=some x)/\∀ys,EF K H b ys->ys[i]?=some y,
  λi H=>∃xs ys,EF K H a xs/\EF K H b ys/\(xs.length<=i\/ys.length<=i)⟩
def yU (z TI TO i1 i2 l1 l2:Addr) (i:Nat) (h:Heap):Prop:=IsZip h z TI TO .none/\IsPair h TI (.ref i1) (.ref i2)/\(∃a b,IsPair h TO a b)/\h.IsListIter i1 l1 i/\h.IsListIter i2 l2 i
theorem vK {P:Program}{w:World}{K:zz7}{elts:List Expr}{x1}{pos:Pos} (z TI TO i1 i2 l1 l2:Addr) (D:ZipApart z TI TO i1 i2 l1 l2) :
  Turn P w K (.Tuple elts x1 pos) (QW K l1 l2) [z,TI,TO,i1,i2] z (yU z TI TO i1 i2 l1 l2) where
 mem:=by simp
 obj:=λi h st b hb=>by
  obtain⟨hz,JI,⟨a,c,J0⟩,⟨o1,e1,c1,d1⟩,⟨o2,e2,c2,d2⟩⟩:=st;simp only [AI,BM,or_false] at hb
  rcases hb with rfl | rfl | rfl | rfl | rfl
  ·exact⟨_,hz,λv q=>by cases q⟩
  ·exact⟨_,JI,λv q=>by cases q⟩
  ·exact⟨_,J0,λv q=>by cases q⟩
  ·exact⟨_,e1,λv q=>by rw [d1] at q;cases q⟩
  ·exact⟨_,e2,λv q=>by rw [d2] at q;cases q⟩
 keep:=λi h h' st k=>by
  obtain⟨hz,JI,⟨a,c,J0⟩,h1,h2⟩:=st;exact⟨k z (by simp) _ hz,k TI (by simp) _ JI,⟨a,c,k TO (by simp) _ J0⟩,h1.at λo e=>k i1 (by simp) o e,h2.at λo e=>k i2 (by simp) o e⟩
 item:=by
  intro X hP hw hK hc i pins s σ H E I hf st hg;subst hP hw hK;obtain⟨xs,ys,x,y,FZ,Gf,hx,hy⟩:=hg;obtain⟨hz,JI,⟨a,c,J0⟩,h1,h2⟩:=id st;obtain⟨GN,Kh,p1,Ls⟩:=I.list FZ;obtain⟨Gd,Qg,p2,Qw⟩:=I.list Gf;obtain⟨u1,Oz,Rh⟩:=Kh.get hx;obtain⟨u2,VR,XO⟩:=Qg.get hy;refine wpAny_pyNext_zip_item D hz JI J0 h1 h2 p1.isList p2.isList (x:=u1) (y:=u2) (by simpa using Oz) (by simpa using VR) λh' a1 a2 a3 a4 a5 a6 a7=>?_;refine⟨_,rfl,wpAny_letOwnedTupleGo_zip (s:={ s with heap:=h' }) a1 λPq z2 sb=>?_⟩;have JQ:=sb.extBut;generalize hT:s.heap.objs.size=T at *;have lt:∀{b:Addr}{o:Obj},s.heap.get? b=some o->b≠T:=λ{b o} e=>by rw [<- hT];exact Bh (AQ e)
  have fresh:H T=none:=by rw [<- hT];exact I.hok.fresh (AF _)
  have EZ:∀b∈[z,TI,TO,i1,i2],b≠T:=λb hb=>by
   obtain⟨o1,e1,_⟩:=h1;obtain⟨o2,e2,_⟩:=h2;simp only [AI,BM,or_false] at hb
   rcases hb with rfl | rfl | rfl | rfl | rfl
   ·exact lt hz
   ·exact lt JI
   ·exact lt J0
   ·exact lt e1
   ·exact lt e2
  have I0:Inv X pins σ (upd H T (.tup [x,y])) { s with heap:=s.heap.push { cls:=.type "tuple",data:=.seq #[u1,u2] },toks:=s.toks }:=by
   subst hT;exact I.laid (t':=s.toks) (λb o q=>AA _ q) (AF _) ⟨by show 2<=sizeLine;decide,[u1,u2],.cons Rh (.cons XO .nil),_,AS _ rfl,rfl,0,rfl⟩
  have up:∀b o,b∉[z,TI,TO,i1,i2]->(s.heap.push { cls:=.type "tuple",data:=.seq #[u1,u2] }).get? b=some o->Pq.get? b=some o:=λb o hb e=>by
   simp only [AI,BM,or_false,not_or] at hb
   rcases Heap.get?_push_cases e with ⟨e1,e2⟩ | e1
   ·subst e2
    rw [e1,hT];exact JQ _ _ (EZ z (by simp)).symm a5
   ·exact JQ _ _ hb.1 (a7 b o hb.1 hb.2.2.1 hb.2.2.2.1 hb.2.2.2.2 e1)
  have I2:Inv X pins σ (upd H T (.tup [x,y])) { s with heap:=Pq,toks:=s.toks }:=Inv.turnedS (s:={ s with heap:=s.heap.push { cls:=.type "tuple",data:=.seq #[u1,u2] },toks:=s.toks }) (t':=s.toks) (ch:=[z,TI,TO,i1,i2]) I0 up λb hb=>by
   obtain⟨f0,f1⟩:=hf b hb;exact⟨by rw [ao (EZ b hb)];exact f0,f1⟩
  exact⟨.ref T,upd H T (.tup [x,y]),I2,rfl,⟨T,x,y,rfl,fresh,rfl,λws hw=>by rw [I.list_inj hw FZ];exact hx,λws hw=>by rw [I.list_inj hw Gf];exact hy⟩,
   ⟨z2,JQ _ _ D.TIz (a7 _ _ D.TIz D.TITO D.TIi1 D.TIi2 JI),⟨_,_,JQ _ _ D.TOz a2⟩,a3.at λo e=>JQ _ _ D.i1z e,a4.at λo e=>JQ _ _ D.i2z e⟩,λb hb=>by rw [ao (EZ b hb)];exact (hf b hb).1⟩
 done:=by
  intro X hP hw hK hc i pins s σ H E I hf st hg;subst hP hw hK;obtain⟨xs,ys,FZ,Gf,hx⟩:=hg;obtain⟨hz,JI,⟨a,c,J0⟩,h1,h2⟩:=id st;obtain⟨GN,Kh,p1,Ls⟩:=I.list FZ;obtain⟨Gd,Qg,p2,Qw⟩:=I.list Gf;have Gg:=Kh.length;have MV:=Qg.length;refine wpAny_pyNext_zip_end (I.ok.hd hc) D hz JI J0 h1 h2 p1.isList p2.isList ?_ λh' hk=>⟨rfl,I.turnedS (t':=s.toks) (ch:=[z,TI,TO,i1,i2]) (λb o hb e=>?_) hf⟩
  ·rcases hx with q | q
   ·exact .inl (by simp;omega)
   ·exact .inr (by simp;omega)
  ·simp only [AI,BM,or_false,not_or] at hb
   exact hk b o hb.1 hb.2.2.1 hb.2.2.2.1 hb.2.2.2.2 e
 self:=λ_ _ _ _ _ st h=>wpAny_pyIter_zip st.1 h
theorem boot_zip:bootBuiltins "zip"=some (.type "zip"):=by decide +kernel
section
variable {X:Cx}
def zh (K:zz7) (ta:TA):TI:=λσ H R=>ta σ H λvs H1=>∃a b xs ys,vs=[.ref a,.ref b]/\EF K H1 a xs/\EF K H1 b ys/\R (QW K a b) H1
theorem x4 {a b:Expr}{elts:List Expr}{x1}{Iu:Pos}{ta:TA}{p pos:Pos} (hg:Gl X "zip") (hm:X.mg "zip"=none) (ha:PA X [a,b] ta) (hs:starEach [a,b] X.env=[(false,eval a X.env),(false,eval b X.env)]:=by rfl) (Gs:starEach [b] X.env=[(false,eval b X.env)]:=by rfl) :
  PI X (.Tuple elts x1 Iu) (.Call (.Name "zip" p) [a,b] [] pos) (zh X.K ta):=by
 intro pins s σ H R I h;refine Call_ (fm I hg hm boot_zip (Cj (EI (ha pos pins s σ H _ I h) λus s1 ⟨vs,H1,I1,r1,q1⟩=>?_) (by rw [hs,Gs]) (by rw [Gs];rfl)));obtain⟨a',b',xs,ys,rfl,FZ,Gf,q⟩:=q1;obtain⟨u1,u2,rfl,ra,rb⟩:=vals2 r1;cases ra;cases rb;obtain⟨GN,Kh,p1,Ls⟩:=I1.list FZ;obtain⟨Gd,Qg,p2,Qw⟩:=I1.list Gf;have l1:a' < s1.heap.objs.size:=by obtain⟨o,n,e,_⟩:=p1;exact AQ e
 have l2:b' < s1.heap.objs.size:=by obtain⟨o,n,e,_⟩:=p2;exact AQ e
 refine call_zip_2 p1.isList p2.isList λh' hz JI J0 Tr IB hsz hk=>?_;refine wpAny_pyIter_zip hz ?_;refine⟨_,[s1.heap.objs.size + 4,s1.heap.objs.size + 2,s1.heap.objs.size + 3,s1.heap.objs.size,s1.heap.objs.size + 1],_,_,H1,rfl,I1.kept (t':=s1.toks) hk,vK _ _ _ _ _ _ _ (zipApart_new l1 l2),⟨hz,JI,⟨_,_,J0⟩,Tr,IB⟩,λb hb=>?_,q⟩;have Gq:s1.heap.objs.size<=b:=by
  simp only [AI,BM,or_false] at hb
  rcases hb with rfl | rfl | rfl | rfl | rfl
  ·exact C7 _ _
  ·exact C7 _ _
  ·exact C7 _ _
  ·exact AF _
  ·exact C7 _ _
 exact I1.fpOk Gq (I1.hok.fresh Gq)
end
section
variable {prog:Program}{w:World}{A:Around}{E:zz9->zz8->Prop}{s:zz8}
end
section
variable {X:Cx}
theorem wJ {K:zz7}{g:TG}{tt:TT}{te:TE}{σ':St}{fin:List V->Hp->Prop}{H1:Hp}{a b:Addr}{xs ys:List V} (hn:min xs.length ys.length < sizeLine) (Pv:Nat->List V->St->Hp->Prop) (h0:Pv 0 [] σ' H1)
  (hl:∀i zs σ H,i<=min xs.length ys.length->Pv i zs σ H->zs.length<=i/\EF K H a xs/\EF K H b ys)
  (hs:∀i x y zs σ H T,xs[i]?=some x->ys[i]?=some y->Pv i zs σ H->H T=none->g (.ref T) σ (upd H T (.tup [x,y])) λσ2 H2=>tt σ2 H2 λb H3=>if b=true then te σ2 H3 (λv H4=>Pv (i + 1) (zs++[v]) σ2 H4) else Pv (i + 1) zs σ2 H3)
  (hd:∀zs σ H,Pv (min xs.length ys.length) zs σ H->fin zs H):Hl (QW K a b) g tt te σ' fin H1:=by
 refine⟨λi m zs σ H=>m=min xs.length ys.length - i/\i<=min xs.length ys.length/\Pv i zs σ H,⟨min xs.length ys.length,by simp,Be _,h0⟩,?_⟩;rintro i m zs σ H ⟨rfl,hi,p⟩;obtain⟨q0,q1,q2⟩:=hl i zs σ H hi p
 by_cases EM:i < min xs.length ys.length
 ·have h1:i < xs.length:=by omega
  have h2:i < ys.length:=by omega
  refine .inr ⟨⟨xs,ys,xs[i],ys[i],q1,q2,by simp [h1],by simp [h2]⟩,by omega,λUJ σ2 H2=>Pv (i + 1) UJ σ2 H2,λUJ σ2 H2 q=>⟨min xs.length ys.length - (i + 1),by omega,rfl,EM,q⟩,λv H' y=>?_⟩;obtain⟨T,x,y,rfl,hT,rfl,e1,e2⟩:=y;exact hs i x y zs σ H T (e1 xs q1) (e2 ys q2) p hT
 ·have e:i=min xs.length ys.length:=by omega
  subst e;refine .inl ⟨⟨xs,ys,q1,q2,?_⟩,by omega,hd zs σ H p⟩
  rcases Nat.le_total xs.length ys.length with z | z
  ·exact .inl (by omega)
  ·exact .inr (by omega)
end
section
variable {κ:Type} [DecidableEq κ]
def bf (kvs:List (κ×V)) (k:κ):Option V:=(kvs.find? λkv=>decide (kv.1=k)).map (·.2)
def putK (kvs:List (κ×V)) (k:κ) (v:V):List (κ×V) :=
 if (kvs.any λkv=>decide (kv.1=k))=true then kvs.map (λkv=>if kv.1=k then (kv.1,v) else kv) else kvs++[(k,v)]
def Ap (kvs:List (κ×V)) (k:κ):List (κ×V):=kvs.filter λkv=>decide (kv.1≠k)
theorem cR {p:κ×V}{r:List (κ×V)}{k:κ} (e:p.1=k):bf (p::r) k=some p.2:=by simp [bf,C1,e]
theorem cM {p:κ×V}{r:List (κ×V)}{k:κ} (e:¬ p.1=k):bf (p::r) k=bf r k:=by simp [bf,C1,e]
theorem eA (k:κ):∀kvs:List (κ×V),(kvs.any λkv=>decide (kv.1=k))=(bf kvs k).isSome
 | []=>rfl
 | p::r=>by
  rw [Dx]
  by_cases e:p.1=k
  ·simp only [cR e,decide_eq_true e,Bool.true_or,Option.isSome_some]
  ·rw [cM e,decide_eq_false e,Bool.false_or];exact eA k r
theorem mG (k j:κ) (y:V):∀kvs:List (κ×V),bf (kvs.map λkv=>if kv.1=k then (kv.1,y) else kv) j=(bf kvs j).map λx=>if j=k then y else x
 | []=>rfl
 | p::r=>by
  have ih:=mG k j y r;rw [Bj]
  by_cases h:p.1=k
  ·rw [if_pos h]
   by_cases e:p.1=j
   ·rw [cR (p:=(p.1,y)) e,cR e,Dg,if_pos (e.symm.trans h)]
   ·rw [cM (p:=(p.1,y)) e,cM e,ih]
  ·rw [if_neg h]
   by_cases e:p.1=j
   ·rw [cR (p:=p) e,cR e,Dg,if_neg (λz=>h (e.trans z))]
   ·rw [cM (p:=p) e,cM e,ih]
theorem mn (k j:κ) (y:V):∀kvs:List (κ×V),bf kvs k=none->bf (kvs++[(k,y)]) j=if j=k then some y else bf kvs j
 | [],_=>by
  by_cases e:k=j
  ·rw [if_pos e.symm];exact cR (p:=(k,y)) e
  ·rw [if_neg (λz=>e z.symm)];exact cM (p:=(k,y)) e
 | p::r,hn=>by
  rw [List.cons_append];have hk:¬ p.1=k:=λz=>by rw [cR z] at hn;cases hn
  rw [cM hk] at hn;have ih:=mn k j y r hn
  by_cases e:p.1=j
  ·rw [cR e,cR e,if_neg (λz=>hk (e.trans z))]
  ·rw [cM e,cM e,ih]
theorem nB (kvs:List (κ×V)) (k j:κ) (y:V):bf (putK kvs k y) j=if j=k then some y else bf kvs j:=by
 unfold putK
 by_cases a:(kvs.any λkv=>decide (kv.1=k))=true
 ·rw [if_pos a,mG]
  rw [eA] at a
  by_cases e:j=k
  ·obtain⟨x,hx⟩:=Ew.mp a
   rw [if_pos e,e,hx,Dg,if_pos rfl]
  ·rw [if_neg e]
   cases bf kvs j with
   | none=>rfl
   | some x=>rw [Dg,if_neg e]
 ·rw [if_neg a]
  refine mn k j y kvs ?_;rw [eA] at a;cases q:bf kvs k with
  | none=>rfl
  | some x=>rw [q] at a;exact (a rfl).elim
theorem fE (kvs:List (κ×V)) (k:κ) (v:V):(putK kvs k v).length<=kvs.length + 1:=by
 unfold putK;split
 ·rw [Av];omega
 ·rw [Ba,Bv,ED];omega
theorem jN {kvs:List (κ×V)}{k:κ} (v:V) (h:bf kvs k=none):putK kvs k v=kvs++[(k,v)]:=by
 unfold putK;rw [eA,h];exact if_neg (by decide)
theorem dI.isSome_eq {o:Option V}{u:Option zz9} (r:dI o u):o.isSome=u.isSome:=by
 cases o with
 | none=>cases u with
  | none=>rfl
  | some _=>exact (show False from r).elim
 | some _=>cases u with
  | none=>exact (show False from r).elim
  | some _=>rfl
theorem KV.val {kvs:List (κ×V)}{vs:List (κ×zz9)} (r:KV kvs vs) (k:κ):dI (bf kvs k) (valueAt vs k):=by
 unfold KV at r
 induction r with
 | nil=>exact True.intro
 | @cons p q ps qs h t ih =>
  obtain⟨h1,h2⟩:=h
  by_cases e:p.1=k
  ·have e':q.1=k:=h1.symm.trans e
   have b:valueAt (q::qs) k=some q.2:=by simp [valueAt,C1,e']
   rw [cR e,b];exact h2
  ·have e':¬ q.1=k:=λz=>e (h1.trans z)
   have b:valueAt (q::qs) k=valueAt qs k:=by simp [valueAt,C1,e']
   rw [cM e,b];exact ih
theorem KV.any {kvs:List (κ×V)}{vs:List (κ×zz9)} (r:KV kvs vs) (k:κ):(kvs.any λkv=>decide (kv.1=k))=vs.any λkv=>decide (kv.1=k):=by
 unfold KV at r
 induction r with
 | nil=>rfl
 | cons h t ih=>rw [Dx,Dx,ih,h.1]
theorem KV.repl {kvs:List (κ×V)}{vs:List (κ×zz9)} (r:KV kvs vs) (k:κ) {y:V}{u:zz9} (ry:RelV y u) :
  KV (kvs.map λkv=>if kv.1=k then (kv.1,y) else kv) (vs.map λkv=>if kv.1=k then (kv.1,u) else kv):=by
 unfold KV at r ⊢
 induction r with
 | nil=>exact .nil
 | @cons p q ps qs h t ih =>
  rw [Bj,Bj];refine .cons ?_ ih;obtain⟨h1,h2⟩:=h
  by_cases e:p.1=k
  ·rw [if_pos e,if_pos (h1.symm.trans e)];exact⟨h1,ry⟩
  ·rw [if_neg e,if_neg (λz=>e (h1.trans z))];exact⟨h1,h2⟩
theorem KV.put {kvs:List (κ×V)}{vs:List (κ×zz9)} (r:KV kvs vs) (k:κ) {y:V}{u:zz9} (ry:RelV y u):KV (putK kvs k y) (stored vs k u):=by
 unfold putK stored;rw [r.any k]
 by_cases e:(vs.any λkv=>decide (kv.1=k))=true
 ·rw [if_pos e,if_pos e];exact r.repl k ry
 ·rw [if_neg e,if_neg e];exact Paired.snoc r ⟨rfl,ry⟩
theorem KV.length {kvs:List (κ×V)}{vs:List (κ×zz9)} (r:KV kvs vs):kvs.length=vs.length:=C8 r
end
theorem fZ {P:Program}{w:World}{k:Key}{u:zz9} (r:RelV (kV k) u):(cN P w).is k u=true:=by
 cases k with
 | inl i=>obtain⟨t,e⟩:=(show ∃t,u=Value.int i t from r);subst e;exact rN P w i t
 | inr x=>obtain⟨t,e⟩:=(show ∃t,u=Value.str x t from r);subst e;exact rV P w x t
theorem mh {P:Program}{w:World}:∀{ks:List Key}{us:List zz9},av (ks.map kV) us->ItemsAre (cN P w) ks us
 | [],_,r=>by rw [Dk] at r;cases r;exact .nil
 | k::ks,_,r=>by
  rw [Bj] at r;cases r with
  | cons h t=>exact .cons (fZ h) (mh t)
abbrev KT (H:Hp):List (List Key×V)->List (List Key×Addr×zz9)->Prop:=Paired λp q=>p.1=q.1/\H q.2.1=some (.tup (p.1.map kV))/\RelV p.2 q.2.2
theorem KT.val {H:Hp}{kvs:List (List Key×V)}{xs:List (List Key×Addr×zz9)} (r:KT H kvs xs) (k:List Key):dI (bf kvs k) ((atKey xs k).map (·.2)):=by
 induction r with
 | nil=>exact True.intro
 | @cons p q ps qs h t ih =>
  obtain⟨h1,_,h2⟩:=h
  by_cases e:p.1=k
  ·have e':q.1=k:=h1.symm.trans e
   have b:atKey (q::qs) k=some q.2:=by simp [atKey,C1,e']
   rw [cR e,b];exact h2
  ·have e':¬ q.1=k:=λz=>e (h1.trans z)
   have b:atKey (q::qs) k=atKey qs k:=by simp [atKey,C1,e']
   rw [cM e,b];exact ih
theorem KT.repl {H:Hp}{kvs:List (List Key×V)}{xs:List (List Key×Addr×zz9)} (r:KT H kvs xs) (k:List Key) {y:V}{u:zz9} (ry:RelV y u) :
  KT H (kvs.map λkv=>if kv.1=k then (kv.1,y) else kv) (xs.map (putAt k u)):=by
 induction r with
 | nil=>exact .nil
 | @cons p q ps qs h t ih =>
  rw [Bj,Bj];refine .cons ?_ ih;obtain⟨h1,h2,h3⟩:=h;unfold putAt
  by_cases e:p.1=k
  ·rw [if_pos e,if_pos (h1.symm.trans e)];exact⟨h1,h2,ry⟩
  ·rw [if_neg e,if_neg (λz=>e (h1.trans z))];exact⟨h1,h2,h3⟩
theorem KT.put {H:Hp}{kvs:List (List Key×V)}{xs:List (List Key×Addr×zz9)} (r:KT H kvs xs) (k:List Key) {b:Addr}{y:V}{u:zz9} (hb:H b=some (.tup (k.map kV))) (ry:RelV y u) :
  KT H (putK kvs k y) (storedH xs k b u):=by
 have e:(kvs.any λkv=>decide (kv.1=k))=(atKey xs k).isSome:=by
  rw [eA,(r.val k).isSome_eq,Option.isSome_map]
 unfold putK storedH;rw [e]
 by_cases q:(atKey xs k).isSome=true
 ·rw [if_pos q,if_pos q];exact r.repl k ry
 ·rw [if_neg q,if_neg q];exact Paired.snoc r ⟨rfl,hb,ry⟩
theorem KT.keeps {H H':Hp}{kvs:List (List Key×V)}{xs:List (List Key×Addr×zz9)} (r:KT H kvs xs) (ht:∀b ys,H b=some (.tup ys)->H' b=some (.tup ys)):KT H' kvs xs :=
 Paired.mapP r λ_ _ z=>⟨z.1,ht _ _ z.2.1,z.2.2⟩
section
variable {P:Program}{w:World}{H:Hp}{h:Heap}{a:Addr}
theorem qc {u:HO} (ok:FB P w H h) (e:Rd H a u):aY P w H h a u:=e.ok ok
theorem gP {kvs:List (Key×V)} (ok:FB P w H h) (e:Rd H a (.dK kvs)):kvs.length<=sizeLine/\(a == sysModules)=false/\∃vs,KV kvs vs/\h.DictOf (cN P w) a vs :=
 show aY P w H h a (.dK kvs) from qc ok e
theorem kB {kvs:List (Key×V)} (ok:FB P w H h) (e:H a=some (.dK kvs)):kvs.length<=sizeLine/\(a == sysModules)=false/\∃vs,KV kvs vs/\h.DictOf (cN P w) a vs:=gP ok (.inl e)
theorem gK {ks:List Key} (ok:FB P w H h) (e:H a=some (.tup (ks.map kV))):(tupleKind (cN P w)).is h ks a:=by
 obtain⟨_,EE,r,o,h1,h2,n,h3⟩:=(show aY P w H h a (.tup (ks.map kV)) from ok a _ e)
 exact⟨o,EE.toArray,n,h1,h2,h3,by simpa using mh r⟩
theorem i4 {kvs:List (List Key×V)} (ok:FB P w H h) (e:Rd H a (.dT kvs)):kvs.length<=sizeLine/\(a == sysModules)=false /\
  ∃xs,KT H kvs xs/\h.DictOfH (tupleKind (cN P w)) a xs:=by
 obtain⟨z,y,xs,r,o,es,ep,h1,h2,h3,h4,h5⟩:=(show aY P w H h a (.dT kvs) from qc ok e)
 refine⟨z,y,xs,r,o,es,ep,h1,h2,h3,h4,λx hx=>?_,h5⟩;have all:∀{l:List (List Key×V)}{m:List (List Key×Addr×zz9)},KT H l m->∀x∈m,(tupleKind (cN P w)).is h x.1 x.2.1:=by
  intro l m q
  induction q with
  | nil=>intro x hx;exact nomatch hx
  | @cons p q ps qs hq t ih =>
   intro x hx
   rcases AI.mp hx with e | hx
   ·subst e
    exact gK ok (by rw [<- hq.1];exact hq.2.1)
   ·exact ih x hx
 exact all r x hx
theorem p5 {kvs:List (List Key×V)} (ok:FB P w H h) (e:H a=some (.dT kvs)):kvs.length<=sizeLine/\(a == sysModules)=false /\
  ∃xs,KT H kvs xs/\h.DictOfH (tupleKind (cN P w)) a xs:=i4 ok (.inl e)
end
def b8 (H:Hp) (a:Addr) (y:V) (r:Option V):Prop :=
 (∃kvs k,Rd H a (.dK kvs)/\y=kV k/\r=bf kvs k)\/∃kvs k b,Rd H a (.dT kvs)/\y=.ref b/\H b=some (.tup (k.map kV))/\r=bf kvs k
def ef (H:Hp) (a:Addr) (y v:V) (H':Hp):Prop :=
 (∃kvs k,H a=some (.dK kvs)/\y=kV k/\kvs.length < sizeLine/\H'=upd H a (.dK (putK kvs k v))) \/
 ∃kvs k b,H a=some (.dT kvs)/\y=.ref b/\H b=some (.tup (k.map kV))/\kvs.length < sizeLine/\H'=upd H a (.dT (putK kvs k v))
theorem b8.k {H:Hp}{a:Addr}{kvs:List (Key×V)}{k:Key} (e:H a=some (.dK kvs)):b8 H a (kV k) (bf kvs k):=.inl ⟨kvs,k,.inl e,rfl,rfl⟩
theorem b8.t {H:Hp}{a b:Addr}{kvs:List (List Key×V)}{k:List Key} (e:H a=some (.dT kvs)) (eb:H b=some (.tup (k.map kV))):b8 H a (.ref b) (bf kvs k):=.inr ⟨kvs,k,b,.inl e,rfl,eb,rfl⟩
theorem ef.k {H:Hp}{a:Addr}{kvs:List (Key×V)}{k:Key}{v:V} (e:H a=some (.dK kvs)) (hl:kvs.length < sizeLine):ef H a (kV k) v (upd H a (.dK (putK kvs k v))):=.inl ⟨kvs,k,e,rfl,hl,rfl⟩
theorem ef.t {H:Hp}{a b:Addr}{kvs:List (List Key×V)}{k:List Key}{v:V} (e:H a=some (.dT kvs)) (eb:H b=some (.tup (k.map kV))) (hl:kvs.length < sizeLine) :
  ef H a (.ref b) v (upd H a (.dT (putK kvs k v))):=.inr ⟨kvs,k,b,e,rfl,eb,hl,rfl⟩
section
variable {X:Cx}{pins:List (Addr×Obj)}{σ:St}{H:Hp}{s:zz8}{a:Addr}{y v:V}{u r:zz9}{o:Option V}{A:Around}{E:zz9->zz8->Prop}
theorem Inv.big (I:Inv X pins σ H s):sysModules < s.heap.objs.size:=by
 have h:mainGlobals < s.heap.objs.size:=(I.mod.glob.keeps I.bk).lt;exact Nat.lt_trans (by decide) h
theorem lY {Q:zz9->zz8->Prop} (hu:A.units + 1 < cLine) (I:Inv X pins σ H s) (g:b8 H a y (some v)) (ry:RelV y u) (h:∀w' s',Inv X pins σ H s'->RelV v w'->Q w' s') :
  wpAny (model X.prog X.w) A (getItem (.ref a) u) Q E s:=by
 rcases g with ⟨kvs,k,e,ey,l⟩ | ⟨kvs,k,b,e,ey,eb,l⟩
 ·subst ey
  obtain⟨z,hd,vs,rel,dd⟩:=gP I.hok e;obtain⟨w',hw,GC⟩:=dI.some_of (v:=v) (o:=valueAt vs k) (by rw [l];exact rel.val k);exact wpAny_getItem_of (fZ ry) dd.mapOf hw (h w' _ (I.tok _) GC)
 ·subst ey
  cases (show u=Value.ref b from ry);obtain⟨z,hd,xs,rel,dd⟩:=i4 I.hok e;obtain⟨w',hw,GC⟩:=dI.some_of (v:=v) (o:=(atKey xs k).map (·.2)) (by rw [l];exact rel.val k);obtain⟨p,hp,Nz⟩:=Option.map_eq_some_iff.mp hw;refine wpAny_getItem_heap (Ec hu) (gK I.hok eb) dd hp ?_;rw [Nz];exact h w' _ (I.tok _) GC
theorem zT {Q:zz9->zz8->Prop} (hu:A.units + 1 < cLine) (I:Inv X pins σ H s) (g:b8 H a y o) (ry:RelV y u) (h:∀s',Inv X pins σ H s'->Q (.bool o.isSome) s') :
  wpAny (model X.prog X.w) A (compareOp .In u (.ref a)) Q E s:=by
 rcases g with ⟨kvs,k,e,ey,l⟩ | ⟨kvs,k,b,e,ey,eb,l⟩
 ·subst ey
  obtain⟨z,hd,vs,rel,dd⟩:=gP I.hok e;refine wpAny_in_of (fZ ry) hd dd.mapOf ?_;rw [<- (rel.val k).isSome_eq,<- l];exact h _ (I.tok _)
 ·subst ey
  cases (show u=Value.ref b from ry);obtain⟨z,hd,xs,rel,dd⟩:=i4 I.hok e;refine wpAny_in_heap (Ec hu) (gK I.hok eb) hd dd ?_;have q:=(rel.val k).isSome_eq;rw [Option.isSome_map] at q;rw [<- q,<- l];exact h _ (I.tok _)
theorem gD {h':Heap}{t':Nat}{ob:HO} (I:Inv X pins σ H s) (mu:PL (H a)) (hs:Heap.SameBut a s.heap h') (he:∃q,h'.get? a=some q) (new:aY X.prog X.w (upd H a ob) h' a ob) :
  Inv X pins σ (upd H a ob) { s with heap:=h',toks:=t' } :=
 I.write (x:=a) (e:=a) mu (.inl rfl) (λb q hb z=>(hs.2 b hb).trans z) he new
theorem ke {P:Program}{w:World}{H':Hp}{h':Heap}{kvs:List (Key×V)}{vs:List (Key×zz9)} (z:kvs.length<=sizeLine) (hd:(a == sysModules)=false) (rel:KV kvs vs) (dd:h'.DictOf (cN P w) a vs) :
  aY P w H' h' a (.dK kvs):=⟨z,hd,vs,rel,dd⟩
theorem lZ {H':Hp}{Q:Unit->zz8->Prop} (hu:A.units + 1 < cLine) (I:Inv X pins σ H s) (g:ef H a y v H') (ry:RelV y u) (rv:RelV v r) (h:∀s',Inv X pins σ H' s'->Q () s') :
  wpAny (model X.prog X.w) A (setItem (.ref a) u r) Q E s:=by
 rcases g with ⟨kvs,k,e,ey,l,eH⟩ | ⟨kvs,k,b,e,ey,eb,l,eH⟩
 ·subst ey eH
  obtain⟨z,hd,vs,rel,dd⟩:=kB I.hok e;have hz:vs.length<=sizeLine:=by rw [<- rel.length];exact z
  have hl:(putK kvs k v).length<=sizeLine:=by have:=fE kvs k v;omega
  refine wpAny_setItem_pairs (hsz:=hz) (fZ ry) dd λh' IT hs=>h _ ?_;have he:∃q,h'.get? a=some q:=let ⟨q,_,_,hq,_⟩:=IT;⟨q,hq⟩;exact gD I (by rw [e];exact True.intro) hs he (ke hl hd (rel.put k rv) IT)
 ·subst ey eH
  cases (show u=Value.ref b from ry);obtain⟨z,hd,xs,rel,dd⟩:=p5 I.hok e;have hz:xs.length<=sizeLine:=by rw [<- C8 rel];exact z
  have hl:(putK kvs k v).length<=sizeLine:=by have:=fE kvs k v;omega
  refine wpAny_setItem_heap (hsz:=hz) (Ec hu) (gK I.hok eb) dd λh' IT hs=>h _ ?_;obtain⟨q,es,ep,hq,h2,h3,h4,_,h5⟩:=IT;refine gD I (by rw [e];exact True.intro) hs ⟨q,hq⟩ ⟨hl,hd,_,(rel.put k eb rv).keeps λc ys ec=>?_,q,es,ep,hq,h2,h3,h4,h5⟩;rw [ao (gR ec e (λz=>nomatch z))];exact ec
end
section
variable {X:Cx}{pins:List (Addr×Obj)}{σ:St}{H:Hp}{s:zz8}{a:Addr}{kvs:List (Key×V)}{k:Key}{u:zz9}{A:Around}{E:zz9->zz8->Prop}
theorem yW {Q:zz9->zz8->Prop} (I:Inv X pins σ H s) (e:Rd H a (.dK kvs)) (h:∀t s',Inv X pins σ H s'->Q (.int kvs.length t) s'):wpAny (model X.prog X.w) A (call (.builtin "len") [.ref a]) Q E s:=by
 obtain⟨z,hd,vs,rel,dd⟩:=gP I.hok e;refine call_len_dict hd dd (by rw [<- rel.length];rw [Br] at z;omega) ?_;rw [<- rel.length];exact h _ _ (I.tok _)
end
def qw (i:Expr):Prop:=∀ov iv,subscripted i false ov iv=operate [ov,iv] (getItem ov iv)
theorem wR {prog:Program}{w:World}{A:Around}{E:zz9->zz8->Prop}{s:zz8}{env:Env}{value slice:Expr}{pos:Pos}{T id:String}{Q:zz9->zz8->Prop}
  (hl:typeLookup (.type T) "__getitem__"=pure (some (.builtin id))) (hs:qw slice)
  (h:wpAny (model prog w) A (eval value env) (λo s₁=>wpAny (model prog w) A (eval slice env) (λi s₂=>s₂.TypeIs o T/\wpAny (model prog w) A (getItem o i) Q E s₂) E s₁) E s) :
  wpAny (model prog w) A (eval (.Subscript value slice pos) env) Q E s:=by
 refine Subscript_ (BW h (λo s₁ h₁=>BW h₁ (λi s₂ h₂=>?_) λ_ _ x=>x) λ_ _ x=>x);obtain⟨hT,h₂⟩:=h₂;unfold subscriptTail;refine Aw ?_;rw [getitemInPython_of_ne hT.not_modules];refine Aw (wpAny_specialOf hT hl ?_);have fin:wpAny (model prog w) A (subscripted slice false o i) (λr s₃=>wpAny (model prog w) A (letTemporaryGo value o r >>= λ_=>pure r) Q E s₃) E s₂:=by
  rw [hs o i];exact wpAny_operating (BW h₂ (λr s₃ h₃=>Aw (wpAny_letTemporaryGo (Az h₃))) λ_ _ x=>x)
 first
  | exact Az (Aw fin)
  | exact Aw (Az (Aw fin))
  | exact Aw fin
theorem rW {X:Cx}{pins:List (Addr×Obj)}{σ:St}{H:Hp}{s:zz8}{a:Addr}{y:V}{o:Option V} (I:Inv X pins σ H s) (g:b8 H a y o):s.TypeIs (.ref a) "dict":=by
 rcases g with ⟨kvs,k,e,_,_⟩ | ⟨kvs,k,b,e,_,_,_⟩
 ·obtain⟨_,_,vs,_,dd⟩:=gP I.hok e
  exact dd.typeIs
 ·obtain⟨_,_,xs,_,dd⟩:=i4 I.hok e
  exact dd.typeIs
def yZ (td ty:TE):TE:=λσ H Q=>td σ H λx H1=>ty σ H1 λy H2=>∃a v,x=.ref a/\b8 H2 a y (some v)/\Q v H2
def zN (ty td:TE):TE:=λσ H Q=>ty σ H λy H1=>td σ H1 λx H2=>∃a o,x=.ref a/\b8 H2 a y o/\Q (.bl o.isSome) H2
def yA (td ty tv:TE):TS:=λD σ H=>tv σ H λv H1=>td σ H1 λx H2=>ty σ H2 λy H3=>∃a H4,x=.ref a/\ef H3 a y v H4/\D.nx σ H4
def yE (td ty tv:TE) (rd:V->V->Hp->VK->Prop):TS:=λD σ H=>td σ H λx H1=>ty σ H1 λy H2=>∃a v,x=.ref a/\b8 H2 a y (some v) /\
 tv σ H2 λy2 H3=>rd v y2 H3 λz H4=>∃H5,ef H4 a y z H5/\D.nx σ H5
section
variable {X:Cx}{o i e value:Expr}{pos Ho Iu:Pos}{td ty tv:TE}
theorem fi (hu:X.A.units + 1 < cLine) (ho:PE X o td) (hi:PE X i ty) (hs:qw i):PE X (.Subscript o i pos) (yZ td ty):=by
 intro pins s σ H Q I h;refine wR PySem.F.slot_dict_getitem.lookup hs (EI (ho pins s σ H _ I h) λu s1 ⟨x,H1,I1,rx,q1⟩=>EI (hi pins s1 σ H1 _ I1 q1) λiv s2 ⟨y,H2,I2,ry,a,v,ex,g,q2⟩=>?_);subst ex;obtain rfl:u=Value.ref a:=rx;exact⟨rW I2 g,lY hu I2 g ry λw' s3 I3 GC=>⟨v,H2,I3,GC,q2⟩⟩
theorem yc (hu:X.A.units + 1 < cLine) (hi:PE X i ty) (ho:PE X o td):PC X .In i o (zN ty td):=by
 intro pins s σ H Q I h;refine EI (hi pins s σ H _ I h) λiv s1 ⟨y,H1,I1,ry,q1⟩=>EI (ho pins s1 σ H1 _ I1 q1) λu s2 ⟨x,H2,I2,rx,a,ov,ex,g,q2⟩=>?_;subst ex;obtain rfl:u=Value.ref a:=rx;exact zT hu I2 g ry λs3 I3=>⟨.bl ov.isSome,H2,I3,rfl,q2⟩
theorem wx (hu:X.A.units + 1 < cLine) (ho:PE X o td) (hi:PE X i ty) (hv:PE X value tv) (hs:swapsWith value (some (.Subscript o i Ho)) pos.line X.env=pure false) :
  PS X (.Assign [.Subscript o i Ho] value pos) (yA td ty tv):=by
 intro pins s σ H D I h;refine wpAny_Assign_Subscript (EI (hv pins s σ H _ I h) λr s1 ⟨v,H1,I1,rv,q1⟩=>EI (ho pins s1 σ H1 _ I1 q1) λu s2 ⟨x,H2,I2,rx,q2⟩=>EI (hi pins s2 σ H2 _ I2 q2) λiv s3 ⟨y,H3,I3,ry,a,H4,ex,g,q3⟩=>?_) hs;subst ex;obtain rfl:u=Value.ref a:=rx;exact lZ hu I3 g ry rv λs4 I4=>⟨σ,H4,I4,q3⟩
theorem nL {op:Operator}{rd:V->V->Hp->VK->Prop} (hu:X.A.units + 1 < cLine) (ho:PE X o td) (hi:PE X i ty) (hv:PE X value tv) (ZO:kU X op rd)
  (ha:∀ov iv new,augStore i ov iv new=(do holding [new,ov,iv] (setItem ov iv new);release [new,ov,iv] [];pure .next)):PS X (.AugAssign (.Subscript o i Iu) op value pos) (yE td ty tv rd):=by
 intro pins s σ H D I h;refine wpAny_AugAssign_SubscriptAny (EI (ho pins s σ H _ I h) λu s1 ⟨x,H1,I1,rx,q1⟩=>EI (hi pins s1 σ H1 _ I1 q1) λiv s2 ⟨y,H2,I2,ry,a,v,ex,g,q2⟩=>?_) ha;subst ex;obtain rfl:u=Value.ref a:=rx;refine lY hu I2 g ry λw' s3 I3 GC=>EI (hv pins s3 σ H2 _ I3 q2) λw2 s4 ⟨y2,H3,I4,XM,q3⟩=>EI (ZO pins s4 σ H3 v y2 w' w2 _ I4 GC XM q3) λw3 s5 ⟨z,H4,I5,rz,H5,g5,q4⟩=>?_;exact lZ hu I5 g5 ry rz λs6 I6=>⟨σ,H5,I6,q4⟩
end
theorem ny {P:Program}{w:World}{H:Hp} (h:Heap) (hb:sysModules < h.objs.size):aY P w H (h.push { cls:=.type "dict",data:=.dict #[] }) h.objs.size (.dK []) :=
 ⟨Be _,beq_eq_false_iff_ne.mpr (Cc (Bh hb)),[],.nil,Heap.DictOf.new h⟩
theorem uZ {P:Program}{w:World}{H:Hp} (h:Heap) (hb:sysModules < h.objs.size):aY P w H (h.push { cls:=.type "dict",data:=.dict #[] }) h.objs.size (.dT []) :=
 ⟨Be _,beq_eq_false_iff_ne.mpr (Cc (Bh hb)),[],.nil,_,#[],0,AS _ rfl,⟨rfl,rfl,rfl⟩,rfl,rfl,Do⟩
section
variable {X:Cx}{pos:Pos}
end
section
variable {prog:Program}{w:World}{A:Around}{R:Result->zz8->Prop}{s:zz8}
theorem oh {kx vx tg iter:Expr}{ifs:List Expr}{scope:Scope}{pos:Pos}{it:zz9}{D:Addr}{env:Env} (J:Nat->zz8->Prop)
  (turn:∀n s,J n s->wpAny (model prog w) A (pyNext it) (λr s1=>match r with
   | none=>R (.ok .next) s1
   | some v=>wpAny (model prog w) A (letOwnedTupleGo tg it v) (λ_ s2=>wpAny (model prog w) A (assign tg env v) (λ_ s3 =>
     wpAny (model prog w) A (forIn ifs true λc r=>if r=true then do let ok <- isTrue c env (eval c env);pure (ForInStep.yield ok) else pure (ForInStep.yield r)) (λok s4 =>
      if ok=true then wpAny (model prog w) A (eval kx env) (λy s5=>wpAny (model prog w) A (eval vx env) (λx s6=>wpAny (model prog w) A (dictSet D y x) (λ_ s7=>∃m,m < n/\J m s7) (λ_ _=>False) s6) (λ_ _=>False) s5) (λ_ _=>False) s4
      else ∃m,m < n/\J m s4) (λ_ _=>False) s3) (λ_ _=>False) s2) (λ_ _=>False) s1) (λ_ _=>False) s)
  (n:Nat) (h:J n s):codeAny (model prog w) A (.compLoop (.DictComp kx vx [⟨tg,iter,ifs,0⟩] scope pos) 0 it (.ref D) env) R s:=by
 refine Ez rfl J (λk t hJ=>?_) n h;show wpAny _ A ((compTurn (.DictComp kx vx [⟨tg,iter,ifs,0⟩] scope pos) 0 it (.ref D) env).onRaise (λx=>do noteFrame x env;theTreesLotGoes x)) _ _ t;refine wpAny_noted (BW (E:=λ_ _=>False) ?_ (λ_ _ q=>q) λ_ _ f=>f.elim);rw [compTurn_dict];refine Aw (B7 (Aw (EI (turn k t hJ) λr s1 h1=>?_)));cases r with
 | none=>exact Az h1
 | some v =>
  refine Aw (EI h1 λ_ s2 h2=>Aw (EI h2 λ_ s3 h3=>Aw (EI h3 λok s4 h4=>?_)));cases ok with
  | false=>exact Az ⟨rfl,h4⟩
  | true=>exact Aw (Aw (EI h4 λy s5 h5=>Aw (BJ (EI h5 λx s6 h6=>Aw (B7 (BJ (EI h6 λ_ s7 h7=>Az ⟨rfl,h7⟩)))))))
end
def kD (H:Hp) (a:Addr) (y v:V) (H':Hp):Prop:=∃kvs k b,H a=some (.dT kvs)/\y=.ref b/\H b=some (.tup (k.map kV))/\kvs.length < sizeLine/\H'=upd H a (.dT (putK kvs k v))
theorem tH {X:Cx}{pins:List (Addr×Obj)}{σ:St}{H H':Hp}{s:zz8}{a:Addr}{y v:V}{u r:zz9}{A:Around}{E:zz9->zz8->Prop}{Q:Unit->zz8->Prop} (hu:A.units < cLine) (I:Inv X pins σ H s) (g:kD H a y v H') (ry:RelV y u) (rv:RelV v r) (h:∀s',Inv X pins σ H' s'->Q () s') :
  wpAny (model X.prog X.w) A (dictSet a u r) Q E s:=by
 obtain⟨kvs,k,b,e,ey,eb,l,eH⟩:=g;subst ey eH;cases (show u=Value.ref b from ry);obtain⟨z,hd,xs,rel,dd⟩:=p5 I.hok e;have hz:xs.length<=sizeLine:=by rw [<- C8 rel];exact z
 have hl:(putK kvs k v).length<=sizeLine:=by have:=fE kvs k v;omega
 refine wpAny_dictSet_heap (hsz:=hz) (show (tupleKind (cN X.prog X.w)).room A from hu) (gK I.hok eb) dd (λh' IT hs=>h _ ?_);obtain⟨q,es,ep,hq,h2,h3,h4,_,h5⟩:=IT;refine gD I (by rw [e];exact True.intro) hs ⟨q,hq⟩ ⟨hl,hd,_,(rel.put k eb rv).keeps λc ys ec=>?_,q,es,ep,hq,h2,h3,h4,h5⟩;rw [ao (gR ec e (λz=>nomatch z))];exact ec
def QZ (D:Addr) (J:It) (g:TG) (tt:TT) (tk tv:TE) (σ':St) (fin:Hp->Prop) (H1:Hp):Prop :=
 ∃W:Nat->Nat->St->Hp->Prop,(∃m,W 0 m σ' H1)/\∀i m σ H,W i m σ H ->
  (J.stop i H/\fin H)\/(J.go i H/\∃Nx:St->Hp->Prop,(∀σ' H',Nx σ' H'->∃m',m' < m/\W (i + 1) m' σ' H') /\
   ∀x H',J.yld i H x H'->g x σ H' λσ2 H2=>tt σ2 H2 λb H3=>if b=true then tk σ2 H3 (λy H4=>tv σ2 H4 λv H5=>∃H6,kD H5 D y v H6/\Nx σ2 H6) else Nx σ2 H3)
def xA (i:Nat) (wi:TI) (g:TG) (tt:TT) (tk tv:TE) (ix:List (Option Nat)):TS:=λE σ H=>wi σ H λJ H1=>∀D,H1 D=none->QZ D J g tt tk tv (GW ix σ) (λH'=>E.nx (σ.set i (some (.ref D))) H') (upd H1 D (.dT []))
theorem nH {b D C:Nat} (h:b < D) (e:C=D + 1) (z:b=C):False:=by omega
section
variable {X:Cx}{scope:Scope}{N:List Str}{ix:List (Option Nat)}
theorem pT {pins pins':List (Addr×Obj)}{σ σ':St}{H2 H':Hp}{s2 s':zz8}{C:Addr}{fp:List Addr}{h':Heap} (I2:Inv X pins σ H2 s2) (hf:∀b∈fp,bR X pins H2 b)
  (I':Inv (aw X scope N C s2 H2 fp) pins' σ' H' s') (hC:s2.heap.objs.size<=C) (hs:∀b o,b≠C->s'.heap.get? b=some o->h'.get? b=some o):Inv X pins σ H' { s' with heap:=h' }:=by
 have B:Un (HI X.stack) fp H2 H' s2.heap s'.heap:=I'.base;have IQ:∀b o,s2.heap.get? b=some o->b≠C:=λb o e=>Bh (Bk (AQ e) hC);have Ui:H' C=none:=I'.free;have tC:∀b u,H' b=some u->b≠C:=λb u e=>aR e Ui;refine I2.call' (s':={ s' with heap:=h' }) (ch:=fp) I'.os ⟨λb o e n hb hx=>?_,λb o e n hb hx=>?_,λb o e n hx=>?_,λb o e hx=>?_,λb xs e=>?_,λb o u e=>?_,λb ps e=>?_⟩ (λb u e=>?_) I'.bare λb hb=>⟨(hf b hb).2.2.2.1,(hf b hb).2.1,(hf b hb).2.2.2.2.1,(hf b hb).2.2.2.2.2⟩
 ·exact hs b o (IQ b o e) (B.keep b o e n hb hx)
 ·obtain⟨sl,q⟩:=B.slot b o e n hb hx
  exact⟨sl,hs b _ (IQ b o e) q⟩
 ·exact B.free b o e n hx
 ·obtain⟨o',q⟩:=B.there b o e hx
  exact⟨o',hs b o' (IQ b o e) q⟩
 ·exact B.tups b xs e
 ·exact B.frzs b o u e
 ·exact B.tbls b ps e
 ·refine (I'.hok b u e).stay (λc v hc q=>hs c v ?_ q) (λc q=>q) λc xs q=>q
  rcases hc with z | z
  ·rw [z];exact tC b u e
  ·exact tC c _ z
variable {tg iter kx vx:Expr}{ifs:List Expr}{pos:Pos}{g:TG}{tt:TT}{tk tv:TE}
theorem pK (L:bX X scope N ix) (hc:X.calm=true) (hu:X.A.units < cLine) (hg:∀C s0 H0 fp,PG (aw X scope N C s0 H0 fp) tg g) (ht:∀C s0 H0 fp,HS (aw X scope N C s0 H0 fp) ifs tt) (hk:∀C s0 H0 fp,PE (aw X scope N C s0 H0 fp) kx tk) (hv:∀C s0 H0 fp,PE (aw X scope N C s0 H0 fp) vx tv)
  {pins:List (Addr×Obj)}{σ:St}{H1:Hp}{s1:zz8}{it:Addr}{fp:List Addr}{tn:Nat->Heap->Prop}{J:It}{fin:Addr->Hp->Prop}{E:zz9->zz8->Prop}{RR:zz9->Addr->Result->zz8->Prop}
  (I1:Inv X pins σ H1 s1) (T:Turn X.prog X.w X.K tg J fp it tn) (st:tn 0 s1.heap) (f1:∀b∈fp,bR X pins H1 b) (hW:∀D,H1 D=none->QZ D J g tt tk tv (GW ix σ) (fin D) (upd H1 D (.dT [])))
  (M6:∀D C s' m H',s'.heap.Ns C m->s'.os=s1.os->bR X pins H' C->(∀h',Heap.SameBut C s'.heap h'->Inv X pins σ H' { s' with heap:=h' })->fin D H'->RR (.ref D) C (.ok .next) s') :
  wpAny (model X.prog X.w) X.A newDict (λEL s3=>wpAny (model X.prog X.w) X.A (newFunctionEnv scope X.env.globals (cy X.env scope.names []) [] X.env.qual none .none (some X.env)) (λGF s4 =>
   codeAny (model X.prog X.w) X.A (.compStart (.DictComp kx vx [⟨tg,iter,ifs,0⟩] scope pos) 0 (.ref it) EL { GF with scope:=relabel scope X.env }) (RR EL GF.locals) s4) E s3) E s1:=by
 have HB:∀b∈fp,b < s1.heap.objs.size:=λb hb=>by
  obtain⟨o,e,_⟩:=T.obj _ _ st b hb;exact AQ e
 have Uh:H1 s1.heap.objs.size=none:=I1.hok.fresh (AF _);obtain⟨W,⟨m0,w0⟩,turn⟩:=hW s1.heap.objs.size Uh;refine Bp (C6 L.nocell (by intro y hy;simp at hy) (λh1 Hj Hq=>?_) L.kind)
 dsimp only at Hj Hq ⊢
 have I2:Inv X pins σ (upd H1 s1.heap.objs.size (.dT [])) { s1 with heap:=s1.heap.push { cls:=.type "dict",data:=.dict #[] },toks:=s1.toks } :=
  I1.laid (t':=s1.toks) (a:=s1.heap.objs.size) (o:=.dT []) (λ_ _ q=>AA _ q) (AF _) (uZ s1.heap I1.big)
 have f2:∀b∈fp,bR X pins (upd H1 s1.heap.objs.size (.dT [])) b:=λb hb=>by
  obtain⟨q0,q1⟩:=f1 b hb;exact⟨by rw [ao (Bh (HB b hb))];exact q0,q1⟩
 have Gy:tn 0 (s1.heap.push { cls:=.type "dict",data:=.dict #[] }):=T.keep _ _ _ st λb _ o e=>AA _ e;generalize hD:s1.heap.objs.size=D at *;generalize hH2:upd H1 D (.dT [])=H2 at *;generalize hG:s1.heap.push { cls:=.type "dict",data:=.dict #[] }=G at *;have JJ:G.objs.size=D + 1:=by rw [<- hG,B0,hD]
 generalize IF:G.objs.size=C at *;have kp:∀b o,G.get? b=some o->h1.get? b=some o:=λb o e=>Hq.extBut b o (λz=>by have:=AQ e;rw [IF] at this;exact absurd (z ▸ this) (BI _)) (AA _ e);have I4:=i7 L (tk:=s1.toks + ([]:List (Str×zz9)).length) I2 (C:=C) (by show G.objs.size<=C;rw [IF];exact AF _) f2 (λb hb=>by show b < G.objs.size;rw [IF,JJ];exact BY (HB b hb)) kp Hj;have HK:tn 0 h1:=T.keep _ _ _ Gy λb _ o e=>kp b o e;generalize Gs:({ s1 with heap:=G,toks:=s1.toks }:zz8)=s2 at I2 I4;have Jp:s2.heap=G:=by rw [<- Gs]
 have Mx:s2.os=s1.os:=by rw [<- Gs]
 have stat:∀{H':Hp},(∀b∈fp,H' b=none)->∀b∈fp,bR (aw X scope N C s2 H2 fp) [] H' b:=λ{H'} hn b hb=>by
  have EM:=HB b hb;refine⟨hn b hb,λz=>?_,λz=>?_,.inl hb,λx c e=>(f2 b hb).2.2.2.2.1 x c (dk e),λp hq z=>?_⟩
  ·exact nH EM JJ z
  ·exact (AI.mp (I2.stkSub b z)).elim (f2 b hb).2.1 (f2 b hb).2.2.1
  ·have HF:p∈([]:List (Addr×Obj)):=by simpa [aw] using hq
   cases HF
 have loop:∀s4:zz8,Inv (aw X scope N C s2 H2 fp) [] (GW ix σ) H2 s4->tn 0 s4.heap->codeAny (model X.prog X.w) X.A (.compLoop (.DictComp kx vx [⟨tg,iter,ifs,0⟩] scope pos) 0 (.ref it) (.ref D) (aw X scope N C s2 H2 fp).env) (RR (.ref D) C) s4:=by
  intro s4 UF L0;refine oh (λn s'=>∃i σ' H',Inv (aw X scope N C s2 H2 fp) [] σ' H' s'/\tn i s'.heap/\(∀b∈fp,H' b=none)/\W i n σ' H') ?_ m0 ⟨0,GW ix σ,H2,UF,L0,λb hb=>(f2 b hb).1,w0⟩;rintro n s' ⟨i,σ',H',I',Fb,Im,w'⟩
  rcases turn i n σ' H' w' with ⟨stop,qf⟩ | ⟨go,Nx,hN,step⟩
  ·refine EI (T.done (aw X scope N C s2 H2 fp) rfl rfl rfl hc i _ s' σ' H' _ I' (stat Im) Fb stop) λr s5 ⟨hr,I5⟩=>?_
   subst hr;obtain⟨m5,KA,_⟩:=I5.loc;refine M6 D C s5 m5 H' KA (I5.os.trans Mx) (I2.fpOk (by rw [Jp,IF];exact AF _) I5.free) (λh' FO=>?_) qf;exact pT I2 f2 I5 (by rw [Jp,IF];exact AF _) λb o hb e=>FO.extBut b o hb e
  ·refine EI (T.item (aw X scope N C s2 H2 fp) rfl rfl rfl hc i _ s' σ' H' _ I' (stat Im) Fb go) λr s5 ⟨u,hr,h5⟩=>?_
   subst hr;refine EI h5 λ_ s6 ⟨x,H6,I6,r6,y6,GL,KL⟩=>?_;have KS:=I6.pinned (stat KL) (T.obj _ _ GL);refine EI (hg C s2 H2 fp _ s6 σ' H6 x u _ KS r6 (step x H6 y6)) λ_ s7 ⟨σ7,H7,I7,q7⟩=>?_;refine EI (ht C s2 H2 fp _ s7 σ7 H7 _ I7 q7) λok s8 ⟨H8,I8,q8⟩=>?_;have back:∀{H9:Hp}{s9:zz8},Inv (aw X scope N C s2 H2 fp) ([]++df fp s6.heap) σ7 H9 s9->tn (i + 1) s9.heap/\∀b∈fp,H9 b=none:=λ{H9 s9} I9=>by
    refine⟨T.keep _ _ _ GL λb hb o e=>(I9.pin (b,o) (AK _ (AK _ (cV hb e)))).1,λb hb=>?_⟩;obtain⟨o,e,d⟩:=T.obj _ _ GL b hb;exact (I9.pin (b,o) (AK _ (AK _ (cV hb e)))).2.1
   cases ok with
   | false =>
    rw [if_neg AX] at q8 ⊢;obtain⟨m',hm,w8⟩:=hN _ _ q8;obtain⟨Ke,KJ⟩:=back I8;exact⟨m',hm,i + 1,σ7,H8,I8.unpinned,Ke,KJ,w8⟩
   | true =>
    rw [if_pos rfl] at q8 ⊢;refine EI (hk C s2 H2 fp _ s8 σ7 H8 _ I8 q8) λyv s9 ⟨y,H9,I9,r9,q9⟩=>?_;refine EI (hv C s2 H2 fp _ s9 σ7 H9 _ I9 q9) λxv E3 ⟨v,E5,IV,Rl,FI,Ul,Lm⟩=>?_;refine tH (X:=aw X scope N C s2 H2 fp) hu IV Ul r9 Rl λFy Nj=>?_;obtain⟨m',hm,KZ⟩:=hN _ _ Lm;obtain⟨L1,Na⟩:=back Nj;exact⟨m',hm,i + 1,σ7,FI,Nj.unpinned,L1,Na,KZ⟩
 have q:=loop _ I4 HK;subst Gs;exact codeAny_compStart_dict q (T.self _ 0 _ _ _ HK q)
theorem vw {i:Nat}{y:Str}{py Jc:Pos}{wi:TI} (hu:X.A.units < cLine) (hN:X.N.Nodup) (GP:X.N[i]?=some y) (hx:Loc X.env.scope y) (L:bX X scope N ix) (hc:X.calm=true) (hi:PI X tg iter wi) (hg:∀C s0 H0 fp,PG (aw X scope N C s0 H0 fp) tg g)
  (ht:∀C s0 H0 fp,HS (aw X scope N C s0 H0 fp) ifs tt) (hk:∀C s0 H0 fp,PE (aw X scope N C s0 H0 fp) kx tk) (hv:∀C s0 H0 fp,PE (aw X scope N C s0 H0 fp) vx tv)
  (Sr:swapsWith (.DictComp kx vx [⟨tg,iter,ifs,0⟩] scope pos) (some (.Name y py)) Jc.line X.env=pure true:=by rfl) (hs:∀x,foldedSetIterable iter X.env x=pure x:=by intro _;rfl)
  (hf:X.fn y=true\/X.env.scope.names.lookup y=some .local:=by first | exact .inl rfl | exact .inr rfl | assumption) :
  PS X (.Assign [.Name y py] (.DictComp kx vx [⟨tg,iter,ifs,0⟩] scope pos) Jc) (xA i wi g tt tk tv ix):=by
 intro pins s σ H D I h;rw [exec_Assign_Name_used _ _ _ _ Sr];refine Aw (B7 (Aw ?_));show wpAny _ X.A (do let _ <- comprehension (.DictComp kx vx [⟨tg,iter,ifs,0⟩] scope pos) scope X.env _ newDict false (eval iter X.env) (some (assign (.Name y py) X.env))) _ _ s
 refine Aw (EI (Cd (use:=some (assign (.Name y py) X.env)) (Q:=λ_ s'=>SP X pins D .next s') rfl hs (L.clos I.ok) L.kind L.locals
  (EI (hi pins s σ H _ I h) λv s1 h1=>EI h1 λLq s2 h2=>?_)) λ_ s' hq=>Az (Az hq))
 obtain⟨it,fp,tn,J,H2,rfl,I2,T,Gy,f2,hW⟩:=h2;refine pK (RR:=λEL C=>compPost (model X.prog X.w) X.A X.xe (some (assign (.Name y py) X.env)) (λ_ s'=>SP X pins D .next s') EL C) L hc hu hg ht hk hv I2 T Gy f2 hW ?_;intro Da C s' m H' hn ho hC hI fin;have I':=hI s'.heap (Ek _ _);show wpAny _ X.A (assign (.Name y py) X.env (.ref Da)) _ _ s';refine Ej (jA (v:=.ref Da) I' hN GP hx rfl (λMe Nk ch=>?_) hf);obtain⟨a,Sz,Sd⟩:=ch;obtain⟨c1,c2,c3,c4,c5,c6⟩:=hC;have Uj:C≠a:=by
  rcases Sd with z | z
  ·rw [z];exact c2
  ·exact λw=>c5 y a z w.symm
 refine⟨m,hn.sameBut Sz Uj,λh' FO=>⟨_,_,Nk.turned (t':=Me.toks) (it:=C) (λb o hb e=>FO.extBut b o hb e) c1 c2 c4 c5 c6,fin⟩⟩
end
inductive kh (A:Around) (s:zz8):List (zz9×zz9)->List (Bool×Bool)->Prop
 | nil:kh A s [] []
 | cons {v u:zz9}{e b:Bool}{r:List (zz9×zz9)}{cs:List (Bool×Bool)}:SeqAt.EqAt A s v u e ->
   (e=false->∀(prog:Program) (w:World) (E:zz9->zz8->Prop) (Q:zz9->zz8->Prop),Q (.bool b) s->wpAny (model prog w) A (richCompare .Lt v u) Q E s)->kh A s r cs->kh A s ((v,u)::r) ((e,b)::cs)
section
open PySem.SeqAt
open PySem.AutoSeq1 (wpAny_loadPart')
open PySem.MeetsSeq PySem.MeetsSeq2 PySem.MeetsSeq3
end
section
variable {prog:Program}{w:World}{A:Around}{E:zz9->zz8->Prop}{s:zz8}
end
theorem zJ {l I:Nat} (h:l < I) (q:I + 1=l):False:=by omega
section
variable {prog:Program}{w:World}{A:Around}{R:Result->zz8->Prop}{I:Addr}{fp wr:List Addr}{n:Nat}{P:Nat->zz9->Prop}{St:Nat->Heap->Prop}
def p4 (prog:Program) (w:World) (A:Around) (s0:zz8) (P:Nat->zz9->Prop) (St:Nat->Heap->Prop) (bt:Nat->Nat->Bool):Prop :=
 ∀i j k x y (G:Heap) (tk:Nat) (Q:zz9->zz8->Prop) (E:zz9->zz8->Prop),St k G->P i x->P j y->Q (.bool (bt i j)) { s0 with heap:=G,toks:=tk }->wpAny (model prog w) A (richCompare .Lt x y) Q E { s0 with heap:=G,toks:=tk }
theorem uE (W:Walks prog w A.in1 I fp wr n P St) (bt:Nat->Nat->Bool) {s0:zz8} (cmp:p4 prog w A.in1 s0 P St bt) (S:Addr) (nS:S∉fp) :
  ∀(k j:Nat) (G0:Heap) (k0:Nat) (y:zz9) (c:Nat),n - (j + 1)=k->j + 1<=n->St (j + 1) G0->P (argBest bt j) y ->
  G0.get? S=some { cls:=.type "list",dict:=none,data:=.seq #[y,y] c,slots:=#[] } ->
  (∀v G tk,P (argBest bt (n - 1)) v->(∀b o,b∉wr->b≠S->G0.get? b=some o->G.get? b=some o)->R (.ok (.ret v)) { s0 with heap:=G,toks:=tk }) ->
  codeAny (model prog w) A (.builtin "min.loop" ⟨[.ref I,.none,.ref S],[]⟩) R { s0 with heap:=G0,toks:=k0 }:=by
 have nw:S∉wr:=λq=>nS (W.sub _ q);have nm:(toString "min"++toString ".loop":String)="min.loop":=by decide
 intro k
 induction k with
 | zero =>
  intro j G0 k0 y c hk hj st py hS hR;have ej:j + 1=n:=by omega
  refine BR F.entry_min_loop ?_;rw [B5 CC _];refine (show wpAny _ A.in1 (seqItems? (.ref S) >>= _) _ _ { s0 with heap:=G0,toks:=k0 } from Aw (CT hS rfl ?_));refine (show wpAny _ A.in1 (tryCatch (pyNext (.ref I)) _ >>= _) _ _ { s0 with heap:=G0,toks:=k0 } from Aw (D1 (W.done { s0 with heap:=G0,toks:=k0 } _ _ (ej ▸ st) λG tk kp=>?_)));have Il:=kp S _ nw hS;refine (show wpAny _ A.in1 (updateSeq S (λ_=>#[]) >>= _) _ _ _ from Aw (C2 Il rfl (Aw (wpAny_letGo (Az ?_)))));exact hR y _ tk (by rw [<- ej];exact py) λb o h1 h2 e=>(Bw _ _ (Cc h2)).trans (kp b o h1 e)
 | succ k ih =>
  intro j G0 k0 y c hk hj st py hS hR;have lt:j + 1 < n:=by omega
  refine BR F.entry_min_loop ?_;rw [B5 CC _];refine (show wpAny _ A.in1 (seqItems? (.ref S) >>= _) _ _ { s0 with heap:=G0,toks:=k0 } from Aw (CT hS rfl ?_));refine (show wpAny _ A.in1 (tryCatch (pyNext (.ref I)) _ >>= _) _ _ { s0 with heap:=G0,toks:=k0 } from Aw (D1 (W.item (j + 1) { s0 with heap:=G0,toks:=k0 } _ _ lt st λx G tk px Gy kp=>?_)));have Il:=kp S _ nw hS;refine (show wpAny _ A.in1 (tryCatch (holding [x,x] (richCompare .Lt x y >>= _)) _ >>= _) _ _ _ from Aw (D1 (BJ (Aw (cmp (j + 1) (argBest bt j) _ x y G tk _ _ Gy px py ?_)))));refine Aw (BJ (BX (Aw (wpAny_letGo (Az ?_)))));cases hb:bt (j + 1) (argBest bt j) with
  | true =>
   simp only [if_true];refine Aw (C2 Il rfl (Aw (wpAny_letGo ?_)));rw [nm];refine Az ⟨Cz CC _,ih (j + 1) _ _ x _ (by omega) lt (W.frame _ _ _ Gy λb hf o e=>(Bw _ _ (λq:S=b=>nS (by rw [q];exact hf))).trans e) (by simp only [argBest,hb,if_true];exact px) (BN _ Il rfl) λv G2 N7 pv Ox=>?_⟩;exact hR v G2 N7 pv λb o h1 h2 e=>Ox b o h1 h2 ((Bw _ _ (Cc h2)).trans (kp b o h1 e))
  | false =>
   simp only [Cq,if_false];refine Aw (wpAny_letGo ?_);rw [nm];exact Az ⟨Cz CC _,ih (j + 1) _ _ y c (by omega) lt Gy (by simp only [argBest,hb,Cq,if_false];exact py) Il λv G2 N7 pv Ox=>hR v G2 N7 pv λb o h1 h2 e=>Ox b o h1 h2 (kp b o h1 e)⟩
theorem uA (W:Walks prog w A.in1 I fp wr n P St) (bt:Nat->Nat->Bool) {s0:zz8} (cmp:p4 prog w A.in1 s0 P St bt) (S:Addr) (nS:S∉fp) (hn:0 < n) {G0:Heap}{k0:Nat}{c:Nat} (st:St 0 G0)
  (hS:G0.get? S=some { cls:=.type "list",dict:=none,data:=.seq #[] c,slots:=#[] })
  (hR:∀v G tk,P (argBest bt (n - 1)) v->(∀b o,b∉wr->b≠S->G0.get? b=some o->G.get? b=some o)->R (.ok (.ret v)) { s0 with heap:=G,toks:=tk }) :
  codeAny (model prog w) A (.builtin "min.loop" ⟨[.ref I,.none,.ref S],[]⟩) R { s0 with heap:=G0,toks:=k0 }:=by
 have nw:S∉wr:=λq=>nS (W.sub _ q);have nm:(toString "min"++toString ".loop":String)="min.loop":=by decide
 refine BR F.entry_min_loop ?_;rw [B5 CC _];refine (show wpAny _ A.in1 (seqItems? (.ref S) >>= _) _ _ { s0 with heap:=G0,toks:=k0 } from Aw (CT hS rfl ?_));refine (show wpAny _ A.in1 (tryCatch (pyNext (.ref I)) _ >>= _) _ _ { s0 with heap:=G0,toks:=k0 } from Aw (D1 (W.item 0 { s0 with heap:=G0,toks:=k0 } _ _ hn st λx G tk px Gy kp=>?_)));have Il:=kp S _ nw hS;refine (show wpAny _ A.in1 (updateSeq S (λ_=>#[x,x]) >>= _) _ _ _ from Aw (C2 Il rfl ?_));rw [nm];refine Az ⟨Cz CC _,uE W bt cmp S nS _ 0 _ _ x _ rfl hn (W.frame _ _ _ Gy λb hf o e=>(Bw _ _ (λq:S=b=>nS (by rw [q];exact hf))).trans e) px (BN _ Il rfl) λv G2 N7 pv Ox=>?_⟩;exact hR v G2 N7 pv λb o h1 h2 e=>Ox b o h1 h2 ((Bw _ _ (Cc h2)).trans (kp b o h1 e))
end
section
variable {prog:Program}{w:World}{A:Around}{E:zz9->zz8->Prop}{s:zz8}
theorem rJ {l:Addr}{EE:Array zz9}{Q:zz9->zz8->Prop} (bt:Nat->Nat->Bool) (hh:A.handled=none) (hl:s.heap.IsList l EE) (hn:0 < EE.size)
  (cmp:∀i j x y (G:Heap) (tk:Nat) (Q:zz9->zz8->Prop) (E:zz9->zz8->Prop),(∀b o,s.heap.get? b=some o->G.get? b=some o)->EE[i]?=some x->EE[j]?=some y->Q (.bool (bt i j)) { s with heap:=G,toks:=tk }->wpAny (model prog w) A.in1 (richCompare .Lt x y) Q E { s with heap:=G,toks:=tk })
  (h:∀v G tk,EE[argBest bt (EE.size - 1)]?=some v->(∀b o,s.heap.get? b=some o->G.get? b=some o)->Q v { s with heap:=G,toks:=tk }):wpAny (model prog w) A (call (.builtin "min") [.ref l]) Q E s:=by
 have nm:(toString "min"++toString ".loop":String)="min.loop":=by decide
 have JX:l < s.heap.objs.size:=by obtain⟨_,e,_⟩:=hl;exact AQ e
 refine call_function_tree F.kind_min F.plain_min F.entry_min (F.args_min1 _) ?_;refine (show wpAny _ A.in1 (Builtin.Builtins.bindParams "min" ["key","default"] 0 ⟨[],[]⟩ >>= _) _ _ s from Aw (Cv (show Builtin.Builtins.bindParams "min" ["key","default"] 0 ⟨[],[]⟩=pure [none,none] from rfl) (Aw (Az (Aw (Ds hl (Aw (Bp ?_))))))));generalize hG:s.heap.push { cls:=.type "list_iterator",data:=.fields #[.ref l,.int 0 0] }=G;generalize hI:s.heap.objs.size=I at *;have nl:l≠I:=Bh JX;have gs:G.objs.size=I + 1:=by rw [<- hG,B0,hI]
 have W0:=Walks.list (prog:=prog) (w:=w) (A:=A.in1) hh I l nl EE
 have W:Walks prog w A.in1 I ([I,l]++List.range I) [I] EE.size (λi v=>EE[i]?=some v) (λi h=>(h.IsListIter I l i/\h.IsList l EE)/\∀b o,s.heap.get? b=some o->h.get? b=some o):={
  sub:=λb hb=>AZ _ (W0.sub b hb)
  frame:=λi h h' st k=>⟨W0.frame i h h' st.1 λb hb o e=>k b (AZ _ hb) o e,λb o e=>k b (AK _ (CS.mpr (by have:=AQ e;rw [hI] at this;exact this))) o (st.2 b o e)⟩
  item:=λi t Q E hi st hQ=>W0.item i t Q E hi st.1 λv G' tk pv Fb k=>hQ v G' tk pv ⟨Fb,λb o e=>k b o (λz=>by
   have z':b=I:=by simpa using z
   have:=AQ e;rw [hI,z'] at this
   exact absurd this (BI _)) (st.2 b o e)⟩ k
  done:=λt Q E st hQ=>W0.done t Q E st.1 hQ
  self:=λi t Q E st hQ=>W0.self i t Q E st.1 hQ }
 have nS:G.objs.size∉[I,l]++List.range I:=λz=>by
  rw [gs] at z
  rcases AO.mp z with q | q
  ·simp only [AI,BM,or_false] at q
   rcases q with q | q
   ·exact absurd q (Nat.succ_ne_self I)
   ·exact (zJ JX q).elim
  ·exact absurd (CS.mp q) (Nat.not_lt_of_lt (CD I))
 have kp:∀b o,s.heap.get? b=some o->G.get? b=some o:=λb o e=>by rw [<- hG];exact AA _ e
 have XG:G.IsListIter I l 0/\G.IsList l EE:=⟨⟨_,by rw [<- hG,<- hI];exact AS _ rfl,rfl,rfl⟩,by rw [<- hG];exact hl.push _⟩
 rw [nm];refine Az ⟨Cz CC _,uA (s0:=s) W bt (λi j k x y G' tk Q E st px py hq=>cmp i j x y G' tk Q E st.2 px py hq) G.objs.size nS hn (W.frame 0 G _ ⟨XG,kp⟩ λb _ o e=>AA _ e) (AS _ rfl) λv G' tk pv k=>?_⟩
 exact h v G' tk pv λb o e=>k b o (λz=>by
  have z':b=I:=by simpa using z
  have:=AQ e;rw [hI,z'] at this
  exact absurd this (BI _)) (λz=>by
  have:=AQ (kp b o e);rw [z] at this
  exact absurd this (BI _)) (AA _ (kp b o e))
end
section
variable {X:Cx}
theorem lF:bJ X (.builtin "abs") (λxs H Q=>∃i,xs=[.int i]/\Q (.int (if i < 0 then -i else i)) H):=by
 intro pins s σ H xs us Q I r h;obtain⟨i,rfl,q⟩:=h;obtain⟨u,rfl,⟨t,rfl⟩⟩:=vals1 r;exact call_abs_int λu tk=>⟨.int (if i < 0 then -i else i),H,I.tok tk,⟨_,rfl⟩,q⟩
end
section
variable {prog:Program}{w:World}{A:Around}{E:zz9->zz8->Prop}{s:zz8}
theorem wA {c t:Addr}{i:Nat}{EE:Array zz9}{v:zz9}{Q:zz9->zz8->Prop} (hi:s.heap.IsTupleIter c t i) (ht:s.heap.IsTuple t EE) (hv:EE[i]?=some v)
  (k:∀G,G.IsTupleIter c t (i + 1)->Heap.SameBut c s.heap G->Q v { s with heap:=G }):wpAny (model prog w) A (Builtin.SmallTypes.nextOf (.ref c)) Q E s:=by
 obtain⟨o,e,cl,d⟩:=id hi;obtain⟨o2,e2,_,n2,d2⟩:=ht;unfold Builtin.SmallTypes.nextOf;refine Aw (BK (name:=Str.ofString "__next__") hi.typeIs CP (BG CP hi.typeIs F.entry_tuple_iterator_next ?_ (F.args_tuple_iterator_next_1 _)));refine (show wpAny _ _ (field (.ref c) 0 >>= _) _ _ s from Aw (Dc e d (x:=.ref t) rfl ?_));refine (show wpAny _ _ (if (Value.ref t == Value.none)=true then _ else _) _ _ s from ?_);rw [if_neg (show ¬ ((Value.ref t == Value.none)=true) from AX)];refine (show wpAny _ _ (field (.ref c) 1 >>= _) _ _ s from Aw (Dc e d (x:=.int i 0) rfl ?_));refine (show wpAny _ _ (seqItems? (.ref t) >>= _) _ _ s from Aw (CT e2 d2 ?_));simp only [B9,hv];refine Aw (Ce e d (by simp) (Az ⟨v,rfl,Az (k _ ⟨_,BN _ e (DE (CL d _)),(El ..).trans cl,by rw [CL d];simp [rawInt]⟩ (BV ..))⟩))
theorem xS {c t:Addr}{i:Nat}{EE:Array zz9}{Q:zz9->zz8->Prop} (hh:A.handled=none) (hi:s.heap.IsTupleIter c t i) (ht:s.heap.IsTuple t EE) (hv:EE[i]?=none)
  (k:∀G x,Heap.ExtBut c s.heap G->(∃o,G.get? x=some o/\o.cls=.type "StopIteration")->E (.ref x) { s with heap:=G }):wpAny (model prog w) A (Builtin.SmallTypes.nextOf (.ref c)) Q E s:=by
 obtain⟨o,e,cl,d⟩:=id hi;obtain⟨o2,e2,_,n2,d2⟩:=ht;unfold Builtin.SmallTypes.nextOf;refine Aw (BK (name:=Str.ofString "__next__") hi.typeIs CP (BG CP hi.typeIs F.entry_tuple_iterator_next ?_ (F.args_tuple_iterator_next_1 _)));refine (show wpAny _ _ (field (.ref c) 0 >>= _) _ _ s from Aw (Dc e d (x:=.ref t) rfl ?_));refine (show wpAny _ _ (if (Value.ref t == Value.none)=true then _ else _) _ _ s from ?_);rw [if_neg (show ¬ ((Value.ref t == Value.none)=true) from AX)];refine (show wpAny _ _ (field (.ref c) 1 >>= _) _ _ s from Aw (Dc e d (x:=.int i 0) rfl ?_));refine (show wpAny _ _ (seqItems? (.ref t) >>= _) _ _ s from Aw (CT e2 d2 ?_));simp only [B9,hv];refine Aw (C5 (Aw (Ce e d (by simp) (show wpAny _ _ (newExc (.type "StopIteration") [] >>= _) _ _ _ from Aw ?_))));simp only [newExc,newTuple];refine Aw (Bp (Aw (m:=firstArgMember _ _) (Cv (a:=Value.none) (by first | rfl | (simp only [firstArgMember];rfl)) (Bp ?_ (by size_fits)))) (by size_fits));simp only [raiseNew];refine Aw (wpAny_handled ?_);(first | rw [show A.in1.handled=none from hh] | rw [hh]);exact Aw (Az (wpAny_throw (k _ _ (((BV ..).extBut.push _).push _) ⟨_,AS _ rfl,rfl⟩)))
end
section
variable {X:Cx}
end
section
variable {prog:Program}{w:World}{A:Around}{E:zz9->zz8->Prop}{s:zz8}
theorem xu {c d:Addr}{i ep:Nat}{o:Obj}{es:Array DictEntry}{Q:Option zz9->zz8->Prop} (hi:s.heap.IsKeyIter c d i es.size ep) (ho:s.heap.get? d=some o) (hd:o.data=.dict es ep) (lt:i < es.size)
  (q:∀G,G.IsKeyIter c d (i + 1) es.size ep->Heap.SameBut c s.heap G->Q (some es[i].key) { s with heap:=G }):wpAny (model prog w) A (pyNext (.ref c)) Q E s:=by
 obtain⟨oc,e,cl,dc⟩:=id hi;have own:Builtin.Dict_items.ownsTuple "dict_keyiterator"=false:=by decide
 unfold pyNext;refine Aw (C9 (BK (name:=Str.ofString "__next__") hi.typeIs Cf (BG Cf hi.typeIs F.entry_dict_keyiterator_next ?_ (DM _))));refine Aw (Az (Aw (Aw ?_)))
 (first | refine Aw (CA hi.typeIs (Az (Aw (CF e dc ?_)))) | refine Aw (CW hi.typeIs (Az (Aw (CF e dc ?_)))));simp only [own,Cq,if_false]
 refine (show wpAny _ _ (if (Value.ref d == Value.none)=true then _ else _) _ _ s from ?_);rw [if_neg (show ¬ ((Value.ref d == Value.none)=true) from AX)];refine Aw (Az (Aw (Em ho hd ?_)));rw [if_neg (by simp)];refine Aw (Az (Aw (wpAny_dictEpoch ho hd ?_)));rw [if_neg (by simp)];refine Az ?_;simp only [show ¬ ((i:Int) < 0) from by omega,if_false,B9,BE lt];refine Aw ?_;(first | refine Aw (CA hi.typeIs (Az (Aw (DF hi.typeIs ?_)))) | refine Aw (CW hi.typeIs (Az (Aw (DF hi.typeIs ?_)))));refine (show wpAny _ _ (setField (.ref c) 1 (rawInt ((i:Int) + 1)) >>= _) _ _ s from Aw (Ce e dc (by simp) ?_));have IB:(s.heap.update c (Obj.mapFields (·.setIfInBounds 1 (rawInt ((i:Int) + 1))))).IsKeyIter c d (i + 1) es.size ep:=⟨_,BN _ e (DE (CL dc _)),(El ..).trans cl,by rw [CL dc];simp [rawInt]⟩
 refine Aw (BJ (Aw (DF (s:={ s with heap:=s.heap.update c (Obj.mapFields (·.setIfInBounds 1 (rawInt ((i:Int) + 1)))) }) IB.typeIs ?_)));exact (show wpAny _ _ (pure es[i].key) _ _ _ from Az (Az ⟨_,rfl,Az (q _ IB (BV ..))⟩))
theorem yq {c d:Addr}{i ep:Nat}{o:Obj}{es:Array DictEntry}{Q:Option zz9->zz8->Prop} (hh:A.handled=none) (hi:s.heap.IsKeyIter c d i es.size ep) (ho:s.heap.get? d=some o) (hd:o.data=.dict es ep) (ge:es.size<=i)
  (q:∀G,Heap.ExtBut c s.heap G->Q none { s with heap:=G }):wpAny (model prog w) A (pyNext (.ref c)) Q E s:=by
 obtain⟨oc,e,cl,dc⟩:=id hi;have own:Builtin.Dict_items.ownsTuple "dict_keyiterator"=false:=by decide
 unfold pyNext;refine Aw (C9 (BK (name:=Str.ofString "__next__") hi.typeIs Cf (BG Cf hi.typeIs F.entry_dict_keyiterator_next ?_ (DM _))));refine Aw (Az (Aw (Aw ?_)))
 (first | refine Aw (CA hi.typeIs (Az (Aw (CF e dc ?_)))) | refine Aw (CW hi.typeIs (Az (Aw (CF e dc ?_)))));simp only [own,Cq,if_false]
 refine (show wpAny _ _ (if (Value.ref d == Value.none)=true then _ else _) _ _ s from ?_);rw [if_neg (show ¬ ((Value.ref d == Value.none)=true) from AX)];refine Aw (Az (Aw (Em ho hd ?_)));rw [if_neg (by simp)];refine Aw (Az (Aw (wpAny_dictEpoch ho hd ?_)));rw [if_neg (by simp)];refine Az ?_;simp only [show ¬ ((i:Int) < 0) from by omega,if_false,B9,C3 ge];refine Aw ?_;(first | refine Aw (CA hi.typeIs (Az ?_)) | refine Aw (CW hi.typeIs (Az ?_)));refine (show wpAny _ _ (setField (.ref c) 0 .none >>= _) _ _ s from Aw (Ce e dc (by simp) (show wpAny _ _ (newExc (.type "StopIteration") [] >>= _) _ _ _ from Aw ?_)));simp only [newExc,newTuple];refine Aw (Bp (Aw (m:=firstArgMember _ _) (Cv (a:=Value.none) (by first | rfl | (simp only [firstArgMember];rfl)) (Bp ?_ (by size_fits)))) (by size_fits));simp only [raiseNew];refine Aw (wpAny_handled ?_);rw [show A.in1.handled=none from hh];refine Aw (Az (wpAny_throw ?_));refine Aw (wpAny_isInstance (T:="StopIteration") (b:=true) ⟨_,AS _ rfl,rfl⟩ isSubtype_stop (Az (q _ (((BV ..).extBut.push _).push _))))
theorem wK {d:Addr}{ep:Nat}{o:Obj}{es:Array DictEntry}{Q:zz9->zz8->Prop} (nd:(d == sysModules)=false) (ho:s.heap.get? d=some o) (ex:o.ExactDict) (hd:o.data=.dict es ep)
  (q:Q (.ref s.heap.objs.size) { s with heap:=s.heap.push { cls:=.type "dict_keyiterator",data:=.fields #[.ref d,.int 0 0,.int es.size 0,.int ep 0] } }):wpAny (model prog w) A (pyIter (.ref d)) Q E s:=by
 have ty:s.TypeIs (.ref d) "dict":=⟨o,ho,ex.1⟩
 refine En ty F.slot_dict_iter (BG F.slot_dict_iter ty F.entry_dict_iter ?_ (F.args_dict_iter_1 _));unfold Builtin.«dict.__iter__»;refine Aw ?_;unfold Builtin.Dict.dictSlotNone;refine Aw (wpAny_notOrdered_dict ty (show wpAny _ _ (pure (Value.ref d)) _ _ s from Az (show wpAny _ _ (Builtin.Dict.showsAll d >>= _) _ _ s from ?_)));unfold Builtin.Dict.showsAll;rw [if_neg (by rw [nd];exact AX)];refine Aw (Az (Aw (Em ho hd (Aw (wpAny_dictEpoch ho hd (Aw (Bp (Az ⟨_,rfl,"dict_keyiterator",_,⟨_,AS _ rfl,rfl⟩,Cf.lookup,?_⟩))))))));simpa [rawInt] using q
end
theorem Inv.freeze {X:Cx}{pins:List (Addr×Obj)}{σ:St}{H:Hp}{s:zz8}{a:Addr}{o:Obj}{kvs:List (List Key×V)} (I:Inv X pins σ H s) (e:H a=some (.dT kvs)) (ho:s.heap.get? a=some o):Inv X pins σ (upd H a (.frz o (.dT kvs))) s:=by
 have ne:∀b u,H b=some u->(∀k,u≠.dT k)->b≠a:=λb u q n z=>by
  rw [z,e] at q;cases q;exact n _ rfl
 have st:∀{b:Addr}{u:HO},aY X.prog X.w H s.heap b u->aY X.prog X.w (upd H a (.frz o (.dT kvs))) s.heap b u:=λx=>x.stay (λ_ _ _ q=>q) (λb q=>by rw [ao (ne b _ q (by intro k z;cases z))];exact q) λb xs q=>by rw [ao (ne b _ q (by intro k z;cases z))];exact q
 refine I.step (h':=s.heap) (g':=s.gens) (t':=s.toks) (d':=s.drawn) (ch:=[]) (λ_ z=>nomatch z) (λb o _ _ _ q _=>q) (λb o _ _ _ q _=>⟨o.slots,q⟩) (λb o' _ q n=>?_) (λb o _ q=>⟨o,q⟩) (λb xs q=>?_) (λb o u q=>?_) (λb ps q=>?_) (λm h=>h) (λb u q=>?_) I.bare
 ·rw [ao (λz=>by rw [z,e] at n;cases n)];exact n
 ·rw [ao (ne b _ q (by intro k z;cases z))];exact q
 ·rw [ao (ne b _ q (by intro k z;cases z))];exact q
 ·exact⟨#[],by rw [ao (ne b _ q (by intro k z;cases z)),q];simp⟩
 ·by_cases hb:b=a
  ·subst hb
   rw [ag] at q;cases q;exact⟨ho,st (I.hok b _ e)⟩
  ·rw [ao hb] at q
   exact st (I.hok b u q)
def NQ (a:Addr) (o:Obj):It :=
 ⟨λi H=>∃kvs,H a=some (.frz o (.dT kvs))/\i < kvs.length,
  λi H v H'=>H'=H/\∀kvs,H a=some (.frz o (.dT kvs))->∃p b,kvs[i]?=some p/\v=.ref b/\H b=some (.tup (p.1.map kV)),
  λi H=>∃kvs,H a=some (.frz o (.dT kvs))/\kvs.length<=i⟩
theorem Paired.at {α β:Type}{F:α->β->Prop}:∀{l:List α}{m:List β},Paired F l m->∀{i:Nat}{x:α},l[i]?=some x->∃y,m[i]?=some y/\F x y
 | _,_,.cons r t,0,x,h=>by simp at h;subst h;exact⟨_,rfl,r⟩
 | _,_,.cons r t,i + 1,x,h=>by simpa using Paired.at t (by simpa using h)
theorem uq {P:Program}{w:World}{K:zz7}{tg:Expr} (a it:Addr) (o:Obj) (es:Array DictEntry) (ep:Nat) (hd:o.data=.dict es ep):Turn P w K tg (NQ a o) [it] it (λi h=>h.IsKeyIter it a i es.size ep) where
 mem:=by simp
 obj:=λi h st b hb=>by
  have e:b=it:=by simpa using hb
  subst e;obtain⟨o,e,c,d⟩:=st;exact⟨o,e,λv z=>by rw [d] at z;cases z⟩
 keep:=λi h h' st k=>st.at λo e=>k it (by simp) o e
 item:=by
  intro X hP hw hK hc i pins s σ H E I hf st hg;subst hP hw hK;obtain⟨kvs,ha,lt⟩:=hg;obtain⟨ho,_,_,xs,rel,o2,Ur,Nb,h1,_,h2,h3,_⟩:=(show aY X.prog X.w H s.heap a (.frz o (.dT kvs)) from I.hok a _ ha)
  rw [ho] at h1;cases h1;rw [hd] at h2;cases h2;have hl:=C8 rel;have TF:es.size=xs.length:=size_of_entries h3;have Vx:i < es.size:=by omega
  obtain⟨p,hp⟩:∃p,kvs[i]?=some p:=⟨_,AD lt⟩
  obtain⟨y,hy,r1,r2,r3⟩:=Paired.at rel hp;have ek:es[i].key=.ref y.2.1:=by
   have q:=entry_at h3 i;rw [hy,BE Vx] at q;simp only [Dg,Option.some.injEq] at q;rw [q];rfl
  obtain⟨f0,f1,f2,f3,f4,f5⟩:=hf it (by simp);refine xu st ho hd Vx λh' Fb sb=>?_;rw [ek];have I1:Inv X pins σ H { s with heap:=h' }:=I.turned (t':=s.toks) (λb o hb e=>(sb.2 b hb).trans e) f0 f1 f3 f4 f5;obtain⟨o',e,c,d⟩:=id Fb;exact⟨_,rfl,gQ (s:={ s with heap:=h' }) e c d (by decide) ⟨.ref y.2.1,H,I1,rfl,⟨rfl,λY7 ha'=>by rw [ha] at ha';cases ha';exact⟨p,_,hp,rfl,r2⟩⟩,Fb,λb hb=>(hf b hb).1⟩⟩
 done:=by
  intro X hP hw hK hc i pins s σ H E I hf st hg;subst hP hw hK;obtain⟨kvs,ha,ge⟩:=hg;obtain⟨ho,_,_,xs,rel,o2,Ur,Nb,h1,_,h2,h3,_⟩:=(show aY X.prog X.w H s.heap a (.frz o (.dT kvs)) from I.hok a _ ha)
  rw [ho] at h1;cases h1;rw [hd] at h2;cases h2;have hl:=C8 rel;have TF:es.size=xs.length:=size_of_entries h3;obtain⟨f0,f1,f2,f3,f4,f5⟩:=hf it (by simp);exact yq (I.ok.hd hc) st ho hd (by omega) λh' eb=>⟨rfl,I.turned (t':=s.toks) (λb o hb e=>eb b o hb e) f0 f1 f3 f4 f5⟩
 self:=λ_ _ _ _ _ st h=>wpAny_pyIter_keyiter st h
section
variable {X:Cx}{tg:Expr}
def yR (tl:TE):TI:=λσ H R=>tl σ H λx H1=>∃a kvs,x=.ref a/\H1 a=some (.dT kvs)/\∀o,R (NQ a o) (upd H1 a (.frz o (.dT kvs)))
theorem nJ {l:Expr}{tl:TE} (hl:PE X l tl):PI X tg l (yR tl):=by
 intro pins s σ H R I h;refine EI (hl pins s σ H _ I h) λv s1 ⟨x,H1,I1,r1,q1⟩=>?_;obtain⟨a,kvs,rfl,ha,q⟩:=q1;cases r1;obtain⟨_,nd,xs,rel,o,es,ep,ho,ex,hd,h3,_⟩:=(show aY X.prog X.w H1 s1.heap a (.dT kvs) from I1.hok a _ ha)
 refine wK nd ho ex hd ?_;have I2:=I1.freeze ha ho;refine⟨s1.heap.objs.size,[s1.heap.objs.size],_,_,_,rfl,I2.kept (t':=s1.toks) λb o e=>AA _ e,uq a _ o es ep hd,⟨_,AS _ rfl,rfl,rfl⟩,λb hb=>?_,q o⟩;have e:b=s1.heap.objs.size:=by simpa using hb
 subst e;exact I2.fpOk (AF _) (I2.hok.fresh (AF _))
end
def ja (H:Hp) (a:Addr) (y v:V) (H':Hp):Prop:=∃kvs k,H a=some (.dK kvs)/\y=kV k/\kvs.length < sizeLine/\H'=upd H a (.dK (putK kvs k v))
theorem sI {X:Cx}{pins:List (Addr×Obj)}{σ:St}{H H':Hp}{s:zz8}{a:Addr}{y v:V}{u r:zz9}{A:Around}{E:zz9->zz8->Prop}{Q:Unit->zz8->Prop} (I:Inv X pins σ H s) (g:ja H a y v H') (ry:RelV y u) (rv:RelV v r) (h:∀s',Inv X pins σ H' s'->Q () s') :
  wpAny (model X.prog X.w) A (dictSet a u r) Q E s:=by
 obtain⟨kvs,k,e,ey,l,eH⟩:=g;subst ey eH;obtain⟨z,hd,vs,rel,dd⟩:=kB I.hok e;have hl:(putK kvs k v).length<=sizeLine:=by have:=fE kvs k v;omega
 refine wpAny_dictSet_pairs (hsz:=by rw [<- rel.length];exact z) (fZ ry) dd λh' IT hs=>h _ ?_;have he:∃q,h'.get? a=some q:=let ⟨q,_,_,hq,_⟩:=IT;⟨q,hq⟩;exact gD I (by rw [e];exact True.intro) hs he (ke hl hd (rel.put k rv) IT)
def kO (D:Addr) (J:It) (g:TG) (tt:TT) (tk tv:TE) (σ':St) (fin:Hp->Prop) (H1:Hp):Prop :=
 ∃W:Nat->Nat->St->Hp->Prop,(∃m,W 0 m σ' H1)/\∀i m σ H,W i m σ H ->
  (J.stop i H/\fin H)\/(J.go i H/\∃Nx:St->Hp->Prop,(∀σ' H',Nx σ' H'->∃m',m' < m/\W (i + 1) m' σ' H') /\
   ∀x H',J.yld i H x H'->g x σ H' λσ2 H2=>tt σ2 H2 λb H3=>if b=true then tk σ2 H3 (λy H4=>tv σ2 H4 λv H5=>∃H6,ja H5 D y v H6/\Nx σ2 H6) else Nx σ2 H3)
section
variable {X:Cx}{scope:Scope}{N:List Str}{ix:List (Option Nat)}
variable {tg iter kx vx:Expr}{ifs:List Expr}{pos:Pos}{g:TG}{tt:TT}{tk tv:TE}
theorem wt (L:bX X scope N ix) (hc:X.calm=true) (hg:∀C s0 H0 fp,PG (aw X scope N C s0 H0 fp) tg g) (ht:∀C s0 H0 fp,HS (aw X scope N C s0 H0 fp) ifs tt) (hk:∀C s0 H0 fp,PE (aw X scope N C s0 H0 fp) kx tk) (hv:∀C s0 H0 fp,PE (aw X scope N C s0 H0 fp) vx tv)
  {pins:List (Addr×Obj)}{σ:St}{H1:Hp}{s1:zz8}{it:Addr}{fp:List Addr}{tn:Nat->Heap->Prop}{J:It}{fin:Addr->Hp->Prop}{E:zz9->zz8->Prop}{RR:zz9->Addr->Result->zz8->Prop}
  (I1:Inv X pins σ H1 s1) (T:Turn X.prog X.w X.K tg J fp it tn) (st:tn 0 s1.heap) (f1:∀b∈fp,bR X pins H1 b) (hW:∀D,H1 D=none->kO D J g tt tk tv (GW ix σ) (fin D) (upd H1 D (.dK [])))
  (M6:∀D C s' m H',s'.heap.Ns C m->s'.os=s1.os->bR X pins H' C->(∀h',Heap.SameBut C s'.heap h'->Inv X pins σ H' { s' with heap:=h' })->fin D H'->RR (.ref D) C (.ok .next) s') :
  wpAny (model X.prog X.w) X.A newDict (λEL s3=>wpAny (model X.prog X.w) X.A (newFunctionEnv scope X.env.globals (cy X.env scope.names []) [] X.env.qual none .none (some X.env)) (λGF s4 =>
   codeAny (model X.prog X.w) X.A (.compStart (.DictComp kx vx [⟨tg,iter,ifs,0⟩] scope pos) 0 (.ref it) EL { GF with scope:=relabel scope X.env }) (RR EL GF.locals) s4) E s3) E s1:=by
 have HB:∀b∈fp,b < s1.heap.objs.size:=λb hb=>by
  obtain⟨o,e,_⟩:=T.obj _ _ st b hb;exact AQ e
 have Uh:H1 s1.heap.objs.size=none:=I1.hok.fresh (AF _);obtain⟨W,⟨m0,w0⟩,turn⟩:=hW s1.heap.objs.size Uh;refine Bp (C6 L.nocell (by intro y hy;simp at hy) (λh1 Hj Hq=>?_) L.kind)
 dsimp only at Hj Hq ⊢
 have I2:Inv X pins σ (upd H1 s1.heap.objs.size (.dK [])) { s1 with heap:=s1.heap.push { cls:=.type "dict",data:=.dict #[] },toks:=s1.toks } :=
  I1.laid (t':=s1.toks) (a:=s1.heap.objs.size) (o:=.dK []) (λ_ _ q=>AA _ q) (AF _) (ny s1.heap I1.big)
 have f2:∀b∈fp,bR X pins (upd H1 s1.heap.objs.size (.dK [])) b:=λb hb=>by
  obtain⟨q0,q1⟩:=f1 b hb;exact⟨by rw [ao (Bh (HB b hb))];exact q0,q1⟩
 have Gy:tn 0 (s1.heap.push { cls:=.type "dict",data:=.dict #[] }):=T.keep _ _ _ st λb _ o e=>AA _ e;generalize hD:s1.heap.objs.size=D at *;generalize hH2:upd H1 D (.dK [])=H2 at *;generalize hG:s1.heap.push { cls:=.type "dict",data:=.dict #[] }=G at *;have JJ:G.objs.size=D + 1:=by rw [<- hG,B0,hD]
 generalize IF:G.objs.size=C at *;have kp:∀b o,G.get? b=some o->h1.get? b=some o:=λb o e=>Hq.extBut b o (λz=>by have:=AQ e;rw [IF] at this;exact absurd (z ▸ this) (BI _)) (AA _ e);have I4:=i7 L (tk:=s1.toks + ([]:List (Str×zz9)).length) I2 (C:=C) (by show G.objs.size<=C;rw [IF];exact AF _) f2 (λb hb=>by show b < G.objs.size;rw [IF,JJ];exact BY (HB b hb)) kp Hj;have HK:tn 0 h1:=T.keep _ _ _ Gy λb _ o e=>kp b o e;generalize Gs:({ s1 with heap:=G,toks:=s1.toks }:zz8)=s2 at I2 I4;have Jp:s2.heap=G:=by rw [<- Gs]
 have Mx:s2.os=s1.os:=by rw [<- Gs]
 have stat:∀{H':Hp},(∀b∈fp,H' b=none)->∀b∈fp,bR (aw X scope N C s2 H2 fp) [] H' b:=λ{H'} hn b hb=>by
  have EM:=HB b hb;refine⟨hn b hb,λz=>?_,λz=>?_,.inl hb,λx c e=>(f2 b hb).2.2.2.2.1 x c (dk e),λp hq z=>?_⟩
  ·exact nH EM JJ z
  ·exact (AI.mp (I2.stkSub b z)).elim (f2 b hb).2.1 (f2 b hb).2.2.1
  ·have HF:p∈([]:List (Addr×Obj)):=by simpa [aw] using hq
   cases HF
 have loop:∀s4:zz8,Inv (aw X scope N C s2 H2 fp) [] (GW ix σ) H2 s4->tn 0 s4.heap->codeAny (model X.prog X.w) X.A (.compLoop (.DictComp kx vx [⟨tg,iter,ifs,0⟩] scope pos) 0 (.ref it) (.ref D) (aw X scope N C s2 H2 fp).env) (RR (.ref D) C) s4:=by
  intro s4 UF L0;refine oh (λn s'=>∃i σ' H',Inv (aw X scope N C s2 H2 fp) [] σ' H' s'/\tn i s'.heap/\(∀b∈fp,H' b=none)/\W i n σ' H') ?_ m0 ⟨0,GW ix σ,H2,UF,L0,λb hb=>(f2 b hb).1,w0⟩;rintro n s' ⟨i,σ',H',I',Fb,Im,w'⟩
  rcases turn i n σ' H' w' with ⟨stop,qf⟩ | ⟨go,Nx,hN,step⟩
  ·refine EI (T.done (aw X scope N C s2 H2 fp) rfl rfl rfl hc i _ s' σ' H' _ I' (stat Im) Fb stop) λr s5 ⟨hr,I5⟩=>?_
   subst hr;obtain⟨m5,KA,_⟩:=I5.loc;refine M6 D C s5 m5 H' KA (I5.os.trans Mx) (I2.fpOk (by rw [Jp,IF];exact AF _) I5.free) (λh' FO=>?_) qf;exact pT I2 f2 I5 (by rw [Jp,IF];exact AF _) λb o hb e=>FO.extBut b o hb e
  ·refine EI (T.item (aw X scope N C s2 H2 fp) rfl rfl rfl hc i _ s' σ' H' _ I' (stat Im) Fb go) λr s5 ⟨u,hr,h5⟩=>?_
   subst hr;refine EI h5 λ_ s6 ⟨x,H6,I6,r6,y6,GL,KL⟩=>?_;have KS:=I6.pinned (stat KL) (T.obj _ _ GL);refine EI (hg C s2 H2 fp _ s6 σ' H6 x u _ KS r6 (step x H6 y6)) λ_ s7 ⟨σ7,H7,I7,q7⟩=>?_;refine EI (ht C s2 H2 fp _ s7 σ7 H7 _ I7 q7) λok s8 ⟨H8,I8,q8⟩=>?_;have back:∀{H9:Hp}{s9:zz8},Inv (aw X scope N C s2 H2 fp) ([]++df fp s6.heap) σ7 H9 s9->tn (i + 1) s9.heap/\∀b∈fp,H9 b=none:=λ{H9 s9} I9=>by
    refine⟨T.keep _ _ _ GL λb hb o e=>(I9.pin (b,o) (AK _ (AK _ (cV hb e)))).1,λb hb=>?_⟩;obtain⟨o,e,d⟩:=T.obj _ _ GL b hb;exact (I9.pin (b,o) (AK _ (AK _ (cV hb e)))).2.1
   cases ok with
   | false =>
    rw [if_neg AX] at q8 ⊢;obtain⟨m',hm,w8⟩:=hN _ _ q8;obtain⟨Ke,KJ⟩:=back I8;exact⟨m',hm,i + 1,σ7,H8,I8.unpinned,Ke,KJ,w8⟩
   | true =>
    rw [if_pos rfl] at q8 ⊢;refine EI (hk C s2 H2 fp _ s8 σ7 H8 _ I8 q8) λyv s9 ⟨y,H9,I9,r9,q9⟩=>?_;refine EI (hv C s2 H2 fp _ s9 σ7 H9 _ I9 q9) λxv E3 ⟨v,E5,IV,Rl,FI,Ul,Lm⟩=>?_;refine sI (X:=aw X scope N C s2 H2 fp) IV Ul r9 Rl λFy Nj=>?_;obtain⟨m',hm,KZ⟩:=hN _ _ Lm;obtain⟨L1,Na⟩:=back Nj;exact⟨m',hm,i + 1,σ7,FI,Nj.unpinned,L1,Na,KZ⟩
 have q:=loop _ I4 HK;subst Gs;exact codeAny_compStart_dict q (T.self _ 0 _ _ _ HK q)
def zG (wi:TI) (g:TG) (tt:TT) (tk tv:TE) (ix:List (Option Nat)):TE:=λσ H Q=>wi σ H λJ H1=>∀D,H1 D=none->kO D J g tt tk tv (GW ix σ) (λH'=>Q (.ref D) H') (upd H1 D (.dK []))
theorem xM {wi:TI} (L:bX X scope N ix) (hc:X.calm=true) (hi:PI X tg iter wi) (hg:∀C s0 H0 fp,PG (aw X scope N C s0 H0 fp) tg g)
  (ht:∀C s0 H0 fp,HS (aw X scope N C s0 H0 fp) ifs tt) (hk:∀C s0 H0 fp,PE (aw X scope N C s0 H0 fp) kx tk) (hv:∀C s0 H0 fp,PE (aw X scope N C s0 H0 fp) vx tv) (hs:∀x,foldedSetIterable iter X.env x=pure x:=by intro _;rfl) :
  PE X (.DictComp kx vx [⟨tg,iter,ifs,0⟩] scope pos) (zG wi g tt tk tv ix):=by
 intro pins s σ H Q I h;show wpAny _ X.A (comprehension (.DictComp kx vx [⟨tg,iter,ifs,0⟩] scope pos) scope X.env _ newDict false (eval iter X.env)) _ _ s;refine Cd (use:=none) rfl hs (L.clos I.ok) L.kind L.locals (EI (hi pins s σ H _ I h) λv s1 h1=>EI h1 λLq s2 h2=>?_);obtain⟨it,fp,tn,J,H2,rfl,I2,T,Gy,f2,hW⟩:=h2;refine wt (RR:=λEL C=>compPost (model X.prog X.w) X.A X.xe none (EP X pins σ Q) EL C) L hc hg ht hk hv I2 T Gy f2 hW ?_;intro D C s' m H' hn ho hC hI fin;exact⟨m,hn,λh' FO=>⟨.ref D,_,hI h' FO,rfl,fin⟩⟩
end
def ko:List (TE×TE)->St->Hp->(List (V×V)->Hp->Prop)->Prop
 | [],_,H,Q=>Q [] H
 | (tk,tv)::r,σ,H,Q=>tk σ H λx H1=>tv σ H1 λy H2=>ko r σ H2 λps H3=>Q ((x,y)::ps) H3
abbrev VV:List (V×V)->List (zz9×zz9)->Prop:=Paired λp q=>RelV p.1 q.1/\RelV p.2 q.2
def QQ (X:Cx) (pos:Pos) (keys:List (Option Expr)) (values:List Expr) (E9:List (TE×TE)):Prop :=
 ∀(pins:List (Addr×Obj)) (s:zz8) (σ:St) (H:Hp) (Q:List (V×V)->Hp->Prop),Inv X pins σ H s->ko E9 σ H Q ->
  wpAny (model X.prog X.w) X.A (evalPairs (pairTrees keys values X.env pos)) (λvs s'=>∃ps H',Inv X pins σ H' s'/\VV ps vs/\Q ps H') X.xe s
theorem wM {X:Cx}{pos:Pos}:QQ X pos [] [] []:=λpins s σ H Q I h=>pairTrees_nil_walk ⟨[],H,I,.nil,h⟩
theorem vh {X:Cx}{pos:Pos}{k v:Expr}{ks:List (Option Expr)}{vs:List Expr}{tk tv:TE}{E9:List (TE×TE)} (hk:PE X k tk) (hv:PE X v tv) (hr:QQ X pos ks vs E9) :
  QQ X pos (some k::ks) (v::vs) ((tk,tv)::E9):=λpins s σ H Q I h =>
 pairTrees_cons_walk (EI (hk pins s σ H _ I h) λu s1 ⟨x,H1,I1,rx,q1⟩=>EI (hv pins s1 σ H1 _ I1 q1) λw2 s2 ⟨y,H2,I2,ry,q2⟩ =>
  EI (hr pins s2 σ H2 _ I2 q2) λws s3 ⟨ps,H3,I3,rel,q3⟩=>⟨(x,y)::ps,H3,I3,.cons ⟨rx,ry⟩ rel,q3⟩)
def fQ (kvs more:List (Key×V)):List (Key×V):=more.foldl (λEL kv=>putK EL kv.1 kv.2) kvs
theorem KV.merge:∀{more:List (Key×V)}{rs:List (Key×zz9)}{kvs:List (Key×V)}{vs:List (Key×zz9)},KV more rs->KV kvs vs->KV (fQ kvs more) (merged vs rs):=by
 intro more rs kvs vs r;unfold KV at r
 induction r generalizing kvs vs with
 | nil=>intro q;exact q
 | @cons p q ps qs h t ih =>
  intro r0;have e:KV (putK kvs p.1 p.2) (stored vs q.1 q.2):=by
   have:=r0.put p.1 h.2;rw [<- h.1];exact this
  exact ih e
theorem k6:∀(more kvs:List (Key×V)),(fQ kvs more).length<=kvs.length + more.length
 | [],kvs=>by show kvs.length<=kvs.length + 0;omega
 | p::r,kvs=>by
  have h1:=k6 r (putK kvs p.1 p.2);have h2:=fE kvs p.1 p.2;show (fQ (putK kvs p.1 p.2) r).length<=_;rw [Bv];omega
theorem lz {P:Program}{w:World}:∀{kvs:List (Key×V)}{ws:List (zz9×zz9)},VV (kvs.map λkv=>(kV kv.1,kv.2)) ws->∃rs,Carries (cN P w) ws rs/\KV kvs rs
 | [],_,r=>by rw [Dk] at r;cases r;exact⟨[],True.intro,.nil⟩
 | p::kvs,_,r=>by
  rw [Bj] at r;cases r with
  | @cons a b as bs h t =>
   obtain⟨rs,c,q⟩:=lz (P:=P) (w:=w) t;obtain⟨b1,b2⟩:=b;exact⟨(p.1,b2)::rs,⟨fZ h.1,rfl,c⟩,.cons ⟨rfl,h.2⟩ q⟩
def yV (E9:List (TE×TE)):TE:=λσ H Q=>∀p,H p=none->ko E9 σ (upd H p (.dK [])) λps H2=>H2 p=some (.dK [])/\∃kvs:List (Key×V),ps=kvs.map (λkv=>(kV kv.1,kv.2))/\kvs.length<=15/\Q (.ref p) (upd H2 p (.dK (fQ [] kvs)))
theorem xf {X:Cx}{pos:Pos}{keys:List (Option Expr)}{values:List Expr}{E9:List (TE×TE)} (h:QQ X pos keys values E9) (Gh:keys.all (·.isSome)=true) (hl:keys.length=values.length) (h0:keys≠[])
  (h15:keys.length<=15):PE X (.Dict keys values pos) (yV E9):=by
 intro pins s σ H Q I q;have hn:=I.hok.fresh (AF s.heap.objs.size);have I1:=I.laid (a:=s.heap.objs.size) (o:=.dK []) (h':=s.heap.push { cls:=.type "dict",data:=.dict #[] }) (t':=s.toks) (λ_ _ q=>AA _ q) (AF _) (ny s.heap I.big);refine wpAny_Dict_walk (knd:=cN X.prog X.w) Gh hl h0 h15 (EI (h pins _ σ _ _ I1 (q _ hn)) λws s2 ⟨ps,H2,I2,rel,e,kvs,ep,lk,q2⟩=>?_);subst ep;obtain⟨rs,c,rk⟩:=lz (P:=X.prog) (w:=X.w) rel;obtain⟨z,hd,vs0,r0,dd⟩:=kB I2.hok e;cases r0;refine⟨rs,c,dd,λh' IT hs=>⟨.ref s.heap.objs.size,_,?_,rfl,q2⟩⟩;have hz:(fQ [] kvs).length<=sizeLine:=by
  have h1:=k6 kvs [];rw [ED] at h1;rw [Br];omega
 have he:∃q,h'.get? s.heap.objs.size=some q:=let ⟨q,_,_,hq,_⟩:=IT;⟨q,hq⟩;exact gD I2 (by rw [e];exact True.intro) hs he (ke hz hd (rk.merge .nil) IT)
structure M1 (X:Cx) (o:Expr) (m:Str) (apos:Pos) (e:Expr) (Fv:Pos):Prop where
 base:attributeBase o m X.env (eval o X.env)=eval o X.env
 few:((backTo Fv (starEach [e] X.env)).all (λx=>!x.1) && (backToKw Fv (keywordEach [] X.env)).all (λx=>x.1.isSome)
  && decide (([e]:List Expr).length + ([]:List Keyword).length + (if ([]:List Keyword).isEmpty then 0 else 1) < 30))=true
 line:(apos.endLine == Fv.line)=true
 trees:backTo Fv (starEach [e] X.env)=[(false,eval e X.env)]
structure M2 (X:Cx) (o:Expr) (m:Str) (apos:Pos) (e f:Expr) (Fv:Pos):Prop where
 base:attributeBase o m X.env (eval o X.env)=eval o X.env
 few:((backTo Fv (starEach [e,f] X.env)).all (λx=>!x.1) && (backToKw Fv (keywordEach [] X.env)).all (λx=>x.1.isSome)
  && decide (([e,f]:List Expr).length + ([]:List Keyword).length + (if ([]:List Keyword).isEmpty then 0 else 1) < 30))=true
 line:(apos.endLine == Fv.line)=true
 trees:backTo Fv (starEach [e,f] X.env)=[(false,eval e X.env),(false,eval f X.env)]
section
variable {X:Cx}{pins:List (Addr×Obj)}{σ:St}{H:Hp}{s:zz8}{a:Addr}{y d:V}{u r:zz9}{o:Option V}{A:Around}{E:zz9->zz8->Prop}
end
section
variable {X:Cx}{o e f:Expr}{apos Fv:Pos}{td ty tx:TE}
end
section
variable {X:Cx}{pins:List (Addr×Obj)}{σ:St}{H:Hp}{s:zz8}{a:Addr}{kvs:List (Key×V)}{A:Around}{E:zz9->zz8->Prop}
end
section
variable {X:Cx}{pins:List (Addr×Obj)}{σ:St}{H:Hp}{s:zz8}{a:Addr}{y:V}{u:zz9}{A:Around}{E:zz9->zz8->Prop}
end
section
variable {X:Cx}
theorem um:bJ X (.builtin "len") (λxs H Q=>∃a kvs,xs=[V.ref a]/\H a=some (.dK kvs)/\Q (.int kvs.length) H):=by
 intro pins s σ H xs us Q I r h;obtain⟨a,kvs,rfl,ha,q⟩:=h;obtain⟨u,rfl,ru⟩:=vals1 r;cases ru;exact yW I (.inl ha) λt s' I'=>⟨.int kvs.length,H,I',⟨t,rfl⟩,q⟩
end
section
variable {κ:Type} [DecidableEq κ]
theorem wX {kvs:List (κ×V)}{k:κ}{v:V} (h:bf kvs k=some v):k∈kvs.map (·.1):=by
 have q:(kvs.any λkv=>decide (kv.1=k))=true:=by
  rw [eA,h]
  all_goals rfl
 obtain⟨p,hp,e⟩:=DB.mp q;exact AG.mpr ⟨p,hp,of_decide_eq_true e⟩
end
end L2
namespace L2
open PySem PySem.Spec PyProof.Rows PySem.W PySem.Calls
theorem aY.get {P:Program}{w:World}{H:Hp}{h:Heap}{a:Addr}{o:HO} (x:aY P w H h a o):∃ob,h.get? a=some ob:=by
 cases o with
 | lst xs=>obtain⟨_,_,_,_,e⟩:=x;exact⟨_,e⟩
 | tup xs=>obtain⟨_,_,_,ob,e,_⟩:=x;exact⟨_,e⟩
 | dK kvs=>obtain⟨_,_,_,_,o,_,_,e,_⟩:=x;exact⟨_,e⟩
 | dT kvs=>obtain⟨_,_,_,_,o,_,_,e,_⟩:=x;exact⟨_,e⟩
 | set S n=>obtain⟨o,_,_,_,e,_⟩:=x;exact⟨_,e⟩
 | ins C dx fs=>obtain⟨_,_,_,e,_⟩:=x;exact⟨_,e⟩
 | own y=>obtain⟨_,e⟩:=x;exact⟨_,e⟩
 | xd fs=>obtain⟨_,⟨_,_,_,e,_⟩,_⟩:=x;exact⟨_,e⟩
 | rng lo hi=>obtain⟨_,_,_,e⟩:=x;exact⟨_,e⟩
 | frz ob u=>obtain⟨e,_⟩:=x;exact⟨_,e⟩
 | tbl ps=>exact⟨_,(show h.get? a=some _ from x)⟩
 | met f y=>exact⟨_,(show h.get? a=some _ from x)⟩
 | ext φ=>obtain⟨_,⟨_,e⟩,_⟩:=x;exact⟨_,e⟩
theorem FB.freeN {P:Program}{w:World}{H:Hp}{h:Heap}{a:Addr} (x:FB P w H h) (e:h.get? a=none):H a=none:=by
 cases q:H a with
 | none=>rfl
 | some u=>obtain⟨ob,e'⟩:=(x a u q).get;rw [e] at e';cases e'
theorem Inv.laidN {X:Cx}{pins:List (Addr×Obj)}{σ:St}{H:Hp}{s:zz8}{h':Heap}{a:Addr}{o:HO}{t':Nat} (I:Inv X pins σ H s) (k:∀b u,s.heap.get? b=some u->h'.get? b=some u) (hp:s.heap.get? a=none) (new:aY X.prog X.w (upd H a o) h' a o) :
  Inv X pins σ (upd H a o) { s with heap:=h',toks:=t' }:=by
 have hn:=I.hok.freeN hp;refine I.un ⟨λb ob e _ _ _=>k b ob e,λb ob e _ _ _=>⟨ob.slots,k b ob e⟩,λb ob e n _=>?_,λb ob e _=>⟨ob,k b ob e⟩,λb xs e=>?_,λb ob u e=>?_,λb ps e=>⟨#[],?_⟩⟩ λb u e=>?_
 ·rw [ao (λz=>by rw [z,hp] at e;cases e)];exact n
 ·rw [ao (aR e hn)];exact e
 ·rw [ao (aR e hn)];exact e
 ·rw [ao (aR e hn)];simpa using e
 ·by_cases hb:b=a
  ·subst hb;rw [ag] at e;cases e;exact new
  ·rw [ao hb] at e
   exact (I.hok b u e).stay (λc v _ q=>k c v q) (λc q=>by rw [ao (aR q hn)];exact q) λc xs q=>by rw [ao (aR q hn)];exact q
section
variable {X:Cx}
end
section
variable {prog:Program}{w:World}{A:Around}{E:zz9->zz8->Prop}{s:zz8}
end
section
variable {prog:Program}{w:World}{A:Around}{R:Result->zz8->Prop}{K:Type} [DecidableEq K] {knd:PySem.KeyKind prog w K}
end
section
variable {X:Cx}
end
end L2
namespace L2
open PySem PySem.Spec PyProof.Rows
theorem tT:bootBuiltins "enumerate"=some (.type "enumerate"):=by decide +kernel
section
variable {X:Cx}
end
end L2
namespace L2
open PySem PySem.Spec PyProof.Rows PySem.W PySem.Calls
section
variable {X:Cx}
theorem rA:bJ X (.builtin "sorted") (λxs H Q=>∃(p:Addr) (ss:List Str),xs=[.ref p]/\EG X.K H p (ss.map V.str)/\ss.length < 64/\∀(ES:List Str) (q:Addr),ES.Perm ss->sortedS ES=true->H q=none->Q (.ref q) (upd H q (.lst (ES.map V.str)))):=by
 intro pins s σ H xs us Q I r h;obtain⟨p,ss,rfl,hq,J1,q⟩:=h;obtain⟨u,rfl,rx⟩:=vals1 r;cases rx;obtain⟨EE,r',⟨o,ho,hc,n,hd⟩,hz⟩:=I.tuple hq;have EJ:=r'.length;rw [Av] at EJ;have hS:=ip r';refine Calls.call_function_entry kind_sorted plain_sorted entry_sorted (args_sorted1 _) ?_;unfold Builtin.«sorted»;refine Aw (m:=checkCount "sorted" 1 1 _) (Az ?_);refine Aw (k9 (.inr rfl) ho hc hd ?_ (by rw [Br];omega));refine Aw (Dz ?_ (by rw [Br];omega));have hsz:((s.heap.push (seqObj "list" #[] 0)).update s.heap.objs.size (Obj.mapSeq (·++EE.toArray))).objs.size=s.heap.objs.size + 1:=by
  rw [Heap.size_update,size_push']
 have Jv:(((s.heap.push (seqObj "list" #[] 0)).update s.heap.objs.size (Obj.mapSeq (·++EE.toArray))).push (seqObj "list" EE.toArray 0)).get? (s.heap.objs.size + 1)=some (seqObj "list" EE.toArray 0):=by
  rw [<- hsz];exact AS _ rfl
 show wpAny _ _ _ _ _ { s with heap:=((s.heap.push (seqObj "list" #[] 0)).update s.heap.objs.size (Obj.mapSeq (·++EE.toArray))).push (seqObj "list" EE.toArray 0) };rw [hsz];refine Aw (BJ (BG slot_list_sort ⟨_,Jv,rfl⟩ entry_list_sort (list_sort_treeK strKind_oneLt Jv hS.keysOf (λv₁ v₂ rest e=>keyKind_strs (by rw [<- e];exact hS)) (by omega) λFb a1 a2=>⟨_,rfl,?_⟩) (args_list_sort _)));obtain⟨ES,h1,h2,h3⟩:=sorted_out_str hS a1 a2;refine Az ⟨_,rfl,?_⟩;obtain⟨e,he⟩:=sortedAll_at s.heap EE ((arrOf Fb).map (·.2));have hv:av (ES.map V.str) ((arrOf Fb).map (·.2)).toList:=iz h1;have KF:H (s.heap.objs.size + 1)=none:=I.hok.fresh (Cu _);refine⟨.ref (s.heap.objs.size + 1),_,I.laid (h':=sortedAll s.heap EE ((arrOf Fb).map (·.2))) (t':=s.toks) (o:=.lst (ES.map V.str)) (λb o z=>sortedAll_old z) (Cu _) ⟨?_,((arrOf Fb).map (·.2)).toList,e,hv,?_⟩,rfl,q ES _ h2 h3 KF⟩
 ·rw [Av,h2.length_eq,Br];omega
 ·rw [Array.toArray_toList];exact he
end
def cZ:zz9->Str
 | .str x _=>x
 | _=>default
structure bB (w:World) (o:Obj) (ss:List Str) (es:Array (Int×zz9)) (ep:Nat) (t:SetTable):Prop where
 cls:o.cls=.type "set"
 dic:o.dict=none
 slo:o.slots=#[]
 dat:o.data=.set es ep t
 els:∀e∈es.toList,∃tk,e.2=.str (cZ e.2) tk/\e.1=hashStr w (cZ e.2)
 all:(es.toList.map λe=>cZ e.2).Perm ss
 one:ss.Nodup
 few:ss.length < 4000
 fit:t.fits es.size=true
 led:t.led=!w.params.followText "set-order"
 pla:es.size=0\/t.plain=false
theorem bB.size {w:World}{o:Obj}{ss:List Str}{es:Array (Int×zz9)}{ep:Nat}{t:SetTable} (x:bB w o ss es ep t):es.size=ss.length:=by
 have:=x.all.length_eq;rw [Av,BD] at this;exact this
theorem bB.elems {P:Program}{w:World}{o:Obj}{ss:List Str}{es:Array (Int×zz9)}{ep:Nat}{t:SetTable} (x:bB w o ss es ep t):ElemsOf (PySem.strKind P w) es.toList:=by
 intro e he;obtain⟨tk,h1,h2⟩:=x.els e he;refine⟨⟨cZ e.2,?_,h2⟩,?_⟩
 ·have z:=EB P w (cZ e.2) tk
  rw [<- h1] at z;exact z
 ·rw [h1];rfl
theorem qQ (t:SetTable) (n:Nat):(t.orStandIn n).led=t.led:=by
 unfold SetTable.orStandIn;split <;> rfl
theorem sW (t:SetTable) (es:Array (Int×zz9)) (h:Int) (x:zz9):(layNew t es h x).2.1.led=t.led:=by
 unfold layNew;split
 ·exact qQ _ _
 ·rfl
theorem qZ (t:SetTable) (es:Array (Int×zz9)) (n:Nat):(relayAll t es n).2.1.led=t.led/\(t.plain=false->(relayAll t es n).2.1.plain=false):=by
 unfold relayAll;split
 ·rename_i t' order he
  have hz:t'.led=t.led/\t'.plain=t.plain:=by
   unfold SetTable.relaid SetTable.laid at he
   revert he
   cases SetTable.layClean (SetTable.sizeAbove n - 1) (es.map (·.1)) with
   | none=>intro he;cases he
   | some ow=>intro he;cases he;exact⟨rfl,rfl⟩
  dsimp only
  split
  ·exact⟨hz.1,λe=>hz.2.trans e⟩
  ·exact⟨rfl,λ_=>rfl⟩
 ·exact⟨rfl,λ_=>rfl⟩
theorem lQ {h:Heap}{a:Addr}{o:Obj}{es es':Array (Int×zz9)}{ep:Nat}{t t':SetTable} (ho:h.get? a=some o) (hd:o.data=.set es ep t) :
  (h.update a (Obj.putSet es' t')).get? a=some { o with data:=.set es' (ep + 1) t' }:=by
 have q:=BN (Obj.putSet es' t') ho (by rw [putSet_of es' t' hd];rfl);rw [putSet_of es' t' hd] at q;exact q
section
variable {prog:Program}{w:World}{A:Around}{E:zz9->zz8->Prop}{s:zz8}
theorem uM {a:Addr}{o:Obj}{ss:List Str}{k:Str}{tk:Tok}{es:Array (Int×zz9)}{ep:Nat}{t:SetTable}{R:Option Bool->zz8->Prop}
  (ho:s.heap.get? a=some o) (x:bB w o ss es ep t) (hk:k∉ss) (few:ss.length + 1 < 4000)
  {L:Array (Int×zz9)×SetTable×Bool×Bool} (hL:layNew t es (hashStr w k) (.str k tk)=L)
  (h:∀(h':Heap) (o':Obj) es' FJ t',Heap.SameBut a s.heap h'->h'.get? a=some o'->bB w o' (k::ss) es' FJ t'->R (some true) { s with heap:=h' }) (g:Bool->Sem Unit) (hg:∀(b:Bool) (s₁:zz8) (Q':Unit->zz8->Prop),Q' () s₁->wpAny (model prog w) A (g b) Q' E s₁) :
  wpAny (model prog w) A (do
   storeSet a L.1 { L.2.1 with plain:=false }
   if (!L.2.2.1 && ({ L.2.1 with plain:=false }:SetTable).tooFull)=true then do
    g (relayAll { L.2.1 with plain:=false } L.1 (SetTable.grown L.1.size)).2.2
    storeSet a (relayAll { L.2.1 with plain:=false } L.1 (SetTable.grown L.1.size)).1 (relayAll { L.2.1 with plain:=false } L.1 (SetTable.grown L.1.size)).2.1
    pure (some true)
   else pure (some true)) R E s:=by
 have pm:=layNew_perm t es (hashStr w k) (.str k tk);have pf:=layNew_fits t es (hashStr w k) (.str k tk);have pl:=sW t es (hashStr w k) (.str k tk);rw [hL] at pm pf pl;obtain⟨e1,t1,b1,b2⟩:=L
 dsimp only at pm pf pl ⊢
 rw [Array.toList_push] at pm;have hsz:=x.size;have z1:e1.size=ss.length + 1:=by
  have:=pm.length_eq;rw [Ba,BD,BD] at this;rw [this,hsz];rfl
 have mk:∀{e2:Array (Int×zz9)}{t2:SetTable}{o2:Obj}{Nb:Nat},e2.toList.Perm e1.toList->o2.cls=.type "set"->o2.dict=none->o2.slots=#[]->o2.data=.set e2 Nb t2->t2.fits e2.size=true->t2.led=t.led->t2.plain=false->bB w o2 (k::ss) e2 Nb t2:=by
  intro e2 t2 o2 Nb p1 c1 c2 c3 c4 c5 c6 c7;have p2:=p1.trans pm;refine⟨c1,c2,c3,c4,λe he=>?_,?_,?_,?_,c5,c6.trans x.led,.inr c7⟩
  ·rcases AO.mp (p2.mem_iff.mp he) with q | q
   ·exact x.els e q
   ·rw [Bd.mp q];exact⟨tk,rfl,rfl⟩
  ·refine (p2.map _).trans ?_
   rw [AU];exact (List.perm_append_comm).trans (List.Perm.cons k x.all)
  ·exact Bc.mpr ⟨hk,x.one⟩
  ·rw [Bv];exact few
 have fz:({ t1 with plain:=false }:SetTable).fits e1.size=true:=SetTable.fits_plain_off pf;refine Aw (wpAny_storeSet_of ho x.dat ?_ (by rw [z1,Br];omega));have g1:=lQ (es':=e1) (t':={ t1 with plain:=false }) ho x.dat;have sb:=BV s.heap a (Obj.putSet e1 { t1 with plain:=false });split
 ·have rp:=relayAll_perm { t1 with plain:=false } e1 (SetTable.grown e1.size)
  have rf:=relayAll_fits { t1 with plain:=false } e1 (SetTable.grown e1.size);have rl:=qZ { t1 with plain:=false } e1 (SetTable.grown e1.size);generalize relayAll { t1 with plain:=false } e1 (SetTable.grown e1.size)=R2 at rp rf rl ⊢;have z2:R2.1.size=ss.length + 1:=by
   have:=rp.length_eq;rw [BD,BD] at this;rw [this,z1]
  refine Aw (hg _ _ _ ?_);refine Aw (wpAny_storeSet_of g1 rfl ?_ (by rw [z2,Br];omega));have g2:=lQ (es':=R2.1) (t':=R2.2.1) g1 rfl;exact Az (h _ _ R2.1 _ R2.2.1 (sb.trans (BV _ a _)) g2 (mk rp x.cls x.dic x.slo rfl rf (rl.1.trans pl) (rl.2 rfl)))
 ·exact Az (h _ _ e1 _ _ sb g1 (mk (Cr _) x.cls x.dic x.slo rfl fz pl rfl))
end
def be:List Str->List Str
 | []=>[]
 | k::r=>if k∈be r then be r else k::be r
theorem vV (l:List Str) (k:Str):k∈be l ↔ k∈l:=by
 induction l with
 | nil=>exact Iff.rfl
 | cons a r ih =>
  unfold be;split
  ·rename_i q
   rw [ih,AI];exact⟨Or.inr,λz=>z.elim (λe=>by rw [e];exact Zf ih q e) id⟩
  ·rw [AI,AI,ih]
where Zf {r:List Str}{a k:Str} (ih:k∈be r ↔ k∈r) (q:a∈be r) (e:k=a):a∈r:=by subst e;exact ih.mp q
theorem mD (l:List Str):(be l).length<=l.length:=by
 induction l with
 | nil=>exact AF _
 | cons a r ih =>
  unfold be;split
  ·rw [Bv];omega
  ·rw [Bv,Bv];omega
theorem sD (l:List Str):(be l).Nodup:=by
 induction l with
 | nil=>exact Do
 | cons a r ih =>
  unfold be;split
  ·exact ih
  ·rename_i q;exact Bc.mpr ⟨q,ih⟩
theorem lK {l:List Str} (h:l.Nodup):be l=l:=by
 induction l with
 | nil=>rfl
 | cons a r ih =>
  obtain⟨h1,h2⟩:=Bc.mp h;unfold be;rw [ih h2,if_neg h1]
section
variable {prog:Program}{w:World}{A:Around}{E:zz9->zz8->Prop}{s:zz8}
theorem vf {a:Addr}{o:Obj}{l:List Str}{k:Str}{tk:Tok}{es:Array (Int×zz9)}{ep:Nat}{t:SetTable}{Q:Bool->zz8->Prop}
  (ho:s.heap.get? a=some o) (x:bB w o (be l) es ep t) (few:l.length + 1 < 4000)
  (h:∀(b:Bool) (h':Heap) (o':Obj) es' FJ t',Heap.SameBut a s.heap h'->h'.get? a=some o'->bB w o' (be (k::l)) es' FJ t'->Q b { s with heap:=h' }) :
  wpAny (model prog w) A (setAddHashed a (.str k tk) (hashStr w k)) Q E s:=by
 have hl:=mD l;have hsz:=x.size;have TK:=x.elems (P:=prog);have MW:=EB prog w k tk;unfold setAddHashed setAddHashedIn;refine BJ (Aw (CQ ho x.dat x.fit ?_))
 dsimp only
 rw [byScan_of (knd:=PySem.strKind prog w) rfl (by rw [hsz];have:scanBound=4096:=rfl;omega) TK];rw [if_pos rfl];unfold setAddByScan;refine Aw (Aw (C5 ?_));refine Aw (wpAny_setScan_of (knd:=PySem.strKind prog w) (k:=k) MW ho x.dat x.fit TK ?_);have mem:∀e∈es.toList,(PySem.strKind prog w).is k e.2=true ↔ cZ e.2=k:=by
  intro e he;obtain⟨t',h1,_⟩:=x.els e he;rw [h1];show Value.isStrOf k (.str (cZ e.2) t')=true ↔ cZ (.str (cZ e.2) t')=k;simp [Value.isStrOf,cZ]
 cases hf:List.findIdx? (λe=>(PySem.strKind prog w).is k e.2) es.toList with
 | some j =>
  dsimp only
  obtain⟨hj,hp,_⟩:=List.findIdx?_eq_some_iff_getElem.mp hf;have HQ:k∈be l:=x.all.mem_iff.mp (AG.mpr ⟨_,Bt hj,(mem _ (Bt hj)).mp hp⟩);refine Az (Az ?_);have e2:be (k::l)=be l:=by show (if k∈be l then _ else _)=_;rw [if_pos HQ]
  exact h false s.heap o es ep t (Ek a s.heap) ho (by rw [e2];exact x)
 | none =>
  dsimp only
  have HQ:k∉be l:=by
   intro hk;obtain⟨e,he,ee⟩:=AG.mp (x.all.mem_iff.mpr hk);have:=List.findIdx?_eq_none_iff.mp hf e he;rw [(mem e he).mpr ee] at this;cases this
  have e2:be (k::l)=k::be l:=by show (if k∈be l then _ else _)=_;rw [if_neg HQ]
  have fin:∀(h':Heap) (o':Obj) es' FJ t',Heap.SameBut a s.heap h'->h'.get? a=some o'->bB w o' (k::be l) es' FJ t'->Q true { s with heap:=h' }:=λh' o' es' FJ t' c1 c2 c3=>h true h' o' es' FJ t' c1 c2 (by rw [e2];exact c3);have Tt:∀(b:Bool) (s₁:zz8) (Q':Unit->zz8->Prop),Q' () s₁->wpAny (model prog w) A (match b with | true=>rule "set.scan.the-table-gave-way" | false=>pure ()) Q' E s₁:=λb s₁ Q' q=>by
   cases b
   ·exact Az q
   ·exact C5 q
  generalize hL:layNew t es (hashStr w k) (.str k tk)=L;obtain⟨e1,t1,b1,b2⟩:=L
  dsimp only
  refine Aw (Tt _ _ _ ?_);have tail:=λ(g:Bool->Sem Unit) hg=>uM (A:=A) (E:=E) (prog:=prog) (R:=λr s'=>wpAny (model prog w) A (match r with | some added=>pure added | none=>setAddHashedIn a (.str k tk) (hashStr w k) 99999) Q E s') ho x HQ (by omega) hL (λh' o' es' FJ t' c1 c2 c3=>Az (fin h' o' es' FJ t' c1 c2 c3)) g hg
  dsimp only at tail
  split
  ·refine Aw ?_
   rw [hashByValue_scannable 8 rfl];refine Az ?_;exact tail _ Tt
  ·rename_i Gu
   refine Aw (Az ?_);have hp:t1.plain=false:=by cases q:t1.plain with | false=>rfl | true=>exact absurd q Gu
   have et:t1={ t1 with plain:=false }:=by cases t1;cases hp;rfl
   rw [if_pos rfl];rw [et];exact tail _ Tt
theorem lA {I S:Addr}{fp:List Addr}{EE:List zz9}{ss:List Str}{St:Nat->Heap->Prop}{R:Result->zz8->Prop}{m:Nat} (hm:m=EE.length)
  (W:Walks prog w A.in1 I fp [I] m (λi v=>EE[i]?=some v) St) (hS:S∉fp) (hv:av (ss.map V.str) EE) (few:ss.length + 1 < 4000) :
  ∀(k i:Nat) (s:zz8) (o:Obj) (es:Array (Int×zz9)) (ep:Nat) (t:SetTable),EE.length - i=k->i<=EE.length->St i s.heap->s.heap.get? S=some o->bB w o (be (ss.take i).reverse) es ep t ->
   (∀(h':Heap) (tk:Nat) (o':Obj) es' FJ t',(∀b ob,b≠S->b≠I->s.heap.get? b=some ob->h'.get? b=some ob)->h'.get? S=some o'->bB w o' (be ss.reverse) es' FJ t'->R (.ok (.ret .none)) { s with heap:=h',toks:=tk }) ->
   codeAny (model prog w) A (.builtin "set.update.loop" ⟨[.ref S,.ref I],[]⟩) R s:=by
 have EJ:ss.length=EE.length:=by have:=hv.length;rwa [Av] at this
 subst hm;have Wz:S≠I:=λe=>hS (by rw [e];exact W.sub I (Bd.mpr rfl));intro k
 induction k with
 | zero =>
  intro i s o es ep t hk hi st ho x q;have e:i=EE.length:=by omega
  subst e;refine BR F.entry_set_update_loop ?_;rw [B5 Dq _];show wpAny _ A.in1 (pyNext (.ref I) >>= _) _ _ s;refine Aw (W.done s _ _ st λh' tk kp=>?_);show wpAny _ A.in1 (ret Value.none) _ _ _;rw [<- EJ,B6] at x;exact Az (q h' tk o es ep t (λb ob _ hb e=>kp b ob (by simpa using hb) e) (kp S o (by simpa using Wz) ho) x)
 | succ k ih =>
  intro i s o es ep t hk hi st ho x q;have EM:i < EE.length:=by omega
  have MU:i < ss.length:=by omega
  refine BR F.entry_set_update_loop ?_;rw [B5 Dq _];show wpAny _ A.in1 (pyNext (.ref I) >>= _) _ _ s;refine Aw (W.item i s _ _ EM st λv h1 Xu hP XF kp=>?_);obtain⟨u,hu,ru⟩:=hv.get (i:=i) (x:=.str ss[i]) (by rw [AH,AD MU];rfl);have ev:v=u:=by rw [hP] at hu;cases hu;rfl
  subst ev;obtain⟨tv,rfl⟩:=ru;have MM:h1.get? S=some o:=kp S o (by simpa using Wz) ho;show wpAny _ A.in1 (holding [Value.str ss[i] tv] (setAdd S (.str ss[i] tv)) >>= _) _ _ _;refine Aw (BJ ?_);unfold setAdd;refine BJ ?_;refine Aw ((PySem.strKind prog w).pyHash (k:=ss[i]) (EB prog w _ _) ?_);have FY:(ss.take i).reverse.length + 1 < 4000:=by rw [Dd,AW];omega
  refine vf (s:={ s with heap:=h1,toks:=Xu + 1 }) MM x FY λb h2 o2 Ur Nb t2 sb Ie x2=>?_;have e3:ss[i]::(ss.take i).reverse=(ss.take (i + 1)).reverse:=by
   rw [Bg,AD MU,List.reverse_append];rfl
  rw [e3] at x2;refine Az ⟨Cz Dq _,ih (i + 1) _ o2 Ur Nb t2 (by omega) EM (W.frame _ h1 _ XF λb hb ob e=>?_) Ie x2 λh' tk o' es' FJ t' Y9 c1 c2=>?_⟩
  ·rw [sb.2 b (λz=>hS (by rw [<- z];exact hb))];exact e
  ·refine q h' tk o' es' FJ t' (λb ob b1 b2 e=>Y9 b ob b1 b2 ?_) c1 c2
   show h2.get? b=some ob;rw [sb.2 b b1];exact kp b ob (by simpa using b2) e
theorem nj (a:zz9) {Q₁:zz9->zz8->Prop}
  (h:Q₁ (.ref s.heap.objs.size) { s with heap:=s.heap.push { cls:=.type "set",dict:=none,data:=.set #[] 0 (.fresh 0 0 (!w.params.followText "set-order")) } }) :
  codeAny (model prog w) A (.call (.builtin "set.__new__") ⟨[.type "set",a],[]⟩) (wants Q₁ E) s:=by
 refine DN ?_;show wpAny _ A.in1 (checkBuiltinCall "set.__new__" ⟨[.type "set",a],[]⟩ >>= λ_=>again (.builtin "set.__new__" ⟨[.type "set",a],[]⟩)) _ _ s;refine Aw (Cv (PySem.F.newCall_set_1 a) (Az ⟨Cz PySem.F.plain_set_new _,BR PySem.F.entry_set_new ?_⟩));rw [B5 PySem.F.plain_set_new _];unfold Builtin.«set.__new__» Builtin.Frozenset.newClass;have known:=sub_set_self;obtain⟨h0,g0,d0,tk0,os0⟩:=s
 dsimp only
 wp_walk
 refine CG (Az ?_)
 dsimp only
 simp only [newObj];exact Aw (wpAny_alloc (Az (Az h)))
theorem lg (w:World):bB w { cls:=.type "set",dict:=none,data:=.set #[] 0 (.fresh 0 0 (!w.params.followText "set-order")) } [] #[] 0 (.fresh 0 0 (!w.params.followText "set-order")) :=
 ⟨rfl,rfl,rfl,rfl,λe he=>(by cases he),List.Perm.nil,Do,(by decide),rfl,rfl,.inl rfl⟩
end
end L2
set_option maxHeartbeats 8000000
namespace L2
open PySem PySem.Spec PyProof.Rows PySem.W PySem.Calls
section
variable {prog:Program}{w:World}{A:Around}{E:zz9->zz8->Prop}{s:zz8}
theorem sub_tuple_set:isSubtype (.type "tuple") (.type "set")=pure false:=by rw [CU];kernel_rfl
theorem qV:isSubtype (.type "tuple") (.type "frozenset")=pure false:=by rw [CU];kernel_rfl
theorem qI {l:Addr}{EE:List zz9}{ss:List Str}{Q:zz9->zz8->Prop}
  (hh:A.handled=none) (hl:s.heap.IsTuple l EE.toArray) (hv:av (ss.map V.str) EE) (few:ss.length + 1 < 4000)
  (h:∀(h':Heap) (tk:Nat) (o':Obj) es' FJ t',(∀b ob,s.heap.get? b=some ob->h'.get? b=some ob)->h'.get? s.heap.objs.size=some o'->bB w o' (be ss.reverse) es' FJ t'->Q (.ref s.heap.objs.size) { s with heap:=h',toks:=tk }) :
  wpAny (model prog w) A (call (.type "set") [.ref l]) Q E s:=by
 obtain⟨RJ,RI,SZ⟩:=Bz.mro;have made:=Bz.made;have subs:=Bz.sub;have nt:=Bz.notType;have cc:=Bz.canCreate;have ct:=PySem.F.typeCall_set_1 (.ref l);refine wpAny_call (DN ?_);show wpAny _ _ (callAny (.type "set") _) _ _ _;refine Az ⟨Eb _ (by decide +kernel),BR PySem.F.entry_type_call ?_⟩;rw [Around.under_plain (weight_type_call_type "set" [.ref l] []) rfl]
 repeat (any_goals (first | assumption | wp_step))
 refine CJ (nj (.ref l) (E:=E) (Q₁:=λobj s₁=>obj=.ref s.heap.objs.size/\s₁={ s with heap:=s.heap.push { cls:=.type "set",dict:=none,data:=.set #[] 0 (.fresh 0 0 (!w.params.followText "set-order")) } }) ⟨rfl,rfl⟩) λr s₁ hr=>?_;generalize T5:(!w.params.followText "set-order")=bt at hr;cases r with
 | error e=>exact hr
 | ok fl =>
  cases fl with
  | ret obj =>
   obtain⟨rfl,rfl⟩:=hr;have g0:(s.heap.push { cls:=.type "set",dict:=none,data:=.set #[] 0 (.fresh 0 0 bt) }).get? s.heap.objs.size=some { cls:=.type "set",dict:=none,data:=.set #[] 0 (.fresh 0 0 bt) }:=AS _ rfl;have ty:Shared.TypeIs { s with heap:=s.heap.push { cls:=.type "set",dict:=none,data:=.set #[] 0 (.fresh 0 0 bt) } } (.ref s.heap.objs.size) "set":=⟨_,g0,rfl⟩
   have Zd:=Bz.init.lookup;have Ze:=Bz.init.bind (.ref s.heap.objs.size)
   repeat (any_goals (first | assumption | wp_step))
   refine CJ (codeAny_call_builtin (R:=wants (λr s₂=>r=.none/\∃h' tk o' es' FJ t',s₂={ s with heap:=h',toks:=tk }/\(∀b ob,s.heap.get? b=some ob->h'.get? b=some ob)/\h'.get? s.heap.objs.size=some o'/\bB w o' (be ss.reverse) es' FJ t') E)
    Bz.init.plain PySem.F.entry_set_init (check_set_init_1 ty ?_)) λr₂ s₂ MA=>?_
   ·obtain⟨ol,IR,cl,nl,dl⟩:=hl
    obtain⟨c1,c2,c3,c4⟩:=ol;simp only at cl dl;subst cl;subst dl;have MK:(s.heap.push { cls:=.type "set",dict:=none,data:=.set #[] 0 (.fresh 0 0 bt) }).get? l=some { cls:=.type "tuple",dict:=c2,data:=.seq EE.toArray nl,slots:=c4 }:=AA _ IR;have n1:=sub_tuple_set;have n2:=qV;have n3:(Value.type "tuple" == Value.type "dict")=false:=by decide
    have Gg:(s.heap.push { cls:=.type "set",dict:=none,data:=.set #[] 0 (.fresh 0 0 bt) }).IsTuple l EE.toArray:=⟨_,MK,rfl,nl,rfl⟩
    unfold Builtin.«set.__init__» noKeywords Builtin.Frozenset.updateFrom;generalize SL:pyIter=X6
    wp_walk
    subst SL;refine Dh Gg ?_;refine Aw (DZ ?_);have Lp:l < s.heap.objs.size:=AQ IR;have h3:A.in1.in1.in1.handled=none:=by simp [hh]
    have ne1:l≠(s.heap.push { cls:=.type "set",dict:=none,data:=.set #[] 0 (.fresh 0 0 bt) }).objs.size:=by
     rw [B0];exact Bh (BY Lp)
    have out:s.heap.objs.size∉[(s.heap.push { cls:=.type "set",dict:=none,data:=.set #[] 0 (.fresh 0 0 bt) }).objs.size,l]:=by
     rw [B0];intro z
     rcases AI.mp z with z | z
     ·exact absurd z (Bh (CD _))
     ·exact absurd (Bd.mp z) (Eu Lp)
    have W:=Walks.tuple (prog:=prog) (w:=w) h3 (s.heap.push { cls:=.type "set",dict:=none,data:=.set #[] 0 (.fresh 0 0 bt) }).objs.size l ne1 EE.toArray;have hW:(λ(i:Nat) (v:zz9)=>EE.toArray[i]?=some v)=λi v=>EE[i]?=some v:=by funext i v;rw [DG]
    rw [hW] at W;have g1:((s.heap.push { cls:=.type "set",dict:=none,data:=.set #[] 0 (.fresh 0 0 bt) }).push { cls:=.type "tuple_iterator",data:=.fields #[.ref l,.int 0 0] }).get? s.heap.objs.size=some { cls:=.type "set",dict:=none,data:=.set #[] 0 (.fresh 0 0 bt) }:=AA _ g0;refine lA (AR) W out hv few (EE.length - 0) 0 _ _ #[] 0 (.fresh 0 0 bt) rfl (Be _)
     ⟨⟨_,AS _ rfl,rfl,rfl⟩,Gg.push _⟩ g1 (by subst T5;exact lg w) λh' tk o' es' FJ t' kp c1 c2=>?_
    show wpAny _ _ _ _ _ _;refine Az ?_;show wpAny _ _ (ret Value.none) _ _ _;refine Az ⟨rfl,h',tk,o',es',FJ,t',rfl,λb ob e=>kp b ob (Bh (AQ e)) ?_ (AA _ (AA _ e)),c1,c2⟩;rw [B0];exact Bh (BY (AQ e))
   ·cases r₂ with
    | error e=>exact MA
    | ok Uo =>
     cases Uo with
     | ret r =>
      obtain⟨rfl,h',tk,o',es',FJ,t',rfl,kp,c1,c2⟩:=MA
      repeat (any_goals (first | assumption | wp_step))
      exact h h' tk o' es' FJ t' kp c1 c2
     | _=>exact MA.elim
  | _=>exact hr.elim
theorem sub_list_set:isSubtype (.type "list") (.type "set")=pure false:=by rw [CU];kernel_rfl
theorem rq:isSubtype (.type "list") (.type "frozenset")=pure false:=by rw [CU];kernel_rfl
theorem qS {l:Addr}{EE:List zz9}{ss:List Str}{Q:zz9->zz8->Prop}
  (hh:A.handled=none) (hl:s.heap.IsList l EE.toArray) (hv:av (ss.map V.str) EE) (few:ss.length + 1 < 4000)
  (h:∀(h':Heap) (tk:Nat) (o':Obj) es' FJ t',(∀b ob,s.heap.get? b=some ob->h'.get? b=some ob)->h'.get? s.heap.objs.size=some o'->bB w o' (be ss.reverse) es' FJ t'->Q (.ref s.heap.objs.size) { s with heap:=h',toks:=tk }) :
  wpAny (model prog w) A (call (.type "set") [.ref l]) Q E s:=by
 obtain⟨RJ,RI,SZ⟩:=Bz.mro;have made:=Bz.made;have subs:=Bz.sub;have nt:=Bz.notType;have cc:=Bz.canCreate;have ct:=PySem.F.typeCall_set_1 (.ref l);refine wpAny_call (DN ?_);show wpAny _ _ (callAny (.type "set") _) _ _ _;refine Az ⟨Eb _ (by decide +kernel),BR PySem.F.entry_type_call ?_⟩;rw [Around.under_plain (weight_type_call_type "set" [.ref l] []) rfl]
 repeat (any_goals (first | assumption | wp_step))
 refine CJ (nj (.ref l) (E:=E) (Q₁:=λobj s₁=>obj=.ref s.heap.objs.size/\s₁={ s with heap:=s.heap.push { cls:=.type "set",dict:=none,data:=.set #[] 0 (.fresh 0 0 (!w.params.followText "set-order")) } }) ⟨rfl,rfl⟩) λr s₁ hr=>?_;generalize T5:(!w.params.followText "set-order")=bt at hr;cases r with
 | error e=>exact hr
 | ok fl =>
  cases fl with
  | ret obj =>
   obtain⟨rfl,rfl⟩:=hr;have g0:(s.heap.push { cls:=.type "set",dict:=none,data:=.set #[] 0 (.fresh 0 0 bt) }).get? s.heap.objs.size=some { cls:=.type "set",dict:=none,data:=.set #[] 0 (.fresh 0 0 bt) }:=AS _ rfl;have ty:Shared.TypeIs { s with heap:=s.heap.push { cls:=.type "set",dict:=none,data:=.set #[] 0 (.fresh 0 0 bt) } } (.ref s.heap.objs.size) "set":=⟨_,g0,rfl⟩
   have Zd:=Bz.init.lookup;have Ze:=Bz.init.bind (.ref s.heap.objs.size)
   repeat (any_goals (first | assumption | wp_step))
   refine CJ (codeAny_call_builtin (R:=wants (λr s₂=>r=.none/\∃h' tk o' es' FJ t',s₂={ s with heap:=h',toks:=tk }/\(∀b ob,s.heap.get? b=some ob->h'.get? b=some ob)/\h'.get? s.heap.objs.size=some o'/\bB w o' (be ss.reverse) es' FJ t') E)
    Bz.init.plain PySem.F.entry_set_init (check_set_init_1 ty ?_)) λr₂ s₂ MA=>?_
   ·obtain⟨ol,IR,cl,nl,dl⟩:=hl
    obtain⟨c1,c2,c3,c4⟩:=ol;simp only at cl dl;subst cl;subst dl;have MK:(s.heap.push { cls:=.type "set",dict:=none,data:=.set #[] 0 (.fresh 0 0 bt) }).get? l=some { cls:=.type "list",dict:=c2,data:=.seq EE.toArray nl,slots:=c4 }:=AA _ IR;have n1:=sub_list_set;have n2:=rq;have n3:(Value.type "list" == Value.type "dict")=false:=by decide
    have Gg:(s.heap.push { cls:=.type "set",dict:=none,data:=.set #[] 0 (.fresh 0 0 bt) }).IsList l EE.toArray:=⟨_,MK,rfl,nl,rfl⟩
    unfold Builtin.«set.__init__» noKeywords Builtin.Frozenset.updateFrom;generalize SL:pyIter=X6
    wp_walk
    subst SL;refine Ds Gg ?_;refine Aw (DZ ?_);have Lp:l < s.heap.objs.size:=AQ IR;have h3:A.in1.in1.in1.handled=none:=by simp [hh]
    have ne1:l≠(s.heap.push { cls:=.type "set",dict:=none,data:=.set #[] 0 (.fresh 0 0 bt) }).objs.size:=by
     rw [B0];exact Bh (BY Lp)
    have out:s.heap.objs.size∉[(s.heap.push { cls:=.type "set",dict:=none,data:=.set #[] 0 (.fresh 0 0 bt) }).objs.size,l]:=by
     rw [B0];intro z
     rcases AI.mp z with z | z
     ·exact absurd z (Bh (CD _))
     ·exact absurd (Bd.mp z) (Eu Lp)
    have W:=Walks.list (prog:=prog) (w:=w) h3 (s.heap.push { cls:=.type "set",dict:=none,data:=.set #[] 0 (.fresh 0 0 bt) }).objs.size l ne1 EE.toArray;have hW:(λ(i:Nat) (v:zz9)=>EE.toArray[i]?=some v)=λi v=>EE[i]?=some v:=by funext i v;rw [DG]
    rw [hW] at W;have g1:((s.heap.push { cls:=.type "set",dict:=none,data:=.set #[] 0 (.fresh 0 0 bt) }).push { cls:=.type "list_iterator",data:=.fields #[.ref l,.int 0 0] }).get? s.heap.objs.size=some { cls:=.type "set",dict:=none,data:=.set #[] 0 (.fresh 0 0 bt) }:=AA _ g0;refine lA (AR) W out hv few (EE.length - 0) 0 _ _ #[] 0 (.fresh 0 0 bt) rfl (Be _)
     ⟨⟨_,AS _ rfl,rfl,rfl⟩,Gg.push _⟩ g1 (by subst T5;exact lg w) λh' tk o' es' FJ t' kp c1 c2=>?_
    show wpAny _ _ _ _ _ _;refine Az ?_;show wpAny _ _ (ret Value.none) _ _ _;refine Az ⟨rfl,h',tk,o',es',FJ,t',rfl,λb ob e=>kp b ob (Bh (AQ e)) ?_ (AA _ (AA _ e)),c1,c2⟩;rw [B0];exact Bh (BY (AQ e))
   ·cases r₂ with
    | error e=>exact MA
    | ok Uo =>
     cases Uo with
     | ret r =>
      obtain⟨rfl,h',tk,o',es',FJ,t',rfl,kp,c1,c2⟩:=MA
      repeat (any_goals (first | assumption | wp_step))
      exact h h' tk o' es' FJ t' kp c1 c2
     | _=>exact MA.elim
  | _=>exact hr.elim
end
theorem dw:Slot "set_iterator" "__next__" "set_iterator.__next__" :=
 .of (owner:="set_iterator") (n:="__next__") (by rw [typeLookup_type,DH];kernel_rfl) (by decide +kernel) (by decide +kernel) (by decide +kernel) (by first | exact .inl (by decide +kernel) | exact .inr (by decide +kernel)) (by rw [CU];kernel_rfl)
theorem ic:entryFor table "set_iterator.__next__"=some Builtin.«set_iterator.__next__»:=entryFor_of_tree (by kernel_rfl)
theorem lL:Manifest.owners.lookup (String.ofList ['r','o','t','a','r','e','t','i','_','t','e','s'].reverse)=some Manifest.sig_set_iterator:=by kernel_rfl
theorem ie (a:zz9):argsOk "set_iterator.__next__" ⟨[a],[]⟩:=by
 unfold argsOk;rw [signature?_of (id:="set_iterator.__next__") (n:=['_','_','t','x','e','n','_','_']) (o:=['r','o','t','a','r','e','t','i','_','t','e','s']) (by kernel_rfl) lL]
 kernel_rfl
theorem k4:Slot "set_iterator" "__iter__" "set_iterator.__iter__" :=
 .of (owner:="set_iterator") (n:="__iter__") (by rw [typeLookup_type,DH];kernel_rfl) (by decide +kernel) (by decide +kernel) (by decide +kernel) (by first | exact .inl (by decide +kernel) | exact .inr (by decide +kernel)) (by rw [CU];kernel_rfl)
theorem qN (a:zz9):argsOk "set_iterator.__iter__" ⟨[a],[]⟩:=by
 unfold argsOk;rw [signature?_of (id:="set_iterator.__iter__") (n:=['_','_','r','e','t','i','_','_']) (o:=['r','o','t','a','r','e','t','i','_','t','e','s']) (by kernel_rfl) lL]
 kernel_rfl
theorem qH:entryFor table "set_iterator.__iter__"=some Builtin.«dict_keyiterator.__iter__» :=
 entryFor_alias (id':="dict_keyiterator.__iter__") (by kernel_rfl) (by first | rfl | decide +kernel | (unfold String.splitOn;simp +decide [String.splitOnAux])) (by decide +kernel) (by kernel_rfl)
theorem qK:entryFor table "set.__iter__"=some Builtin.«frozenset.__iter__» :=
 entryFor_alias (id':="frozenset.__iter__") (by kernel_rfl) (by first | rfl | decide +kernel | (unfold String.splitOn;simp +decide [String.splitOnAux])) (by decide +kernel) (by kernel_rfl)
def cU (first:zz9) (i:Nat) (a:Addr) (n ep:Nat):Array zz9:=#[first,rawInt (i:Int),.ref a,rawInt (n:Int),rawInt (ep:Int)]
def cT (h:Heap) (I:Addr) (first:zz9) (i:Nat) (a:Addr) (n ep:Nat):Prop:=∃o,h.get? I=some o/\o.cls=.type "set_iterator"/\o.data=.fields (cU first i a n ep)
theorem cT.typ {s:zz8}{I:Addr}{first:zz9}{i:Nat}{a:Addr}{n ep:Nat} (x:cT s.heap I first i a n ep):s.TypeIs (.ref I) "set_iterator":=let ⟨o,h1,h2,_⟩:=x;⟨o,h1,h2⟩
theorem cT.stay {h h':Heap}{I:Addr}{first:zz9}{i:Nat}{a:Addr}{n ep:Nat} (x:cT h I first i a n ep) (e:∀o,h.get? I=some o->h'.get? I=some o):cT h' I first i a n ep:=let ⟨o,h1,h2⟩:=x;⟨o,e o h1,h2⟩
theorem jn {α:Type}:∀(l:List α) (i:Nat) (h:i < l.length),(l[i]::l.eraseIdx i).Perm l
 | [],_,h=>absurd h (C0 _)
 | a::r,0,_=>Cr _
 | a::r,i + 1,h=>by
  show (r[i]'(Nat.lt_of_succ_lt_succ h)::a::r.eraseIdx i).Perm (a::r);exact (List.Perm.swap _ _ _).trans (List.Perm.cons a (jn r i (Nat.lt_of_succ_lt_succ h)))
section
variable {prog:Program}{w:World}{A:Around}{E:zz9->zz8->Prop}{s:zz8}
theorem sS {src:Source}{n:Nat}{Q:Nat->zz8->Prop} (hn:n≠0) (h:∀i d,i < n->Q i { s with drawn:=d }):wpAny (model prog w) A (choose src n) Q E s:=by
 intro Γ p hΓ;show Sem.wp _ _ (.choose src n .pure) _ _ _ _;rw [Sem.wp_choose];refine⟨hn,?_⟩;rw [Sem.wp_pure];exact h _ _ (Er _ (Nat.pos_of_ne_zero hn))
theorem si {α:Type}:∀(n:Nat) (xs:List α) (s:zz8) (Q:List α->zz8->Prop),n=xs.length->(∀ys d,ys.Perm xs->Q ys { s with drawn:=d })->wpAny (model prog w) A (drawOrder n xs) Q E s:=by
 intro n
 induction n with
 | zero =>
  intro xs s Q hn h;have:xs=[]:=CB.mp hn.symm;subst this;unfold drawOrder;exact Az (h [] s.drawn (Cr _))
 | succ n ih =>
  intro xs s Q hn h;cases xs with
  | nil=>cases hn
  | cons x r =>
   unfold drawOrder;refine Aw (sS (by rw [Bv];exact Nat.succ_ne_zero _) λi d hi=>?_);rw [AD hi]
   dsimp only
   have EJ:n=((x::r).eraseIdx i).length:=by
    have:=DO (l:=x::r) (i:=i);rw [if_pos hi] at this;rw [this];omega
   refine Aw (ih _ _ _ EJ λys d' pm=>Az ?_);refine h _ d' ?_;exact (List.Perm.cons _ pm).trans (jn (x::r) i hi)
theorem jS {I:Addr}{first:zz9}{i:Nat}{a:Addr}{n ep:Nat}{Q:zz9->zz8->Prop} (x:cT s.heap I first i a n ep) (h:Q (.ref I) s):wpAny (model prog w) A (pyIter (.ref I)) Q E s:=by
 refine En x.typ k4 (BG k4 x.typ qH ?_ (qN _));show wpAny _ _ (ret (.ref I)) _ _ s;exact Az ⟨_,rfl,"set_iterator",_,x.typ,dw.lookup,h⟩
theorem mf {Q:Option zz9->zz8->Prop}{R:Fin->zz8->Prop} (hh:A.handled=none)
  (hQ:∀h',(∀b o,s.heap.get? b=some o->h'.get? b=some o)->Q none { s with heap:=h' }) :
  wpAny (model prog w) A.in1 (newExc (.type "StopIteration") [] >>= raiseNew) R (λe s'=>wpAny (model prog w) A (do if <- isInstance e (.type "StopIteration") then pure none else throw e) Q E s') s:=by
 refine Aw ?_;simp only [newExc,newTuple];refine Aw (Bp ?_ (by size_fits));refine Aw (m:=firstArgMember _ _) (Cv (a:=Value.none) (by first | rfl | (simp only [firstArgMember];rfl)) ?_);refine Bp ?_ (by size_fits);simp only [raiseNew];refine Aw (wpAny_handled ?_);rw [show A.in1.handled=none from hh];refine Aw (Az (wpAny_throw ?_));refine Aw (wpAny_isInstance (T:="StopIteration") (b:=true) ⟨_,AS _ rfl,rfl⟩ isSubtype_stop ?_);exact Az (hQ _ λb o e=>AA _ (AA _ e))
end
theorem mP (first:zz9) (i:Nat) (a:Addr) (n ep:Nat) (x:zz9):(cU first i a n ep).setIfInBounds 0 x=cU x i a n ep:=by simp [cU]
theorem mF (first:zz9) (i:Nat) (a:Addr) (n ep:Nat):(cU first i a n ep).setIfInBounds 1 (rawInt ((i:Int) + 1))=cU first (i + 1) a n ep:=by simp [cU]
section
variable {prog:Program}{w:World}{A:Around}{E:zz9->zz8->Prop}{s:zz8}
theorem iP {h:Heap}{I:Addr}{first:zz9}{i:Nat}{a:Addr}{n ep:Nat}{o:Obj} (ho:h.get? I=some o) (hc:o.cls=.type "set_iterator") (hd:o.data=.fields (cU first i a n ep)) (j:Nat) (y:zz9) :
  ∃o',(h.update I (Obj.mapFields (·.setIfInBounds j y))).get? I=some o'/\o'.cls=.type "set_iterator"/\o'.data=.fields ((cU first i a n ep).setIfInBounds j y) :=
 ⟨_,BN _ ho (DE (CL hd _)),(El ..).trans hc,CL hd _⟩
theorem mU {I a:Addr}{o:Obj}{ss:List Str}{es:Array (Int×zz9)}{ep:Nat}{t:SetTable}{slot next i:Nat}{v:zz9}{Q:Option zz9->zz8->Prop}
  (hit:cT s.heap I (rawInt (slot:Int)) i a es.size ep) (EZ:a≠I) (ho:s.heap.get? a=some o) (x:bB w o ss es ep t)
  (nx:∀(A:Around) (E:zz9->zz8->Prop) (Q:Option (zz9×Nat)->zz8->Prop),Q (some (v,next)) s->wpAny (model prog w) A (setNext a slot i ep) Q E s)
  (hQ:∀h',cT h' I (rawInt (next:Int)) (i + 1) a es.size ep->Heap.SameBut I s.heap h'->Q (some v) { s with heap:=h' }):wpAny (model prog w) A (pyNext (.ref I)) Q E s:=by
 obtain⟨oi,Ic,NG,Ih⟩:=id hit;unfold pyNext;refine Aw (C9 (BK (name:=Str.ofString "__next__") hit.typ dw (BG dw hit.typ ic ?_ (ie _))));unfold Builtin.«set_iterator.__next__»;refine Aw (Cv (a:=(Value.ref I,[])) rfl ?_)
 dsimp only
 refine Aw (CF Ic Ih ?_);show wpAny _ _ (setEntries a >>= _) _ _ s;refine Aw (CZ ho x.dat x.fit ?_);show wpAny _ _ (if ((es.size:Int) != (es.size:Int))=true then _ else _) _ _ s;rw [if_neg (by simp)];show wpAny _ _ (setNext a slot i ep >>= _) _ _ s;refine Aw (nx _ _ _ ?_);show wpAny _ _ (setField (.ref I) 0 (rawInt (next:Int)) >>= _) _ _ s;refine Aw (Ce Ic Ih (by simp [cU]) ?_);obtain⟨o1,g1,c1,d1⟩:=iP Ic NG Ih 0 (rawInt (next:Int));rw [mP] at d1;show wpAny _ _ (setField (.ref I) 1 (rawInt ((i:Int) + 1)) >>= _) _ _ _;refine Aw (Ce g1 d1 (by simp [cU]) ?_);obtain⟨o2,g2,c2,d2⟩:=iP g1 c1 d1 1 (rawInt ((i:Int) + 1));rw [mF] at d2;exact Az ⟨v,rfl,Az (hQ _ ⟨o2,g2,c2,d2⟩ ((BV ..).trans (BV ..)))⟩
theorem j3 {I a:Addr}{o:Obj}{ss:List Str}{es:Array (Int×zz9)}{ep:Nat}{t:SetTable}{slot i:Nat}{Q:Option zz9->zz8->Prop} (hh:A.handled=none)
  (hit:cT s.heap I (rawInt (slot:Int)) i a es.size ep) (EZ:a≠I) (ho:s.heap.get? a=some o) (x:bB w o ss es ep t)
  (nx:∀(A:Around) (E:zz9->zz8->Prop) (Q:Option (zz9×Nat)->zz8->Prop),Q none s->wpAny (model prog w) A (setNext a slot i ep) Q E s)
  (hQ:∀h',(∀b o,b≠I->s.heap.get? b=some o->h'.get? b=some o)->Q none { s with heap:=h' }):wpAny (model prog w) A (pyNext (.ref I)) Q E s:=by
 obtain⟨oi,Ic,NG,Ih⟩:=id hit;unfold pyNext;refine Aw (C9 (BK (name:=Str.ofString "__next__") hit.typ dw (BG dw hit.typ ic ?_ (ie _))));unfold Builtin.«set_iterator.__next__»;refine Aw (Cv (a:=(Value.ref I,[])) rfl ?_)
 dsimp only
 refine Aw (CF Ic Ih ?_);show wpAny _ _ (setEntries a >>= _) _ _ s;refine Aw (CZ ho x.dat x.fit ?_);show wpAny _ _ (if ((es.size:Int) != (es.size:Int))=true then _ else _) _ _ s;rw [if_neg (by simp)];show wpAny _ _ (setNext a slot i ep >>= _) _ _ s;refine Aw (nx _ _ _ ?_);show wpAny _ _ (setField (.ref I) 2 .none >>= _) _ _ s;refine Aw (Ce Ic Ih (by simp [cU]) ?_);refine mf hh λh' kp=>hQ h' λb ob hb e=>kp b ob ?_;exact (Bw _ _ (Cc hb)).trans e
theorem uJ {I a tp:Addr}{o:Obj}{ss:List Str}{es:Array (Int×zz9)}{ep:Nat}{t:SetTable}{i p:Nat}{v:zz9}{ps:Array zz9}{Q:Option zz9->zz8->Prop}
  (hit:cT s.heap I (.ref tp) i a es.size ep) (ho:s.heap.get? a=some o) (x:bB w o ss es ep t) (OA:s.heap.IsTuple tp ps) (hp:ps[i]?=some (rawInt (p:Int))) (hv:(es[p]?).map (·.2)=some v)
  (hQ:∀h',cT h' I (.ref tp) (i + 1) a es.size ep->Heap.SameBut I s.heap h'->Q (some v) { s with heap:=h' }):wpAny (model prog w) A (pyNext (.ref I)) Q E s:=by
 obtain⟨oi,Ic,NG,Ih⟩:=id hit;obtain⟨ot,OP,_,nt,TQ⟩:=OA;unfold pyNext;refine Aw (C9 (BK (name:=Str.ofString "__next__") hit.typ dw (BG dw hit.typ ic ?_ (ie _))));unfold Builtin.«set_iterator.__next__»;refine Aw (Cv (a:=(Value.ref I,[])) rfl ?_)
 dsimp only
 refine Aw (CF Ic Ih ?_);show wpAny _ _ (setEntries a >>= _) _ _ s;refine Aw (CZ ho x.dat x.fit ?_);show wpAny _ _ (if ((es.size:Int) != (es.size:Int))=true then _ else _) _ _ s;rw [if_neg (by simp)];show wpAny _ _ (seqItems? (.ref tp) >>= _) _ _ s;refine Aw (CT OP TQ ?_)
 dsimp only [B9]
 rw [hp]
 dsimp only [rawInt]
 refine Aw ?_;unfold setNextDrawn;refine Aw (CQ ho x.dat x.fit ?_)
 dsimp only
 rw [if_neg (by simp)]
 try rw [B9]
 cases he:es[p]? with
 | none=>rw [he] at hv;cases hv
 | some ev =>
  rw [he] at hv;cases hv;refine Az ?_;show wpAny _ _ (setField (.ref I) 1 (rawInt ((i:Int) + 1)) >>= _) _ _ _;refine Aw (Ce Ic Ih (by simp [cU]) ?_);obtain⟨o2,g2,c2,d2⟩:=iP Ic NG Ih 1 (rawInt ((i:Int) + 1));rw [mF] at d2;exact Az ⟨_,rfl,Az (hQ _ ⟨o2,g2,c2,d2⟩ (BV ..))⟩
theorem vz {I a tp:Addr}{o:Obj}{ss:List Str}{es:Array (Int×zz9)}{ep:Nat}{t:SetTable}{i:Nat}{ps:Array zz9}{Q:Option zz9->zz8->Prop} (hh:A.handled=none)
  (hit:cT s.heap I (.ref tp) i a es.size ep) (ho:s.heap.get? a=some o) (x:bB w o ss es ep t) (OA:s.heap.IsTuple tp ps) (hp:ps[i]?=none)
  (hQ:∀h',(∀b o,b≠I->s.heap.get? b=some o->h'.get? b=some o)->Q none { s with heap:=h' }):wpAny (model prog w) A (pyNext (.ref I)) Q E s:=by
 obtain⟨oi,Ic,NG,Ih⟩:=id hit;obtain⟨ot,OP,_,nt,TQ⟩:=OA;unfold pyNext;refine Aw (C9 (BK (name:=Str.ofString "__next__") hit.typ dw (BG dw hit.typ ic ?_ (ie _))));unfold Builtin.«set_iterator.__next__»;refine Aw (Cv (a:=(Value.ref I,[])) rfl ?_)
 dsimp only
 refine Aw (CF Ic Ih ?_);show wpAny _ _ (setEntries a >>= _) _ _ s;refine Aw (CZ ho x.dat x.fit ?_);show wpAny _ _ (if ((es.size:Int) != (es.size:Int))=true then _ else _) _ _ s;rw [if_neg (by simp)];show wpAny _ _ (seqItems? (.ref tp) >>= _) _ _ s;refine Aw (CT OP TQ ?_)
 dsimp only [B9]
 rw [hp]
 dsimp only
 refine Aw (Ce Ic Ih (by simp [cU]) ?_);obtain⟨o1,g1,c1,d1⟩:=iP Ic NG Ih 0 (rawInt 0);rw [mP] at d1;refine Aw (Ce g1 d1 (by simp [cU]) ?_);refine mf hh λh' kp=>hQ h' λb ob hb e=>kp b ob ?_;exact (Bw _ _ (Cc hb)).trans ((Bw _ _ (Cc hb)).trans e)
end
theorem wf {α:Type} (next:Nat->Nat):∀(n k:Nat) (left:List α) (out:Array α),n=left.length->(pickOrder.go next n k left out).toList.Perm (out.toList++left):=by
 intro n
 induction n with
 | zero =>
  intro k left out hn;have:left=[]:=CB.mp hn.symm;subst this;unfold pickOrder.go;rw [De]
 | succ n ih =>
  intro k left out hn;unfold pickOrder.go;have hi:next k % left.length < left.length:=Er _ (by omega);rw [AD hi]
  dsimp only
  have hl:n=(left.eraseIdx (next k % left.length)).length:=by
   have:=DO (l:=left) (i:=next k % left.length);rw [if_pos hi] at this;rw [this];omega
  refine (ih _ _ _ hl).trans ?_;rw [Array.toList_push,Ci];exact List.Perm.append_left _ (jn left _ hi)
theorem jm {α:Type} (next:Nat->Nat) (xs:Array α):(pickOrder next xs).toList.Perm xs.toList:=by
 unfold pickOrder;have:=wf next xs.size 0 xs.toList #[] (BD).symm;simpa using this
section
variable {prog:Program}{w:World}{A:Around}{E:zz9->zz8->Prop}{s:zz8}
theorem oE {a:Addr}{o:Obj}{ss:List Str}{es:Array (Int×zz9)}{ep slot i:Nat}{t:SetTable} (hb:w.params.followText "set-order"=true) (ho:s.heap.get? a=some o) (x:bB w o ss es ep t) {Q:Option (zz9×Nat)->zz8->Prop}
  (h:Q (((pickOrder (w.params.setOrder a ep) es)[i]?).map λe=>(e.2,slot)) s):wpAny (model prog w) A (setNext a slot i ep) Q E s:=by
 unfold setNext;refine Aw (CQ ho x.dat x.fit ?_)
 dsimp only
 unfold setsByText;refine Aw (Aw (CG (Az ?_)));show wpAny _ _ (if w.params.followText "set-order"=true then _ else _) _ _ s;rw [if_pos hb,if_neg (by simp)];unfold setWalk;refine Aw ?_;refine Aw (CQ ho x.dat x.fit ?_)
 dsimp only
 unfold setsByText;refine Aw (Aw (CG (Az ?_)));show wpAny _ _ (if w.params.followText "set-order"=true then _ else _) _ _ s;rw [if_pos hb];exact Aw (CG (Az (Az h)))
theorem kl {a:Addr}{o:Obj}{ss:List Str}{es:Array (Int×zz9)}{ep slot i:Nat}{t:SetTable} (hb:w.params.followText "set-order"=false) (ho:s.heap.get? a=some o) (x:bB w o ss es ep t) (h1:es.size<=1) {Q:Option (zz9×Nat)->zz8->Prop}
  (h:Q (match es[SetTable.below t.place slot]?,t.place[SetTable.below t.place slot]? with | some (_,x),some j=>some (x,j + 1) | _,_=>none) s):wpAny (model prog w) A (setNext a slot i ep) Q E s:=by
 have hl:t.led=true:=by rw [x.led,hb];rfl
 unfold setNext;refine Aw (CQ ho x.dat x.fit ?_)
 dsimp only
 unfold setsByText;refine Aw (Aw (CG (Az ?_)));show wpAny _ _ (if w.params.followText "set-order"=true then _ else if (!t.plain && decide (es.size > 1))=true then _ else _) _ _ s;rw [if_neg (by rw [hb];exact AX),if_neg (by rw [decide_eq_false (Nat.not_lt.mpr h1),Bool.and_false];exact AX)];refine Aw (show wpAny _ _ (if (!t.led && !es.isEmpty)=true then unsupported "set:maker-not-led" else pure ()) _ _ s from ?_);rw [if_neg (by rw [hl];exact AX)];exact Az (Az h)
structure wC (prog:Program) (w:World) (A:Around) (s s₁:zz8) (a I:Addr) (ss:List Str) (fp:List Addr) (ws:List zz9) (St:Nat->Heap->Prop):Prop where
 os:s₁.os=s.os
 gens:s₁.gens=s.gens
 toks:s₁.toks=s.toks
 keep:∀b o,s.heap.get? b=some o->s₁.heap.get? b=some o
 new:∀b∈fp,b=a\/s.heap.objs.size<=b
 newI:s.heap.objs.size<=I
 wk:Walks prog w A I fp [I] ss.length (λi v=>ws[i]?=some v) St
 st:St 0 s₁.heap
 txt:∃ES,StrsAre ws ES/\ES.Perm ss
theorem jv {o:Obj}{ss:List Str}{es:Array (Int×zz9)}{ep:Nat}{t:SetTable} (x:bB w o ss es ep t) {L:List (Int×zz9)} (p:L.Perm es.toList):∃ES,StrsAre (L.map (·.2)) ES/\ES.Perm ss:=by
 refine⟨L.map λe=>cZ e.2,?_,(p.map _).trans x.all⟩;have:∀e∈L,∃tk,e.2=.str (cZ e.2) tk:=λe he=>let ⟨tk,h,_⟩:=x.els e (p.mem_iff.mp he);⟨tk,h⟩;clear p
 induction L with
 | nil=>exact .nil
 | cons e r ih =>
  obtain⟨tk,h⟩:=this e (.head _);have q:=ih λe he=>this e (.tail _ he);show StrsAre (e.2::r.map (·.2)) (cZ e.2::r.map λe=>cZ e.2);rw [h];exact .cons _ tk q
theorem ux {a I:Addr}{o:Obj}{ss:List Str}{es:Array (Int×zz9)}{ep:Nat}{t:SetTable} (hh:A.handled=none) (hb:w.params.followText "set-order"=true) (x:bB w o ss es ep t) (EZ:a≠I) :
  Walks prog w A I [I,a] [I] ss.length (λi v=>((pickOrder (w.params.setOrder a ep) es).toList.map (·.2))[i]?=some v) (λi h=>cT h I (rawInt 0) i a es.size ep/\h.get? a=some o) where
 sub:=λb hb=>by rw [Bd.mp hb];exact .head _
 frame:=λi h h' st kp=>⟨st.1.stay λo e=>kp I (.head _) o e,kp a (.tail _ (.head _)) o st.2⟩
 item:=λi s Q E hi st hQ=>by
  have hl:(pickOrder (w.params.setOrder a ep) es).size=ss.length:=by
   have:=(jm (w.params.setOrder a ep) es).length_eq;rw [BD,BD,x.size] at this;exact this
  have GP:i < (pickOrder (w.params.setOrder a ep) es).size:=by omega
  have e1:(pickOrder (w.params.setOrder a ep) es)[i]?=some (pickOrder (w.params.setOrder a ep) es)[i]:=BE GP;refine mU (slot:=0) (next:=0) (v:=((pickOrder (w.params.setOrder a ep) es)[i]).2) st.1 EZ st.2 x (λA E Q q=>oE hb st.2 x (by rw [e1];exact q)) λh' JC sb=>?_;refine hQ _ h' s.toks (by rw [AH,BZ,e1];rfl) ⟨JC,(sb.2 a EZ).trans st.2⟩ λb ob hb e=>(sb.2 b (by simpa using hb)).trans e
 done:=λs Q E st hQ=>by
  have hl:(pickOrder (w.params.setOrder a ep) es).size=ss.length:=by
   have:=(jm (w.params.setOrder a ep) es).length_eq;rw [BD,BD,x.size] at this;exact this
  have e1:(pickOrder (w.params.setOrder a ep) es)[ss.length]?=none:=by rw [<- hl];simp
  exact j3 (slot:=0) hh st.1 EZ st.2 x (λA E Q q=>oE hb st.2 x (by rw [e1];exact q)) λh' kp=>hQ h' s.toks λb ob hb e=>kp b ob (by simpa using hb) e
 self:=λi s Q E st hQ=>jS st.1 hQ
theorem sU {a I tp:Addr}{o:Obj}{ss:List Str}{es:Array (Int×zz9)}{ep:Nat}{t:SetTable}{ps:List Nat} (hh:A.handled=none) (x:bB w o ss es ep t) (EZ:a≠I) (ZP:tp≠I) (Ib:ps.Perm (List.range es.size)) :
  Walks prog w A I [I,a,tp] [I] ss.length (λi v=>(ps.map λp=>(es.getD p (0,.none)).2)[i]?=some v) (λi h=>cT h I (.ref tp) i a es.size ep/\h.get? a=some o/\h.IsTuple tp (ps.map λ(p:Nat)=>rawInt (p:Int)).toArray) where
 sub:=λb hb=>by rw [Bd.mp hb];exact .head _
 frame:=λi h h' st kp=>⟨st.1.stay λo e=>kp I (.head _) o e,kp a (.tail _ (.head _)) o st.2.1,st.2.2.at λo e=>kp tp (.tail _ (.tail _ (.head _))) o e⟩
 item:=λi s Q E hi st hQ=>by
  have hl:ps.length=ss.length:=by have:=Ib.length_eq;rw [Dt,x.size] at this;exact this
  have GP:i < ps.length:=by omega
  have hp:ps[i] < es.size:=CS.mp (Ib.mem_iff.mp (Bt GP));have e1:(ps.map λ(p:Nat)=>rawInt (p:Int)).toArray[i]?=some (rawInt (ps[i]:Int)):=by rw [DG,AH,AD GP];rfl
  have e2:es[ps[i]]?=some es[ps[i]]:=BE hp;refine uJ (p:=ps[i]) (v:=(es[ps[i]]).2) st.1 st.2.1 x st.2.2 e1 (by rw [e2];rfl) λh' JC sb=>?_;refine hQ _ h' s.toks ?_ ⟨JC,(sb.2 a EZ).trans st.2.1,st.2.2.at λo e=>(sb.2 tp ZP).trans e⟩ λb ob hb e=>(sb.2 b (by simpa using hb)).trans e;rw [AH,AD GP];show some (es.getD ps[i] (0,.none)).2=_;rw [Ck,e2];rfl
 done:=λs Q E st hQ=>by
  have hl:ps.length=ss.length:=by have:=Ib.length_eq;rw [Dt,x.size] at this;exact this
  have e1:(ps.map λ(p:Nat)=>rawInt (p:Int)).toArray[ss.length]?=none:=by rw [<- hl];simp
  exact vz hh st.1 st.2.1 x st.2.2 e1 λh' kp=>hQ h' s.toks λb ob hb e=>kp b ob (by simpa using hb) e
 self:=λi s Q E st hQ=>jS st.1 hQ
theorem sx {p:Array Nat} (h:p.size=1):SetTable.below p 0=0:=by
 unfold SetTable.below;rw [h];show (if 0 < 1 then if p.getD 0 0 < 0 then _ else _ else _)=0;rw [if_pos (by decide),if_neg (C0 _)];rfl
theorem sT {p:Array Nat}{j:Nat} (h:p.size=1) (hj:p[0]?=some j):SetTable.below p (j + 1)=1:=by
 unfold SetTable.below;rw [h];show (if 0 < 1 then if p.getD 0 (j + 1) < j + 1 then _ else _ else _)=1;rw [if_pos (by decide),if_pos (by rw [Ck,hj];exact CD j)];rfl
theorem tX {p:Array Nat} (j:Nat) (h:p.size=0):SetTable.below p j=0:=by
 unfold SetTable.below;rw [h];rfl
theorem uT {a I:Addr}{o:Obj}{ss:List Str}{es:Array (Int×zz9)}{ep:Nat}{t:SetTable} (hh:A.handled=none) (hb:w.params.followText "set-order"=false) (x:bB w o ss es ep t) (h1:es.size<=1) (EZ:a≠I) :
  Walks prog w A I [I,a] [I] ss.length (λi v=>(es.toList.map (·.2))[i]?=some v) (λi h=>cT h I (rawInt ((if i=0 then 0 else t.place.getD 0 0 + 1:Nat):Int)) i a es.size ep/\h.get? a=some o) where
 sub:=λb hb=>by rw [Bd.mp hb];exact .head _
 frame:=λi h h' st kp=>⟨st.1.stay λo e=>kp I (.head _) o e,kp a (.tail _ (.head _)) o st.2⟩
 item:=λi s Q E hi st hQ=>by
  have hs:=x.size;have Z7:i=0:=by omega
  subst Z7;have hz:es.size=1:=by omega
  have OG:t.place.size=1:=by
   have:=x.fit;unfold SetTable.fits at this;rw [hz] at this;simp at this;exact this.1
  have JU:t.place[0]?=some t.place[0]:=BE (by omega);have JE:es[0]?=some es[0]:=BE (by omega);have Pe:t.place.getD 0 0=t.place[0]:=by rw [Ck,JU];rfl
  refine mU (slot:=0) (next:=t.place[0] + 1) (v:=(es[0]).2) st.1 EZ st.2 x (λA E Q q=>kl hb st.2 x h1 (by rw [sx OG,JU,JE];exact q)) λh' JC sb=>?_;refine hQ _ h' s.toks (by rw [AH,BZ,JE];rfl) ⟨?_,(sb.2 a EZ).trans st.2⟩ λb ob hb e=>(sb.2 b (by simpa using hb)).trans e;rw [if_neg (Nat.succ_ne_zero _),Pe];exact JC
 done:=λs Q E st hQ=>by
  have hs:=x.size;have OG:t.place.size=es.size:=by
   have:=x.fit;unfold SetTable.fits at this;simp at this;exact this.1
  by_cases hz:es.size=0
  ·have e0:ss.length=0:=by omega
   rw [e0,if_pos rfl] at st;have:es[0]?=none:=C3 (by omega);exact j3 (slot:=0) hh st.1 EZ st.2 x (λA E Q q=>kl hb st.2 x h1 (by rw [tX 0 (by omega),this];exact q)) λh' kp=>hQ h' s.toks λb ob hb e=>kp b ob (by simpa using hb) e
  ·have Ls:es.size=1:=by omega
   have e0:ss.length=1:=by omega
   rw [e0,if_neg (by decide)] at st;have JU:t.place[0]?=some t.place[0]:=BE (by omega);have Pe:t.place.getD 0 0=t.place[0]:=by rw [Ck,JU];rfl
   rw [Pe] at st;have:es[1]?=none:=C3 (by omega);exact j3 (slot:=t.place[0] + 1) hh st.1 EZ st.2 x (λA E Q q=>kl hb st.2 x h1 (by rw [sT (by omega) JU,this];exact q)) λh' kp=>hQ h' s.toks λb ob hb e=>kp b ob (by simpa using hb) e
 self:=λi s Q E st hQ=>jS st.1 hQ
end
theorem sC (es:Array (Int×zz9)):(List.range es.size).map (λp=>es.getD p (0,.none))=es.toList:=by
 apply EA
 ·simp
 ·intro i h1 h2
  simp at h1;simp [h1]
section
variable {prog:Program}{w:World}{A:Around}{E:zz9->zz8->Prop}{s:zz8}
theorem tu {a:Addr}{o:Obj}{ss:List Str}{es:Array (Int×zz9)}{ep:Nat}{t:SetTable}{Q:zz9->zz8->Prop} (hh:A.handled=none) (ho:s.heap.get? a=some o) (x:bB w o ss es ep t)
  (h:∀(s₁:zz8) (I:Addr) (fp:List Addr) (ws:List zz9) (St:Nat->Heap->Prop),wC prog w A s s₁ a I ss fp ws St->Q (.ref I) s₁):wpAny (model prog w) A (pyIter (.ref a)) Q E s:=by
 have hT:s.TypeIs (.ref a) "set":=⟨o,ho,x.cls⟩
 have LG:a < s.heap.objs.size:=AQ ho;refine En hT PySem.F.slot_set_iter (BG PySem.F.slot_set_iter hT qK ?_ (PySem.F.args_set_iter_1 _));unfold Builtin.«frozenset.__iter__» Builtin.Frozenset.slot0;refine Aw (Aw (Cv (a:=(Value.ref a,[])) rfl (Az ?_)));unfold Builtin.Frozenset.sizeOf;refine Aw (Aw (CZ ho x.dat x.fit (Az ?_)));unfold setDrawn;refine Aw ?_;refine Aw (CQ ho x.dat x.fit ?_)
 dsimp only
 unfold setsByText;refine Aw (Aw (CG (Az (Az ?_))));show wpAny _ _ (if (!w.params.followText "set-order" && (!t.plain && decide (es.size > 1)))=true then _ else _) _ _ s
 by_cases hc:(!w.params.followText "set-order" && (!t.plain && decide (es.size > 1)))=true
 ·rw [if_pos hc]
  refine Aw (si es.size (List.range es.size) s _ (Dt).symm λps d Ib=>?_);have Gu:ps.length=ss.length:=by have:=Ib.length_eq;rw [Dt,x.size] at this;exact this
  have MY:=x.few;refine Aw (wpAny_newTuple (items:=ps.map λ(i:Nat)=>rawInt (i:Int)) ?_ (by rw [Av,Br];omega));have MM:(s.heap.push { cls:=.type "tuple",data:=.seq (ps.map λ(i:Nat)=>rawInt (i:Int)).toArray }).get? a=some o:=AA _ ho;refine Aw (wpAny_setEpoch_of (s:={ s with heap:=s.heap.push { cls:=.type "tuple",data:=.seq (ps.map λ(i:Nat)=>rawInt (i:Int)).toArray },drawn:=d }) MM x.dat x.fit ?_);refine Aw (Bp (Az ⟨_,rfl,"set_iterator",_,⟨_,AS _ rfl,rfl⟩,dw.lookup,?_⟩));have hsz:(s.heap.push { cls:=.type "tuple",data:=.seq (ps.map λ(i:Nat)=>rawInt (i:Int)).toArray }).objs.size=s.heap.objs.size + 1:=size_push' ..;have hI:a≠(s.heap.push { cls:=.type "tuple",data:=.seq (ps.map λ(i:Nat)=>rawInt (i:Int)).toArray }).objs.size:=by rw [hsz];exact Bh (BY LG)
  have hI2:s.heap.objs.size≠(s.heap.push { cls:=.type "tuple",data:=.seq (ps.map λ(i:Nat)=>rawInt (i:Int)).toArray }).objs.size:=by rw [hsz];exact Bh (CD _)
  have W:=sU (prog:=prog) (A:=A) hh x hI hI2 Ib;refine h _ _ _ _ _ ⟨rfl,rfl,rfl,λb ob e=>AA _ (AA _ e),λb hb=>?_,?_,W,?_,?_⟩
  ·rcases AI.mp hb with e | hb
   ·rw [e,hsz];exact .inr (Cu _)
   ·rcases AI.mp hb with e | hb
    ·exact .inl e
    ·rw [Bd.mp hb];exact .inr (AF _)
  ·rw [hsz];exact Cu _
  ·exact⟨⟨_,AS _ rfl,rfl,rfl⟩,AA _ MM,⟨_,AA _ (AS _ rfl),rfl,_,rfl⟩⟩
  ·have e1:(ps.map λp=>(es.getD p (0,.none)).2)=(ps.map λp=>es.getD p (0,.none)).map (·.2):=by rw [Bf];rfl
   rw [e1];refine jv x ?_;have:=Ib.map λp=>es.getD p ((0:Int),Value.none);rw [sC] at this;exact this
 ·rw [if_neg hc]
  refine Aw (Az ?_);refine Aw (wpAny_setEpoch_of ho x.dat x.fit ?_);refine Aw (Bp (Az ⟨_,rfl,"set_iterator",_,⟨_,AS _ rfl,rfl⟩,dw.lookup,?_⟩));have hI:a≠s.heap.objs.size:=Bh LG;have nw:∀b∈[s.heap.objs.size,a],b=a\/s.heap.objs.size<=b:=λb hb=>by
   rcases AI.mp hb with e | hb
   ·rw [e];exact .inr (AF _)
   ·exact .inl (Bd.mp hb)
  cases hb:w.params.followText "set-order" with
  | true=>exact h _ _ _ _ _ ⟨rfl,rfl,rfl,λb ob e=>AA _ e,nw,AF _,ux hh hb x hI,⟨⟨_,AS _ rfl,rfl,rfl⟩,AA _ ho⟩,jv x (jm _ es)⟩
  | false =>
   have h1:es.size<=1:=by
    rcases x.pla with z | z
    ·omega
    ·rw [hb,z] at hc
     simp at hc;omega
   exact h _ _ _ _ _ ⟨rfl,rfl,rfl,λb ob e=>AA _ e,nw,AF _,uT hh hb x h1 hI,⟨⟨_,AS _ rfl,rfl,rfl⟩,AA _ ho⟩,jv x (Cr _)⟩
theorem rF:typeLookup (.type "set") "__len__"=pure (some (.builtin "set.__len__")):=by rw [typeLookup_type,DH];kernel_rfl
theorem uS {r:Addr}{Q:Bool->zz8->Prop} (hT:s.TypeIs (.ref r) "set") (h:∀b,Q b s):wpAny (model prog w) A (Builtin.List.listLengthHint (.ref r)) Q E s:=by
 unfold Builtin.List.listLengthHint;refine Aw (wpAny_specialOf hT rF ?_);generalize Wm:("set.__len__":String)=Zg
 wp_delta
 rw [show splitId Zg=some ("set","__len__") from by subst Wm;decide +kernel];subst Wm;refine Aw (wpAny_isInstance (T:="set") (b:=true) hT (by rw [CU];kernel_rfl) ?_);refine wpAny_ite_split (λz=>absurd z (by decide)) (λ_=>?_);refine wpAny_ite_split (λ_=>?_) (λz=>absurd (by decide +kernel) z);refine Aw (Dj hT ?_);exact Az (h _)
theorem vp {ws:List zz9}{n:Nat}{EL:Array zz9} (hw:ws.length=n) (h:ItemsOf (λi v=>ws[i]?=some v) EL n):EL.toList=ws:=by
 apply List.ext_getElem?;intro i
 by_cases hi:i < EL.size
 ·have e:EL.toList[i]?=some EL[i]:=by rw [BZ];exact BE hi
  rw [e];exact (h.2 i EL[i] (BE hi)).symm
 ·have h1:=h.1
  rw [List.getElem?_eq_none (by rw [BD];omega),List.getElem?_eq_none (by omega)]
theorem rh {R:Result->zz8->Prop}{a S:Addr}{o:Obj}{ss:List Str}{es:Array (Int×zz9)}{ep:Nat}{t:SetTable} (hh:A.handled=none) (ho:s.heap.get? a=some o) (x:bB w o ss es ep t) (res:zz9) (c₀:Nat)
  (Ww:S≠a) (hS:s.heap.get? S=some { cls:=.type "list",data:=.seq #[] c₀ })
  (hR:∀(s':zz8) EL c' ES,s'.os=s.os->s'.gens=s.gens->(∀b o,b≠S->s.heap.get? b=some o->s'.heap.get? b=some o)->s'.heap.get? S=some { cls:=.type "list",dict:=none,data:=.seq EL c',slots:=#[] }->StrsAre EL.toList ES->ES.Perm ss->R (.ok (.ret res)) s') :
  wpAny (model prog w) A.in1 (Builtin.List.listExtendWith (.ref S) (.ref a) res)
   (λfin s'=>match fin with | .done f=>R (.ok f) s' | .again c'=>c'.quiet=true/\codeAny (model prog w) A c' R s') (λe s'=>R (.error e) s') s:=by
 have hT:s.TypeIs (.ref a) "set":=⟨o,ho,x.cls⟩
 have Pn:S < s.heap.objs.size:=AQ hS;have MY:=x.few;unfold Builtin.List.listExtendWith;refine Aw (Dj (T:="set") hT ?_);have n1:Builtin.List.listSameRef (.ref S) (.ref a)=false:=by simp [Builtin.List.listSameRef,Ww]
 have n2:(Value.type "set" == Value.type "list")=false:=by decide
 have n3:(Value.type "set" == Value.type "tuple")=false:=by decide
 simp only [n1,n2,n3,Bool.or_false,Cq,if_false];refine Aw (tu (A:=A.in1) hh ho x λs₁ I fp ws St K=>?_);obtain⟨ES,Se,VP⟩:=K.txt;have Zs:ws.length=ss.length:=by rw [StrsAre.length Se];exact VP.length_eq
 have Wv:S∉fp:=λz=>(K.new S z).elim Ww λq=>BI _ (Bk Pn q);have hSI:S≠I:=λe=>BI _ (Bk Pn (e ▸ K.newI));have hn:ss.length<=sizeLine:=by rw [Br];omega
 have key:∀(h:Heap) (c₁:Nat),St 0 h->(∀b o,b≠S->s₁.heap.get? b=some o->h.get? b=some o)->h.get? S=some { cls:=.type "list",data:=.seq #[] c₁ } ->
   codeAny (model prog w) A (.builtin "list.extend.loop" ⟨[.ref S,.ref I,res],[]⟩) R { s₁ with heap:=h }:=by
  intro h c₁ st hk M5;refine codeAny_extend_loopS K.wk.toS hn S Wv res ss.length 0 _ #[] c₁ rfl (Be _) st M5 (ItemsOf.nil _) λs' EL c' hm hS' T9=>?_;rw [<- vp Zs T9] at Se;refine hR s' EL c' ES (hm.os.trans K.os) ((show s'.gens=s₁.gens from hm.gens).trans K.gens) (λb ob hb e=>hm.heap b ob (λz=>?_) (hk b ob hb (K.keep b ob e))) hS' Se VP
  rcases AI.mp z with z | z
  ·exact hb z
  ·exact absurd (AQ e) (by rw [Bd.mp z];exact Nat.not_lt.mpr K.newI)
 have M5:=K.keep _ _ hS;have hT1:s₁.TypeIs (.ref a) "set":=⟨o,K.keep _ _ ho,x.cls⟩
 refine Aw (BJ (uS hT1 λhb=>?_));refine wpAny_ite_split (λ_=>?_) (λ_=>Az ⟨Cz Es _,key _ c₀ K.st (λb ob _ e=>e) M5⟩);refine Aw (C5 ?_);refine Aw ?_;show wpAny _ _ (updateSeq S (·.push .none) >>= λ_=>updateSeq S (·.pop)) _ _ _;refine Aw (C2 M5 rfl ?_);have Il:=BN (Obj.mapSeq (·.push Value.none)) M5 rfl;refine C2 (hz:=by seq_fits) Il rfl ?_;have hS3:=BN (Obj.mapSeq (·.pop)) Il rfl;refine Az ⟨Cz Es _,key _ _ (K.wk.frame 0 _ _ K.st λb hb ob e=>?_) (λb ob hb e=>?_) hS3⟩
 ·have Wu:b≠S:=λz=>Wv (z ▸ hb)
  exact (Bw _ _ (Cc Wu)).trans ((Bw _ _ (Cc Wu)).trans e)
 ·exact (Bw _ _ (Cc hb)).trans ((Bw _ _ (Cc hb)).trans e)
theorem qX {R:List zz9->zz8->Prop}{a:Addr}{o:Obj}{ss:List Str}{es:Array (Int×zz9)}{ep:Nat}{t:SetTable} (hh:A.handled=none) (ho:s.heap.get? a=some o) (x:bB w o ss es ep t)
  (h:∀(s':zz8) (EL:List zz9) ES,s'.os=s.os->s'.gens=s.gens->(∀b o,s.heap.get? b=some o->s'.heap.get? b=some o)->StrsAre EL ES->ES.Perm ss->R EL s') :
  wpAny (model prog w) A (collect (.ref a)) R E s:=by
 unfold collect;refine Aw (DZ (BR entry_proto_collect' ?_));rw [B5 PySem.F.plain_proto_collect _];show wpAny _ A.in1 (newList [] >>= λl=>again (.builtin "list.__iadd__" ⟨[l,.ref a],[]⟩)) _ _ s;refine Aw (Bp ?_);refine Az ⟨Cz PySem.F.plain_list_iadd _,BR entry_list_iadd' ?_⟩;rw [B5 PySem.F.plain_list_iadd _];have M5:(s.heap.push { cls:=.type "list",data:=.seq ([]:List zz9).toArray }).get? s.heap.objs.size=some { cls:=.type "list",data:=.seq #[] }:=AS _ rfl;have LG:s.heap.objs.size≠a:=Eu (AQ ho);show wpAny _ A.in1 (Builtin.List.listExtendWith (.ref s.heap.objs.size) (.ref a) (.ref s.heap.objs.size)) _ _ _;have key:=rh (prog:=prog) (A:=A) (s:={ s with heap:=s.heap.push { cls:=.type "list",data:=.seq ([]:List zz9).toArray } })
  (R:=λ(q:Result) (s':zz8)=>∃(EL:Array zz9) (c':Nat) (ES:List Str),q=.ok (.ret (.ref s.heap.objs.size))/\s'.os=s.os/\s'.gens=s.gens /\
   (∀b o,s.heap.get? b=some o->s'.heap.get? b=some o)/\s'.heap.get? s.heap.objs.size=some { cls:=.type "list",dict:=none,data:=.seq EL c',slots:=#[] }/\StrsAre EL.toList ES/\ES.Perm ss)
  hh (AA _ ho) x (.ref s.heap.objs.size) 0 LG M5
  (λs' EL c' ES z1 z2 z3 z4 z5 z6=>⟨EL,c',ES,rfl,z1,z2,λb ob e=>z3 b ob (Bh (AQ e)) (AA _ e),z4,z5,z6⟩)
 refine BW key (λfin s' y=>?_) λe s' y=>?_
 ·cases fin with
  | done f =>
   obtain⟨EL,c',ES,e,z1,z2,z3,z4,z5,z6⟩:=y;cases e;show wpAny _ A (load s.heap.objs.size >>= _) _ _ _;exact Aw (Ep z4 (Az (h s' EL.toList ES z1 z2 z3 z5 z6)))
  | again c₁ =>
   refine⟨y.1,CJ y.2 λq s₂ y=>?_⟩;obtain⟨EL,c',ES,rfl,z1,z2,z3,z4,z5,z6⟩:=y;show wpAny _ A (load s.heap.objs.size >>= _) _ _ _;exact Aw (Ep z4 (Az (h s₂ EL.toList ES z1 z2 z3 z5 z6)))
 ·obtain⟨_,_,_,e',_⟩:=y
  cases e'
end
def cx (w:World) (a:Addr) (ss:List Str):HO:=.ext λh=>∃o es ep t,h.get? a=some o/\bB w o ss es ep t
section
variable {X:Cx}
theorem nV {P:Program}{w:World}{H:Hp}{h:Heap}{a:Addr}{ss:List Str}{o:Obj}{es:Array (Int×zz9)}{ep:Nat}{t:SetTable} (ho:h.get? a=some o) (x:bB w o ss es ep t):aY P w H h a (cx w a ss) :=
 ⟨⟨o,es,ep,t,ho,x⟩,⟨o,ho⟩,λh1 h2 ⟨o,es,ep,t,q,y⟩ k=>⟨o,es,ep,t,k o q,y⟩⟩
theorem Inv.draw {pins:List (Addr×Obj)}{σ:List (Option V)}{H:Hp}{s s':zz8} (I:Inv X pins σ H s) (h1:s'.os=s.os) (h2:s'.gens=s.gens) (h3:s'.heap=s.heap):Inv X pins σ H s':=by
 obtain⟨a1,a2,a3,a4,a5,a6,a7,a8,a9,IJ,II⟩:=I;exact⟨a1,h1.trans a2,by rw [h2];exact a3,by rw [h3];exact a4,by rw [h3];exact a5,by rw [h3];exact a6,a7,a8,by rw [h3];exact a9,by rw [h3];exact IJ,II⟩
theorem sg (hc:X.calm=true):bJ X (.type "set") (λxs H Q=>∃(p:Addr) (ss:List Str),xs=[.ref p]/\EG X.K H p (ss.map V.str)/\ss.length < 3000 /\
  ∀(a:Addr),H a=none->Q (.ref a) (upd H a (cx X.w a (be ss.reverse)))):=by
 intro pins s σ H xs us Q I r h;obtain⟨p,ss,rfl,hq,h3,q⟩:=h;obtain⟨u,rfl,rx⟩:=vals1 r;cases rx;obtain⟨EE,r',hp,hz⟩:=I.tuple hq;refine qI (I.ok.hd hc) hp r' (by omega) λh' tk o' es' FJ t' kp ho x=>?_;exact⟨.ref s.heap.objs.size,_,I.laid (h':=h') (t':=tk) (o:=cx X.w s.heap.objs.size (be ss.reverse)) kp (AF _) (nV ho x),rfl,q _ (I.hok.fresh (AF _))⟩
theorem tE (hc:X.calm=true):bJ X (.type "set") (λxs H Q=>∃(p:Addr) (ss:List Str),xs=[.ref p]/\EF X.K H p (ss.map V.str)/\ss.length < 3000 /\
  ∀(a:Addr),H a=none->Q (.ref a) (upd H a (cx X.w a (be ss.reverse)))):=by
 intro pins s σ H xs us Q I r h;obtain⟨p,ss,rfl,hq,h3,q⟩:=h;obtain⟨u,rfl,rx⟩:=vals1 r;cases rx;obtain⟨EE,r',hp,hz⟩:=I.list hq;refine qS (I.ok.hd hc) hp.isList r' (by omega) λh' tk o' es' FJ t' kp ho x=>?_;exact⟨.ref s.heap.objs.size,_,I.laid (h':=h') (t':=tk) (o:=cx X.w s.heap.objs.size (be ss.reverse)) kp (AF _) (nV ho x),rfl,q _ (I.hok.fresh (AF _))⟩
theorem uD:bJ X (.builtin "len") (λxs H Q=>∃(a:Addr) (ss:List Str),xs=[.ref a]/\H a=some (cx X.w a ss)/\Q (.int ss.length) H):=by
 intro pins s σ H xs us Q I r h;obtain⟨a,ss,rfl,ha,q⟩:=h;obtain⟨u,rfl,rx⟩:=vals1 r;cases rx;obtain⟨⟨o,es,ep,t,ho,x⟩,_,_⟩:=I.hok a _ ha;have hf:=x.few;have hz:=x.size;refine call_len_set ho ⟨x.cls,x.dic,x.slo⟩ x.dat x.fit (by omega) ?_;rw [hz];exact⟨.int ss.length,H,I.tok _,⟨_,rfl⟩,q⟩
theorem qM (hc:X.calm=true):bJ X (.builtin "sorted") (λxs H Q=>∃(a:Addr) (ss:List Str),xs=[.ref a]/\H a=some (cx X.w a ss)/\ss.length < 64 /\
  ∀(ES:List Str) (q:Addr),ES.Perm ss->sortedS ES=true->H q=none->Q (.ref q) (upd H q (.lst (ES.map V.str)))):=by
 intro pins s σ H xs us Q I r h;obtain⟨a,ss,rfl,ha,J1,q⟩:=h;obtain⟨u,rfl,rx⟩:=vals1 r;cases rx;obtain⟨⟨o,es,ep,t,ho,x⟩,_,_⟩:=I.hok a _ ha;refine call_function_entry kind_sorted plain_sorted entry_sorted (args_sorted1 _) ?_;unfold Builtin.«sorted»;refine Aw (m:=checkCount "sorted" 1 1 _) (Az ?_);refine Aw (qX (A:=X.A.in1) (I.ok.hd hc) ho x λs1 EL ss1 z1 z2 kp hS E8=>?_);have Gg:EL.length=ss.length:=by rw [StrsAre.length hS];exact E8.length_eq
 refine Aw (Dz ?_ (by rw [Gg,Br];omega));have Jv:(s1.heap.push (seqObj "list" EL.toArray 0)).get? s1.heap.objs.size=some (seqObj "list" EL.toArray 0):=AS _ rfl;show wpAny _ _ _ _ _ { s1 with heap:=s1.heap.push (seqObj "list" EL.toArray 0) };refine Aw (BJ (BG slot_list_sort ⟨_,Jv,rfl⟩ entry_list_sort (list_sort_treeK (s:={ s1 with heap:=s1.heap.push (seqObj "list" EL.toArray 0) }) strKind_oneLt Jv hS.keysOf (λv₁ v₂ rest e=>keyKind_strs (by rw [<- e];exact hS)) (by rw [Gg];omega) λFb a1 a2=>⟨_,rfl,?_⟩) (args_list_sort _)));obtain⟨ES,h1,h2,h3⟩:=sorted_out_str hS a1 a2;refine Az ⟨_,rfl,?_⟩;obtain⟨e,he⟩:=sortedHeap_at (h:=s1.heap.push (seqObj "list" EL.toArray 0)) (out:=(arrOf Fb).map (·.2)) Jv;have LD:s.heap.get? s1.heap.objs.size=none:=by
  cases e0:s.heap.get? s1.heap.objs.size with
  | none=>rfl
  | some o=>exact absurd (AQ (kp _ _ e0)) (BI _)
 have hold:∀b o,s.heap.get? b=some o->(sortedHeap (s1.heap.push (seqObj "list" EL.toArray 0)) s1.heap.objs.size EL ((arrOf Fb).map (·.2))).get? b=some o:=λb o eb=>by
  have l1:=AQ (kp b o eb);rw [sortedHeap_old (Bh l1) (by rw [size_push'];exact BY l1)];exact AA _ (kp b o eb)
 have KF:H s1.heap.objs.size=none:=I.hok.freeN LD;have HY:av (ES.map V.str) ((arrOf Fb).map (·.2)).toList:=iz h1;have I2:=I.laidN (h':=sortedHeap (s1.heap.push (seqObj "list" EL.toArray 0)) s1.heap.objs.size EL ((arrOf Fb).map (·.2))) (t':=s1.toks) (o:=.lst (ES.map V.str)) hold LD ⟨(by rw [Av,(h2.trans E8).length_eq,Br];omega),((arrOf Fb).map (·.2)).toList,e,HY,(by rw [Array.toArray_toList];exact he)⟩;exact⟨.ref s1.heap.objs.size,_,I2.draw z1 z2 rfl,rfl,q ES _ (h2.trans E8) h3 KF⟩
end
section
variable {X:Cx}{tg:Expr}
end
end L2
namespace L2
open PySem
section
variable {X:Cx}{scope:Scope}{N:List Str}{ix:List (Option Nat)}
variable {tg iter kx vx:Expr}{ifs:List Expr}{pos:Pos}{g:TG}{tt:TT}{tk tv:TE}
def XB (wi:TI) (g:TG) (tt:TT) (tk tv:TE) (ix:List (Option Nat)):TE:=λσ H Q=>wi σ H λJ H1=>∀D,H1 D=none->QZ D J g tt tk tv (GW ix σ) (λH'=>Q (.ref D) H') (upd H1 D (.dT []))
theorem yO {wi:TI} (hu:X.A.units < cLine) (L:bX X scope N ix) (hc:X.calm=true) (hi:PI X tg iter wi) (hg:∀C s0 H0 fp,PG (aw X scope N C s0 H0 fp) tg g)
  (ht:∀C s0 H0 fp,HS (aw X scope N C s0 H0 fp) ifs tt) (hk:∀C s0 H0 fp,PE (aw X scope N C s0 H0 fp) kx tk) (hv:∀C s0 H0 fp,PE (aw X scope N C s0 H0 fp) vx tv) (hs:∀x,foldedSetIterable iter X.env x=pure x:=by intro _;rfl) :
  PE X (.DictComp kx vx [⟨tg,iter,ifs,0⟩] scope pos) (XB wi g tt tk tv ix):=by
 intro pins s σ H Q I h;show wpAny _ X.A (comprehension (.DictComp kx vx [⟨tg,iter,ifs,0⟩] scope pos) scope X.env _ newDict false (eval iter X.env)) _ _ s;refine Cd (use:=none) rfl hs (L.clos I.ok) L.kind L.locals (EI (hi pins s σ H _ I h) λv s1 h1=>EI h1 λLq s2 h2=>?_);obtain⟨it,fp,tn,J,H2,rfl,I2,T,Gy,f2,hW⟩:=h2;refine pK (RR:=λEL C=>compPost (model X.prog X.w) X.A X.xe none (EP X pins σ Q) EL C) L hc hu hg ht hk hv I2 T Gy f2 hW ?_;intro D C s' m H' hn ho hC hI fin;exact⟨m,hn,λh' FO=>⟨.ref D,_,hI h' FO,rfl,fin⟩⟩
theorem Inv.thaw {pins:List (Addr×Obj)}{σ:St}{H:Hp}{s:zz8}{a:Addr}{o:Obj}{u:HO} (I:Inv X pins σ H s) (e:H a=some (.frz o u)) (h0:∀o u,X.H₀ a≠some (.frz o u)) (hx:∀xs,u≠.tup xs) (hy:∀y,u≠.own y):Inv X pins σ (upd H a u) s:=by
 have ne:∀b v,H b=some v->(∀o u,v≠.frz o u)->b≠a:=λb v q n z=>by
  rw [z,e] at q;cases q;exact n _ _ rfl
 have st:∀{b:Addr}{v:HO},aY X.prog X.w H s.heap b v->aY X.prog X.w (upd H a u) s.heap b v:=λx=>x.stay (λ_ _ _ q=>q) (λb q=>by rw [ao (ne b _ q (by intro k l z;cases z))];exact q) λb xs q=>by rw [ao (ne b _ q (by intro k l z;cases z))];exact q
 have hok:FB X.prog X.w (upd H a u) s.heap:=λb v q=>by
  by_cases hb:b=a
  ·subst hb
   rw [ag] at q;cases q;exact st (I.hok b _ e).2
  ·rw [ao hb] at q
   exact st (I.hok b v q)
 have fr:∀b,H b=none->upd H a u b=none:=λb n=>by rw [ao (λz=>by rw [z,e] at n;cases n)];exact n
 exact⟨I.ok,I.os,I.bare,⟨I.base.keep,I.base.slot,λb o q n hx=>fr b (I.base.free b o q n hx),I.base.there,
  λb xs q=>by rw [ao (ne b _ (I.base.tups b xs q) (by intro k l z;cases z))];exact I.base.tups b xs q,
  λb o' v q=>by rw [ao (λz=>h0 o' v (by rw [<- z];exact q))];exact I.base.frzs b o' v q,
  λb ps q=>by
   obtain⟨m,e'⟩:=I.base.tbls b ps q
   exact⟨m,by rw [ao (ne b _ e' (by intro k l z;cases z))];exact e'⟩⟩,I.loc,I.cell,fr _ I.free,λx c q=>fr c (I.freeC x c q),λp hp=>by
  obtain⟨a1,a2,a3⟩:=I.pin p hp
  exact⟨a1,fr _ a2,a3⟩,hok,I.len⟩
end
def RT (t u:TI):TI:=λσ H R=>t σ H R\/u σ H R
theorem i6 {X:Cx}{tg l:Expr}{t u:TI} (h1:PI X tg l t) (h2:PI X tg l u):PI X tg l (RT t u):=λpins s σ H R I h =>
 h.elim (h1 pins s σ H R I) (h2 pins s σ H R I)
theorem jK {K:zz7}{tl:TE}{g:TG}{tb:TS}{D:Ends}{σ:St}{H Hb:Hp}{a:Addr}{xs:List V} (FY:∀Q:VK,Q (.ref a) H->tl σ H Q) (hb:Hb a=some (.lst xs)\/Hb a=some (.tup xs)) (s0:af Hb H) (Pv:Nat->St->Hp->Prop) (h0:Pv 0 σ H) (hl:∀i σ' H',i<=xs.length->Pv i σ' H'->af Hb H')
  (hs:∀i x σ H,xs[i]?=some x->Pv i σ H->g x σ H λσ2 H2=>tb { D with nx:=Pv (i + 1),ct:=Pv (i + 1),bk:=D.nx } σ2 H2) (hd:∀σ H,Pv xs.length σ H->D.nx σ H):qp (RT (ku K tl) (gT K tl)) g tb D σ H:=by
 rcases hb with hb | hb
 ·exact .inl (FY _ ⟨a,rfl,⟨xs,EF.of (s0 _ _ hb)⟩,eB Pv h0 (λi σ H' hi p=>EF.of (hl i σ H' hi p _ _ hb)) hs hd⟩)
 ·exact .inr (FY _ ⟨a,rfl,⟨xs,EG.of (s0 _ _ hb)⟩,gC Pv h0 (λi σ H' hi p=>EG.of (hl i σ H' hi p _ _ hb)) hs hd⟩)
theorem wb {g:TG}{tt:TT}{te:TE}{σ':St}{fin:List V->Hp->Prop}{H1:Hp}{a:Addr}{o:Obj}{kvs:List (List Key×V)} (hn:kvs.length < sizeLine) (Pv:Nat->List V->St->Hp->Prop) (h0:Pv 0 [] σ' H1) (hl:∀i ys σ H,i<=kvs.length->Pv i ys σ H->ys.length<=i/\H a=some (.frz o (.dT kvs)))
  (hs:∀i p b ys σ H,kvs[i]?=some p->H b=some (.tup (p.1.map kV))->Pv i ys σ H->g (.ref b) σ H λσ2 H2=>tt σ2 H2 λb H3=>if b=true then te σ2 H3 (λv H4=>Pv (i + 1) (ys++[v]) σ2 H4) else Pv (i + 1) ys σ2 H3) (hd:∀ys σ H,Pv kvs.length ys σ H->fin ys H) :
  Hl (NQ a o) g tt te σ' fin H1:=by
 refine⟨λi m ys σ H=>m=kvs.length - i/\i<=kvs.length/\Pv i ys σ H,⟨kvs.length,by simp,Be _,h0⟩,?_⟩;rintro i m ys σ H ⟨rfl,hi,p⟩;obtain⟨q0,q1⟩:=hl i ys σ H hi p
 by_cases h:i < kvs.length
 ·refine .inr ⟨⟨kvs,q1,h⟩,by omega,λFQ σ2 H2=>Pv (i + 1) FQ σ2 H2,λFQ σ2 H2 q=>⟨kvs.length - (i + 1),by omega,rfl,h,q⟩,λv H' y=>?_⟩
  obtain⟨rfl,y⟩:=y;obtain⟨p',b,e1,rfl,e2⟩:=y kvs q1;exact hs i p' b ys σ H' e1 e2 p
 ·have e:i=kvs.length:=by omega
  subst e;exact .inl ⟨⟨kvs,q1,AF _⟩,by omega,hd ys σ H p⟩
theorem vb {a:Addr}{o:Obj}{kvs:List (List Key×V)}{g:TG}{tb:TS}{D:Ends}{σ:St}{H:Hp} (Pv:Nat->St->Hp->Prop) (h0:Pv 0 σ H) (hl:∀i σ H,i<=kvs.length->Pv i σ H->H a=some (.frz o (.dT kvs)))
  (hs:∀i p b σ H,kvs[i]?=some p->H b=some (.tup (p.1.map kV))->Pv i σ H->g (.ref b) σ H λσ2 H2=>tb { D with nx:=Pv (i + 1),ct:=Pv (i + 1),bk:=D.nx } σ2 H2) (hd:∀σ H,Pv kvs.length σ H->D.nx σ H) :
  ∃W:Nat->Nat->St->Hp->Prop,(∃m,W 0 m σ H)/\∀i m σ H,W i m σ H ->
   ((NQ a o).stop i H/\D.nx σ H)\/((NQ a o).go i H/\∃N:St->Hp->Prop,(∀σ' H',N σ' H'->∃m',m' < m/\W (i + 1) m' σ' H')/\∀x H',(NQ a o).yld i H x H'->g x σ H' λσ2 H2=>tb { D with nx:=N,ct:=N,bk:=D.nx } σ2 H2):=by
 refine⟨λi m σ H=>m=kvs.length - i/\i<=kvs.length/\Pv i σ H,⟨kvs.length,by simp,Be _,h0⟩,?_⟩;rintro i m σ H ⟨rfl,hi,p⟩;have q:=hl i σ H hi p
 by_cases EM:i < kvs.length
 ·refine .inr ⟨⟨kvs,q,EM⟩,Pv (i + 1),λσ' H' p'=>⟨kvs.length - (i + 1),by omega,rfl,EM,p'⟩,λx H' y=>?_⟩
  obtain⟨e,y⟩:=y;subst e;obtain⟨p',b,e1,rfl,e2⟩:=y kvs q;exact hs i p' b σ _ e1 e2 p
 ·have e:i=kvs.length:=by omega
  subst e;exact .inl ⟨⟨kvs,q,AF _⟩,hd σ H p⟩
end L2
namespace L2
open PySem PySem.Spec PyProof.Rows PySem.W PySem.Calls
def Hd0 (vs:Array zz9) (a0:zz9):Prop:=vs[0]?=some a0/\vs[2]?=some Value.none
def zS (fl:zz9) (h:Heap) (e T:Addr) (cls a0:zz9) (dx:Option Addr):Prop:=∃oe vs oT ts,h.get? e=some oe/\oe.cls=cls/\Hd0 vs a0/\oe.data=Data.fields vs/\vs[1]?=some (Value.ref T)/\T≠e/\h.get? T=some oT/\oT.data=Data.fields ts/\ts[3]?=some fl/\oe.dict=dx
abbrev Trc:Heap->Addr->Addr->zz9->zz9->Option Addr->Prop:=zS .none
def CXE (P:Program) (w:World):IW:=λouter H s E e s'=>∃(ea T:Addr) (cls a0:zz9) (dx:Option Addr) (H':Hp),e=.ref ea/\s'.os=s.os/\AllBare s'.gens/\Un (HI outer) [] H H' s.heap s'.heap/\FB P w H' s'.heap/\s.heap.get? ea=none/\s.heap.get? T=none/\H' ea=none/\H' T=none/\Trc s'.heap ea T cls a0 dx/\E cls dx H'
structure Moved (fr:List Addr) (g:List Addr) (h h':Heap):Prop where
 keep:∀b o,h.get? b=some o->b∉fr->b∉g->h'.get? b=some o
 slot:∀b o,h.get? b=some o->b∈fr->∃sl,h'.get? b=some { o with slots:=sl }
section
variable {M:Model}{A:Around}{E:zz9->zz8->Prop}{s:zz8}{env:Env}{outer:List Env}{L e T:Addr}{base:Heap}{cls a0:zz9}{dx:Option Addr}{Q:Unit->zz8->Prop}
end
def As (h:Heap) (C:Addr):Prop:=∃(nm q:Str) (N:Addr) (bs bm Uu:List zz9) (TU:Bool) (sn:List Str) (sub:List zz9) (ab:Bool) (col:Option Bool) (dd:Option Addr) (k0 k1 k2 k3 k5:Option zz9) (mN:Str->Option zz9) (B Bn newId Ye Ms FM:String) (bmN:List zz9),
 h.get? C=some (excClassObj nm q C N bs bm TU sn sub ab col dd k0 k1 k2 k3 k5 newId)/\h.Ns N mN/\mN (Str.ofString "__init__")=none/\OwnTail h Uu bm/\bm.contains (Value.type "BaseException")=true/\ExcBaseFacts Bn newId FM bmN/\Uu.contains (Value.type Bn)=true/\ExcBaseFacts B Ye Ms Uu
section
variable {X:Cx}{x:Str}{C:Addr}{e:Expr}{es:List Expr}{t:TA}{np Fv pos:Pos}{W:Hp->Prop}
end
variable {P:Program}{w:World}{K:zz7}{mg:Str->Option zz9}{base:Heap}{f:Addr}{fd:FuncData}
def XP (X:Cx) (pins:List (Addr×Obj)) (Ex:St->zz9->Option Addr->Hp->Prop) (e:zz9) (s1:zz8):Prop :=
 ∃(σ:St) (H:Hp) (s:zz8),Inv X pins σ H s/\CXE X.prog X.w X.stack H s (λcls dx H'=>Ex σ cls dx H') e s1
abbrev WX:=(St->zz9->Option Addr->Hp->Prop)->Ends->St->Hp->Prop
section
variable {X:Cx}{k:Nat}{x:Str}{ps:List Str}{sp:Sp}{e:Expr}{es:List Expr}{t:TA}{p pos:Pos}
end
section
variable {X:Cx}{pins:List (Addr×Obj)}{σ:List (Option V)}{H H':Hp}{s:zz8}{h':Heap}
end
section
variable {X:Cx}{pins:List (Addr×Obj)}{σ:List (Option V)}{H:Hp}{s:zz8}
end
section
variable {X:Cx}{pins:List (Addr×Obj)}{σ:St}{H:Hp}{s:zz8}{ea C:Addr}{o:HO}
end
section
variable {X:Cx}{pins:List (Addr×Obj)}{σ:St}{H:Hp}{s:zz8}{ea:Addr}
end
section
variable {X:Cx}{st b0:Stmt}{UT:List Stmt}{tx:WX}{th:TS}{x n:Str}{R:Addr}{j:Nat}{np Ku pos:Pos}
end
section
variable {X:Cx}{pins:List (Addr×Obj)}{σ:St}{H:Hp}{s:zz8}
end
section
variable {X:Cx}{st:Stmt}{rest:List Stmt}{t u:WX}{pos:Pos}
end
end L2
namespace K93
open PySem L2
def top (i:Nat):Stmt:=PySem.Challenge.pw_rootshares_k93_whole_parted_and_together.main.body.getD i (.Pass ⟨0,0,0,0⟩)
theorem dz:bootBuiltins "isinstance"=some (.builtin "isinstance"):=by decide +kernel
theorem eZ:bootBuiltins "all"=some (.builtin "all"):=by decide +kernel
theorem da:bootBuiltins "sorted"=some (.builtin "sorted"):=by decide +kernel
theorem dQ:bootBuiltins "repr"=some (.builtin "repr"):=by decide +kernel
theorem qb:bootBuiltins "max"=some (.builtin "max"):=by decide +kernel
theorem i3:bootBuiltins "min"=some (.builtin "min"):=by decide +kernel
theorem qd:bootBuiltins "str"=some (.type "str"):=by decide +kernel
theorem cv:bootBuiltins "tuple"=some (.type "tuple"):=by decide +kernel
theorem eX:bootBuiltins "list"=some (.type "list"):=by decide +kernel
theorem i9:bootBuiltins "int"=some (.type "int"):=by decide +kernel
theorem xT:bootBuiltins "bool"=some (.type "bool"):=by decide +kernel
theorem kA:bootBuiltins "set"=some (.type "set"):=by decide +kernel
structure Bl (mg:Str->Option zz9):Prop where
 len:mg "len"=none
 isinstance:mg "isinstance"=none
 all:mg "all"=none
 range:mg "range"=none
 sorted:mg "sorted"=none
 repr:mg "repr"=none
 max:mg "max"=none
 min:mg "min"=none
 str:mg "str"=none
 tuple:mg "tuple"=none
 list:mg "list"=none
 int:mg "int"=none
 bool:mg "bool"=none
 zip:mg "zip"=none
 divmod:mg "divmod"=none
 abs:mg "abs"=none
 set:mg "set"=none
 enumerate:mg "enumerate"=none
 most:∃t,mg "MOST_TREES"=some (.int 6 t)
 lng:∃t,mg "LONGEST_NAME"=some (.int 8 t)
def Fn (P:Program) (w:World) (K:zz7) (mg:Str->Option zz9) (base:Heap) (k:Nat) (x:Str) (ps:List Str) (sp:Sp):Prop :=
 ∃f fd,mg x=some (.ref f)/\PySem.W.keepIn K (.ref f)=true/\Binds K fd ps []/\aD P w K mg base EU k f fd ps sp
theorem aq {X:Cx}{k:Nat}{x:Str}{ps:List Str}{sp:Sp}{e:Expr}{es:List Expr}{t:TA}{p pos:Pos} (F:Fn X.prog X.w X.K X.mg X.base k x ps sp) (hr:aQ k X.A) (ha:PA X (e::es) t) (hg:Gl X x:=by rfl)
  (M3:(x == ("__debug__":Str))=false:=by decide) (he:starEach (e::es) X.env=(false,eval e X.env)::starEach es X.env:=by rfl) (Gu:(backTo pos (starEach es X.env)).any (·.1)=false:=by rfl) :
  PE X (.Call (.Name x p) (e::es) [] pos) (pX sp [] E0 t):=by
 obtain⟨f,fd,h1,h2,h3,h4⟩:=F;exact wN h4 hr hg h1 h2 h3 .nil yJ ha M3 he Gu
theorem aF {X:Cx}{scope:Scope}{N:List Str}{C:Addr}{s0:zz8}{H0:Hp}{fp:List Addr}{x:Str}{pos:Pos} (i:Nat) (hN:N.Nodup) (hi:N[i]?=some x) (hx:scope.names.lookup x=some .local) :
  PG (aw X scope N C s0 H0 fp) (.Name x pos) (cm i) :=
 bc (X:=aw X scope N C s0 H0 fp) hN hi (.inl (lookup_relabel_local hx)) (.inr (lookup_relabel_local hx))
theorem jk {c A B:Prop} [Decidable c] (hc:c) (h:A):if decide c=true then A else B:=by
 rw [decide_eq_true hc];exact bK h
theorem kz {c A B:Prop} [Decidable c] (hc:¬ c) (h:B):if decide c=true then A else B:=by
 rw [decide_eq_false hc];exact aN h
theorem pU {c A B:Prop} [Decidable c] (hc:¬ c) (h:A):if (!decide c)=true then A else B:=by
 rw [decide_eq_false hc];exact bK h
theorem Vy (a b:Nat):([a] < [b]) ↔ a < b:=by rw [List.cons_lt_cons_iff];simp
structure aE (x:Str):Prop where
 lo:1<=x.length
 hi:x.length<=8
 az:∀c∈x.cps.toList,97<=c/\c<=122
theorem aE.fits {x:Str} (h:aE x):x.length < sizeLine:=by have:=h.hi;rw [Br];omega
theorem aE.ascii {x:Str} (h:aE x):x.cps.all (· < 128)=true:=by
 rw [Array.all_eq_true'];intro c hc;have:=h.az c (by simpa using hc);simp;omega
variable {P:Program}{w:World}{K:zz7}{mg:Str->Option zz9}{base:Heap}{f:Addr}{fd:FuncData}
def gJ:Sp:=λvs H Q _=>∃x,vs=[.str x]/\aE x/\∀H',af H H'->Q (.bl true) H'
theorem zm:aH ["thing"] ["thing"] (aC (top 10)):=⟨rfl,rfl,rfl,by decide +kernel,rfl,by decide +kernel,by decide +kernel⟩
theorem ai {H H':Hp}{p:Addr}{o:HO} (h:af H H') (hp:H' p=none):af H (upd H' p o):=λb ob e=>by
 rw [ao (aR (h b ob e) hp)];exact h b ob e
theorem sF (F:EW K "is_name" "is_name" (top 10) f fd) (B:Bl mg):aD P w K mg base EU 1 f fd ["thing"] gJ:=by
 refine F.ok zm (λvs H Q E h=>?_) (λ_ _ _ _ H vs Q E hr h=>?_)
 ·obtain⟨x,rfl,_⟩:=h
  rfl
 ·obtain⟨x,rfl,hx,k⟩:=h
  obtain⟨tl,hl⟩:=B.lng
  refine⟨_,ak (aS (PW.pt (cq (bS (bM (au (dA (T:="str")) rfl B.isinstance dz (aa (pv 0) (aa (dC (v:=.ty "str") rfl B.str qd rfl) ae)))))
    (cw (bS (mQ jb jb am (au rB rfl B.len AY (aa (pv 0) ae)) (nU (v:=.int 8) rfl hl ⟨_,rfl⟩)))))) (ar (aM eM)) aV)
   (ar (aM (au (eU rfl) rfl B.all eZ (aa (aZ (N:=["letter"]) (ix:=[none]) ⟨rfl,rfl,rfl,by decide⟩ rfl (x6 (pv 0)) (λ_ _ _ _=>aF 0 (by decide) rfl rfl) (λ_ _ _ _=>bz)
    (λ_ _ _ _=>uY lS lS dS (pv 0) dS)) ae)))),?_⟩
  refine⟨_,rfl,_,_,true,rfl,.str x,?kit,true,rfl,aN ?_⟩
  case kit=>rfl
  refine⟨_,rfl,x,rfl,BH hx.fits,_,_,rfl,rfl,_,rfl,jk (by have:=hx.lo;omega) ⟨_,_,rfl,rfl,_,rfl,?_⟩⟩;refine fY (by have:=hx.hi;omega) ?_;refine⟨_,rfl,x,rfl,hx.ascii,uQ hx.fits (λi ys σ H1=>ys=List.replicate i (.bl true)/\af H H1/\∃v,σ=[v]) ⟨rfl,af.refl _,_,rfl⟩ (λi ys σ H1 _ q=>by rw [q.1];simp) ?_ ?_⟩
  ·rintro i c ys σ H1 hc ⟨rfl,hs,v,rfl⟩
   have Ws:=hx.az c (Array.mem_toList_iff.mpr (Array.mem_of_getElem? hc));refine⟨_,rfl,_,_,rfl,rfl,_,rfl,pU ?_ ⟨_,_,rfl,rfl,?_,hs,_,rfl⟩⟩
   ·show ¬ ([c] < [97])
    rw [Vy];omega
   ·have e:(!decide ([122] < [c]))=true:=by rw [decide_eq_false (by rw [Vy];omega)];rfl
    show _++[V.bl (!decide ([122] < [c]))]=_;rw [e,Cg]
  ·rintro ys σ H1 ⟨rfl,hs,v,rfl⟩ p hp
   refine⟨p,List.replicate x.length true,rfl,EF.of (by rw [ag,Cs]),?_⟩;have e:(List.replicate x.length true).all id=true:=by simp
   rw [e];exact k _ (ai hs hp)
theorem bD (K:zz7) {X:Cx} (h:X.K=K:=by rfl):J5 X (Qi K):=by subst h;exact aG
theorem cO (K:zz7) {X:Cx} (h:X.K=K:=by rfl):FG X (compareOp .In) (Qj K false):=by subst h;exact cW
theorem eu (K:zz7) {X:Cx} (h:X.K=K:=by rfl):FG X (compareOp .NotIn) (Qj K true):=by subst h;exact fA
theorem fR {α:Type}{xs:List α}{z:Int}{j:Nat}{v:α} (hz:z=(j:Int)) (h:xs[j]?=some v):LO xs z=some v:=by subst hz;exact xx h
def Sq (K:zz7) (H:Hp) (p:Addr) (xs:List V):Prop:=EF K H p xs\/EG K H p xs
theorem gv {K:zz7}{H H':Hp}{a:Addr}{xs:List V} (e:af H H') (h:EG K H a xs):EG K H' a xs:=by
 rcases h with (h | ⟨o,h⟩) | h
 ·exact .inl (.inl (e _ _ h))
 ·exact .inl (.inr ⟨o,e _ _ h⟩)
 ·exact .inr h
theorem Sq.same {K:zz7}{H H':Hp}{a:Addr}{xs:List V} (h:Sq K H a xs) (e:af H H'):Sq K H' a xs:=h.imp (λz=>e.seq z) λz=>gv e z
theorem ay {K:zz7}{H:Hp}{p:Addr}{xs:List V}{z:Int}{j:Nat}{v:V}{Q:VK} (h:Sq K H p xs) (hz:z=(j:Int)) (hx:xs[j]?=some v) (q:Q v H):Qi K (.ref p) (.int z) H Q :=
 h.elim (λh=>.inl ⟨p,xs,z,v,rfl,rfl,h,fR hz hx,q⟩) λh=>.inr (.inl ⟨p,xs,z,v,rfl,rfl,h,fR hz hx,q⟩)
theorem fits {n:Nat} (h:n<=1000):n < sizeLine:=uC h
theorem strAt {ss:List Str}{i:Nat} (h:i < ss.length):(ss.map V.str)[i]?=some (.str ss[i]):=by rw [AH,AD h];rfl
theorem aX (x:Str) (ss:List Str):FL (.str x) (ss.map V.str)=decide (x∈ss):=by
 unfold FL;rw [List.any_map];rw [Cb,DB,decide_eq_true_iff];constructor
 ·rintro⟨y,hy,e⟩
  have e':y=x:=by simpa [J3] using e
  exact e' ▸ hy
 ·intro h
  exact⟨x,h,by simp [J3]⟩
theorem aW (ss:List Str):(ss.map V.str).all eL=true:=by
 rw [List.all_map,B4];intro y _;rfl
abbrev Row:=Str×Str×Str
def b7 (H:Hp) (p:Addr) (r:Row):Prop:=H p=some (.tup [.str r.1,.str r.2.1,.str r.2.2])
abbrev aj (rs:List (Addr×Row)):List V:=rs.map λr=>V.ref r.1
structure bA (H:Hp) (v pa ra:Addr) (ps:List Str) (rs:List (Addr×Row)):Prop where
 tp:H v=some (.tup [.ref pa,.ref ra])
 pl:H pa=some (.tup (ps.map V.str))
 rl:H ra=some (.tup (aj rs))
 rows:∀r∈rs,b7 H r.1 r.2
structure Good (ps:List Str) (rs:List Row):Prop where
 ne:ps≠[]
 nm:∀x∈ps,aE x
 so:ps.Pairwise FU
 rn:∀r∈rs,aE r.1/\r.2.1∈ps/\r.2.2∈ps/\r.2.1≠r.2.2
 rso:(rs.map (·.1)).Pairwise FU
 pz:ps.length<=100
 rz:rs.length<=60
theorem bA.same {H H':Hp}{v pa ra:Addr}{ps:List Str}{rs:List (Addr×Row)} (h:bA H v pa ra ps rs) (e:af H H'):bA H' v pa ra ps rs :=
 ⟨e _ _ h.tp,e _ _ h.pl,e _ _ h.rl,λr hr=>e _ _ (h.rows r hr)⟩
def jM (K:zz7):Sp:=λvs H Q _=>∃(p:Addr) (ss:List Str),vs=[.ref p]/\Sq K H p (ss.map V.str)/\ss.Pairwise FU/\ss.length<=1000/\∀H',af H H'->Q (.bl true) H'
theorem zU:aH ["names"] ["names"] (aC (top 12)):=⟨rfl,rfl,rfl,by decide +kernel,rfl,by decide +kernel,by decide +kernel⟩
theorem rE (F:EW K "is_rising" "is_rising" (top 12) f fd) (B:Bl mg):aD P w K mg base EU 1 f fd ["names"] (jM K):=by
 refine F.ok zU (λvs H Q E h=>?_) (λ_ _ _ _ H vs Q E hr h=>?_)
 ·obtain⟨p,ss,rfl,_⟩:=h
  rfl
 ·obtain⟨p,ss,rfl,hq,hp,hz,k⟩:=h
  refine⟨_,ar (aM (au (eU rfl) rfl B.all eZ (aa (aZ (N:=["at","names"]) (ix:=[none,some 0]) ⟨rfl,rfl,rfl,by decide⟩ rfl
   (mi rfl B.range (aa am (aa (au bb rfl B.len AY (aa (pv 0) ae)) ae))) (λ_ _ _ _=>aF 0 (by decide) rfl rfl) (λ_ _ _ _=>bz)
   (λ_ _ _ _=>cS tK (ax (bD K) (pv 1) (ba iW (pv 0) am) (λ_ _=>rfl)) (ax (bD K) (pv 1) (pv 0) (λ_ _=>rfl)) (aT _))) ae))),?_⟩
  have RX:(ss.map V.str).length<=1000:=by simpa using hz
  refine⟨_,rfl,p,ss.map V.str,rfl,hq,1,_,rfl,⟨by decide,by decide,by omega,by omega⟩,eQ (fits (by omega)) (λi ys σ H1=>ys=List.replicate i (.bl true)/\af H H1/\∃v,σ=[v,some (.ref p)])
   ⟨rfl,af.refl _,_,rfl⟩ (λi ys σ H1 _ q=>by rw [q.1];simp) ?_ ?_⟩
  ·rintro i ys σ H1 hi ⟨rfl,hs,v,rfl⟩
   have hl:i + 1 < ss.length:=by rw [Av] at hi;omega
   refine⟨_,rfl,_,rfl,_,_,rfl,rfl,ay (j:=i) (hq.same hs) (by omega) (strAt (by omega)) ⟨_,rfl,_,rfl,ay (j:=i + 1) (hq.same hs) (by push_cast;omega) (strAt hl) ⟨_,_,rfl,rfl,?_,hs,_,rfl⟩⟩⟩;have e:ss[i].cps.toList < ss[i + 1].cps.toList:=Bb.mp hp i (i + 1) (by omega) hl (by omega);show _++[V.bl (decide (ss[i].cps.toList < ss[i + 1].cps.toList))]=_;rw [decide_eq_true e,Cg]
  ·rintro ys σ H1 ⟨rfl,hs,v,rfl⟩ q Kr
   refine⟨q,List.replicate _ true,rfl,EF.of (by rw [ag,Cs]),?_⟩;have e:∀n:Nat,(List.replicate n true).all id=true:=by simp
   rw [e];exact k _ (ai hs Kr)
def iA:Sp:=λvs H Q _=>∃(p:Addr) (ss:List Str),vs=[.ref p]/\H p=some (.tup (ss.map V.str))/\(∀x∈ss,aE x)/\ss.Pairwise FU/\ss.length<=1000/\∀H',af H H'->Q (.bl true) H'
theorem zz:aH ["thing"] ["thing"] (aC (top 13)):=⟨rfl,rfl,rfl,by decide +kernel,rfl,by decide +kernel,by decide +kernel⟩
theorem rm (F:EW K "is_sorted_names" "is_sorted_names" (top 13) f fd) (B:Bl mg) (F1:Fn P w K mg base 1 "is_name" ["thing"] gJ) (F2:Fn P w K mg base 1 "is_rising" ["names"] (jM K)) :
  aD P w K mg base EU 2 f fd ["thing"] iA:=by
 refine F.ok zz (λvs H Q E h=>?_) (λ_ _ _ _ H vs Q E hr h=>?_)
 ·obtain⟨p,ss,rfl,_⟩:=h
  rfl
 ·obtain⟨p,ss,rfl,hp,hn,hs,hz,k⟩:=h
  refine⟨_,ak (aS (bS (bM (au (dA (T:="tuple")) rfl B.isinstance dz (aa (pv 0) (aa (dC (v:=.ty "tuple") rfl B.tuple cv rfl) ae))))) (ar (aM eM)) aV)
   (ar (aM (eY (au (eU rfl) rfl B.all eZ (aa (aZ (N:=["name"]) (ix:=[none]) ⟨rfl,rfl,rfl,by decide⟩ rfl (bC (pv 0)) (λ_ _ _ _=>aF 0 (by decide) rfl rfl) (λ_ _ _ _=>bz)
    (λ_ _ _ _=>aq F1 hr (aa (pv 0) ae))) ae)) (fU (aq F2 hr (aa (pv 0) ae)))))),?_⟩
  refine⟨_,rfl,_,_,true,rfl,.tup hp,rfl,true,rfl,aN ?_⟩
  refine⟨_,rfl,p,rfl,⟨_,EG.of hp⟩,gu (xs:=ss.map V.str) (fits (by simpa using hz)) (λi ys σ H1=>ys=List.replicate i (.bl true)/\af H H1/\∃v,σ=[v]) ⟨rfl,af.refl _,_,rfl⟩
   (λi ys σ H1 _ q=>⟨by rw [q.1];simp,gv q.2.1 (EG.of hp)⟩) ?_ ?_⟩
  ·rintro i x ys σ H1 hx ⟨rfl,Mz,v,rfl⟩
   obtain⟨y,hy,rfl⟩:∃y∈ss,x=V.str y:=by
    obtain⟨y,e1,e2⟩:=AG.mp (AB hx);exact⟨y,e1,e2.symm⟩
   exact⟨_,rfl,y,rfl,hn y hy,λH2 Gs=>⟨by rw [Cg],Mz.trans Gs,_,rfl⟩⟩
  ·rintro ys σ H1 ⟨rfl,Mz,v,rfl⟩ q Kr
   refine⟨q,List.replicate _ true,rfl,EF.of (by rw [ag,Cs]),_,rfl,?_⟩;have e:∀n:Nat,(List.replicate n true).all id=true:=by simp
   rw [e];have Gs:=ai (o:=.lst (List.replicate (ss.map V.str).length (.bl true))) Mz Kr;exact bK ⟨_,rfl,p,ss,rfl,.inr (gv Gs (EG.of hp)),hs,hz,λH3 SA=>k _ (Gs.trans SA)⟩
def jX (K:zz7):Sp:=λvs H Q _=>∃(x:Str) (p:Addr) (ss:List Str),vs=[.str x,.ref p]/\Sq K H p (ss.map V.str)/\Q (.bl (decide (x∈ss))) H
theorem z7:aH ["thing","names"] ["thing","names"] (aC (top 14)):=⟨rfl,rfl,rfl,by decide +kernel,rfl,by decide +kernel,by decide +kernel⟩
theorem rR (F:EW K "is_among" "is_among" (top 14) f fd) (B:Bl mg):aD P w K mg base EU 1 f fd ["thing","names"] (jX K):=by
 refine F.ok z7 (λvs H Q E h=>?_) (λ_ _ _ _ H vs Q E hr h=>?_)
 ·obtain⟨x,p,ss,rfl,_⟩:=h
  rfl
 ·obtain⟨x,p,ss,rfl,hp,k⟩:=h
  refine⟨_,ar (aM (eY (au (dA (T:="str")) rfl B.isinstance dz (aa (pv 0) (aa (dC (v:=.ty "str") rfl B.str qd rfl) ae)))
   (fU (cS cW (pv 0) (pv 1) (by with_unfolding_all rfl))))),?_⟩
  refine⟨_,rfl,_,_,true,rfl,.str x,rfl,true,rfl,bK ⟨_,rfl,_,rfl,p,ss.map V.str,rfl,hp,rfl,aW ss,?_⟩⟩;show Q (.bl (FL (.str x) (ss.map V.str))) H;rw [aX];exact k
def mT:Sp:=λvs H Q _=>∃(p q:Addr) (r:Row) (ps:List Str),vs=[.ref p,.ref q]/\b7 H p r/\H q=some (.tup (ps.map V.str))/\aE r.1/\r.2.1∈ps/\r.2.2∈ps/\r.2.1≠r.2.2/\∀H',af H H'->Q (.bl true) H'
theorem ji:aH ["thing","places","name","start","end"] ["thing","places"] (aC (top 15)):=⟨rfl,rfl,rfl,by decide +kernel,rfl,by decide +kernel,by decide +kernel⟩
theorem qT (F:EW K "is_tie_row" "is_tie_row" (top 15) f fd) (B:Bl mg) (F1:Fn P w K mg base 1 "is_name" ["thing"] gJ) (F2:Fn P w K mg base 1 "is_among" ["thing","names"] (jX K)) :
  aD P w K mg base EU 2 f fd ["thing","places"] mT:=by
 refine F.ok ji (λvs H Q E h=>?_) (λ_ _ _ _ H vs Q E hr h=>?_)
 ·obtain⟨p,q,r,ps,rfl,_⟩:=h
  rfl
 ·obtain⟨p,q,r,ps,rfl,hp,hq,h1,h2,h3,h4,k⟩:=h
  have Gv:H p=some (.tup [.str r.1,.str r.2.1,.str r.2.2]):=hp
  refine⟨_,ak (aS (PW.pt (cq (bS (bM (au (dA (T:="tuple")) rfl B.isinstance dz (aa (pv 0) (aa (dC (v:=.ty "tuple") rfl B.tuple cv rfl) ae)))))
    (cw (aB cj (au bb rfl B.len AY (aa (pv 0) ae)) am (aT _))))) (ar (aM eM)) aV)
   (ak (fq (pv 0) (dU rfl (n:=3) (bG (bc (i:=2) ji.nd rfl (Or.inl rfl)) (bG (bc (i:=3) ji.nd rfl (Or.inl rfl)) (bG (bc (i:=4) ji.nd rfl (Or.inl rfl)) dq)))))
   (ar (aM (eY (aq F1 hr (aa (pv 2) ae)) (eY (aq F2 hr (aa (pv 3) (aa (pv 1) ae))) (eY (aq F2 hr (aa (pv 4) (aa (pv 1) ae))) (fU (cS cj (pv 3) (pv 4) (aT _))))))))),?_⟩
  refine⟨_,rfl,_,_,true,rfl,.tup Gv,rfl,true,rfl,aN ⟨_,rfl,p,_,rfl,.inr (EG.of Gv),rfl,_,rfl,fY rfl ?_⟩⟩;refine⟨_,rfl,p,_,rfl,EG.of Gv,rfl,_,_,rfl,_,_,rfl,_,_,rfl,rfl,?_⟩;refine⟨_,rfl,r.1,rfl,h1,λH1 s1=>⟨true,rfl,bK ⟨_,rfl,_,rfl,r.2.1,q,ps,rfl,.inr (gv s1 (EG.of hq)),_,rfl,jk h2 ⟨_,rfl,_,rfl,r.2.2,q,ps,rfl,.inr (gv s1 (EG.of hq)),_,rfl,jk h3 ⟨_,rfl,_,rfl,rfl,?_⟩⟩⟩⟩⟩;have e:(!decide (V.str r.2.1=V.str r.2.2))=true:=by
   rw [decide_eq_false (λz=>h4 (V.str.inj z))];rfl
  rw [e];exact k H1 s1
theorem ig {α β:Type} (f:α->β) (l:List α) (i:Nat) (x:α) (h:l[i]?=some x):(l.take (i + 1)).map f=(l.take i).map f++[f x]:=by
 rw [Bg,h];simp
theorem bY {rs:List (Addr×Row)}{i:Nat}{x:V} (h:(aj rs)[i]?=some x):∃r,rs[i]?=some r/\x=.ref r.1:=by
 unfold aj at h;rw [AH] at h;cases e:rs[i]? with
 | none=>rw [e] at h;cases h
 | some r=>rw [e] at h;exact⟨r,rfl,(Bx h).symm⟩
def eK (r:V):Sp:=λvs H Q _=>∃(v pa ra:Addr) (ps:List Str) (rs:List (Addr×Row)),vs=[.ref v]/\bA H v pa ra ps rs/\Good ps (rs.map (·.2))/\∀H',af H H'->Q r H'
theorem kE:aH ["thing","places","rows"] ["thing"] (aC (top 16)):=⟨rfl,rfl,rfl,by decide +kernel,rfl,by decide +kernel,by decide +kernel⟩
theorem tW (F:EW K "is_web" "is_web" (top 16) f fd) (B:Bl mg) (F1:Fn P w K mg base 2 "is_sorted_names" ["thing"] iA) (F2:Fn P w K mg base 2 "is_tie_row" ["thing","places"] mT)
  (F3:Fn P w K mg base 1 "is_rising" ["names"] (jM K)):aD P w K mg base EU 3 f fd ["thing"] (eK (.bl true)):=by
 refine F.ok kE (λvs H Q E h=>?_) (λ_ _ _ _ H vs Q E hr h=>?_)
 ·obtain⟨v,pa,ra,ps,rs,rfl,_⟩:=h
  rfl
 ·obtain⟨v,pa,ra,ps,rs,rfl,W,G,k⟩:=h
  have E7:aQ 1 _:=hr.mono (by decide)
  refine⟨_,ak (aS (PW.pt (cq (bS (bM (au (dA (T:="tuple")) rfl B.isinstance dz (aa (pv 0) (aa (dC (v:=.ty "tuple") rfl B.tuple cv rfl) ae)))))
    (cw (aB cj (au bb rfl B.len AY (aa (pv 0) ae)) am (aT _))))) (ar (aM eM)) aV)
   (ak (fq (pv 0) (dU rfl (n:=2) (bG (bc (i:=1) kE.nd rfl (Or.inr rfl)) (bG (bc (i:=2) kE.nd rfl (Or.inl rfl)) dq))))
   (ak (aS (PW.pt (cq (bS (bM (aq F1 hr (aa (pv 1) ae)))) (cq (aB dG (au bb rfl B.len AY (aa (pv 1) ae)) am (aT _))
    (cw (bS (bM (au (dA (T:="tuple")) rfl B.isinstance dz (aa (pv 2) (aa (dC (v:=.ty "tuple") rfl B.tuple cv rfl) ae))))))))) (ar (aM eM)) aV)
   (ar (aM (eY (au (eU rfl) rfl B.all eZ (aa (aZ (N:=["row","places"]) (ix:=[none,some 1]) ⟨rfl,rfl,rfl,by decide⟩ rfl (bC (pv 2)) (λ_ _ _ _=>aF 0 (by decide) rfl rfl) (λ_ _ _ _=>bz)
    (λ_ _ _ _=>aq F2 hr (aa (pv 0) (aa (pv 1) ae)))) ae))
    (fU (aq F3 E7 (aa (aZ (N:=["row"]) (ix:=[none]) ⟨rfl,rfl,rfl,by decide⟩ rfl (bC (pv 2)) (λ_ _ _ _=>aF 0 (by decide) rfl rfl) (λ_ _ _ _=>bz)
     (λ_ _ _ _=>ax (bD K) (pv 0) am (λ_ _=>rfl))) ae)))))))),?_⟩
  have EJ:(aj rs).length<=1000:=by have:=G.rz;simp at this ⊢;omega
  refine⟨_,rfl,_,_,true,rfl,.tup W.tp,rfl,true,rfl,aN ⟨_,rfl,v,_,rfl,.inr (EG.of W.tp),rfl,_,rfl,fY rfl ?_⟩⟩;refine⟨_,rfl,v,_,rfl,EG.of W.tp,rfl,_,_,rfl,_,_,rfl,rfl,?_⟩;refine⟨_,rfl,pa,ps,rfl,W.pl,G.nm,G.so,by have:=G.pz;omega,λH1 s1=>⟨true,rfl,aN ?_⟩⟩;refine⟨_,rfl,pa,_,rfl,.inr (EG.of (s1 _ _ W.pl)),rfl,_,rfl,kz ?_ ?_⟩
  ·intro z
   have z':((ps.map V.str).length:Int)=0:=V.int.inj z;have:ps.length≠0:=λq=>G.ne (CB.mp q);rw [Av] at z';omega
  refine⟨_,rfl,_,_,true,rfl,.tup (s1 _ _ W.rl),rfl,true,rfl,aN ?_⟩
  refine⟨_,rfl,ra,rfl,⟨_,EG.of (s1 _ _ W.rl)⟩,gu (xs:=aj rs) (fits EJ) (λi ys σ H2=>ys=List.replicate i (.bl true)/\af H H2/\∃x,σ=[x,some (.ref pa)]) ⟨rfl,s1,_,rfl⟩
   (λi ys σ H2 _ q=>⟨by rw [q.1];simp,EG.of (q.2.1 _ _ W.rl)⟩) ?_ ?_⟩
  ·rintro i x ys σ H2 hx ⟨rfl,s2,y,rfl⟩
   obtain⟨r,EV,rfl⟩:=bY hx;have hm:=AB EV;obtain⟨g1,g2,g3,g4⟩:=G.rn r.2 (AC hm);exact⟨_,rfl,_,rfl,r.1,pa,r.2,ps,rfl,s2 _ _ (W.rows r hm),s2 _ _ W.pl,g1,g2,g3,g4,λH3 s3=>⟨by rw [Cg],s2.trans s3,_,rfl⟩⟩
  ·rintro ys σ H2 ⟨rfl,s2,y,rfl⟩ q Kr
   have s3:=ai (o:=.lst (List.replicate (aj rs).length (.bl true))) s2 Kr;refine⟨q,List.replicate _ true,rfl,EF.of (by rw [ag,Cs]),_,rfl,?_⟩;have e:∀n:Nat,(List.replicate n true).all id=true:=by simp
   rw [e]
   refine bK ⟨_,rfl,ra,rfl,⟨_,EG.of (s3 _ _ W.rl)⟩,gu (xs:=aj rs) (fits EJ) (λi ys σ H4=>ys=((rs.take i).map λr=>V.str r.2.1)/\af H H4/\∃x,σ=[x]) ⟨rfl,s3,_,rfl⟩
    (λi ys σ H4 _ q=>⟨by rw [q.1];simp;omega,EG.of (q.2.1 _ _ W.rl)⟩) ?_ ?_⟩
   ·rintro i x ys σ H4 hx ⟨rfl,s4,z,rfl⟩
    obtain⟨r,EV,rfl⟩:=bY hx;have hm:=AB EV;exact⟨_,rfl,ay (j:=0) (.inr (EG.of (s4 _ _ (W.rows r hm)))) rfl rfl ⟨(ig _ _ _ _ EV).symm,s4,_,rfl⟩⟩
   ·rintro ys σ H4 ⟨rfl,s4,z,rfl⟩ q2 Gf
    refine⟨q2,rs.map (·.2.1),rfl,.inl (EF.of (by rw [ag];simp)),?_,by simpa using EJ,λH5 s5=>k _ ((ai s4 Gf).trans s5)⟩;have:=G.rso;rw [Bf] at this;exact this
theorem bH {α:Type} (p:α->Bool) (l:List α) (i:Nat) (x:α) (h:l[i]?=some x):(l.take (i + 1)).filter p=(l.take i).filter p++(if p x then [x] else []):=by
 rw [Bg,h,Dl];simp only [Option.toList_some,CY,List.filter_nil]
theorem take_all {α:Type} (l:List α) {n:Nat} (h:n=l.length):l.take n=l:=by subst h;exact B6
abbrev E4 (rs:List (Addr×Row)):List Str:=rs.map (·.2.1)
theorem jx (K:zz7) {X:Cx} (h:X.K=K:=by rfl):bJ X (.type "tuple") (λxs H Q=>∃p ys,xs=[.ref p]/\((EF K H p ys/\∀l,H l=none->Q (.ref l) (upd H l (.tup ys)))\/(EG K H p ys/\Q (.ref p) H))):=by subst h;exact c8
theorem lE {α β:Type} (f:α->β):∀(l':List β) (l:List α),l'.Perm (l.map f)->∃VE:List α,VE.Perm l/\VE.map f=l'
 | [],l,h=>by
  have:l=[]:=by simpa using h.length_eq.symm
  subst this;exact⟨[],.refl _,rfl⟩
 | b::t,l,h=>by
  obtain⟨a,ha,rfl⟩:=AG.mp (h.mem_iff.mp AJ);obtain⟨u,v,rfl⟩:=List.append_of_mem ha;have h2:(f a::t).Perm (f a::(u++v).map f):=by
   refine h.trans ?_;rw [AU,Bj,AU];exact List.perm_middle
  obtain⟨w,hw,e⟩:=lE f t (u++v) h2.cons_inv;exact⟨a::w,(hw.cons a).trans List.perm_middle.symm,by rw [Bj,e]⟩
structure cB (ps ls:List Str):Prop where
 ne:ls≠[]
 nm:∀x∈ls,aE x
 so:ls.Pairwise FU
 sub:∀x∈ls,x∈ps
 z:ls.length<=100
theorem bU {ss:List Str} (h:ss.Pairwise FU):ss.Nodup:=h.imp λ{a b} He e=>by
 subst e;exact absurd He (D0 _)
theorem m7 (rs:List (Addr×Row)):refs (rs.map λr=>(r.1,r.2.1))=aj rs:=by
 unfold refs aj;rw [Bf];rfl
theorem jU (K:zz7) {X:Cx}{es:List Expr}{k:Nat}{t:LR}{n:Nat}{pos:Pos} (hc:X.calm=true) (h:PK X es t) (hK:X.K=K:=by rfl) (hn:(assignEach es X.env).length=n:=by rfl) (GE:(assignEach es X.env).findIdx? (·.1)=none:=by rfl) :
  PG X (.Tuple es k pos) (qy K n t):=by subst hK;exact dU hc h hn GE
theorem y7:aH ["thing"] ["thing"] (aC (top 19)):=⟨rfl,rfl,rfl,by decide +kernel,rfl,by decide +kernel,by decide +kernel⟩
theorem rL (F:EW K "need_web" "need_web" (top 19) f fd) (F1:Fn P w K mg base 3 "is_web" ["thing"] (eK (.bl true))):aD P w K mg base EU 4 f fd ["thing"] (eK .non):=by
 refine F.ok y7 (λvs H Q E h=>?_) (λ_ _ _ _ H vs Q E hr h=>?_)
 ·obtain⟨v,pa,ra,ps,rs,rfl,_⟩:=h
  rfl
 ·obtain⟨v,pa,ra,ps,rs,rfl,W,G,k⟩:=h
  refine⟨_,ar (aS (bS (bM (aq F1 hr (aa (pv 0) ae)))) bT aV),?_⟩;exact⟨_,rfl,v,pa,ra,ps,rs,rfl,W,G,λH1 s1=>⟨true,rfl,aN (k H1 s1)⟩⟩
def lead (ls:List Str) (r:Addr×Row):Bool:=decide (r.2.2.2∈ls) && !decide (r.2.2.1∈ls)
def iX:Sp:=λvs H Q _=>∃(l:Addr) (r:Addr×Row) (ls:List Str),vs=[.ref r.1,.ref l]/\b7 H r.1 r.2/\H l=some (.tup (ls.map V.str))/\Q (.bl (lead ls r)) H
theorem zi:aH ["row","lot"] ["row","lot"] (aC (top 24)):=⟨rfl,rfl,rfl,by decide +kernel,rfl,by decide +kernel,by decide +kernel⟩
theorem qP (F:EW K "leads_into" "leads_into" (top 24) f fd):aD P w K mg base EU 1 f fd ["row","lot"] iX:=by
 refine F.ok zi (λvs H Q E h=>?_) (λ_ _ _ _ H vs Q E hr h=>?_)
 ·obtain⟨l,r,ls,rfl,_⟩:=h
  rfl
 ·obtain⟨l,r,ls,rfl,ER,hl,k⟩:=h
  refine⟨_,ar (aM (eY (cS cW (ax aG (pv 0) am (λ_ _=>rfl)) (pv 1) (by with_unfolding_all rfl)) (fU (cS fA (ax aG (pv 0) am (λ_ _=>rfl)) (pv 1) (by with_unfolding_all rfl))))),?_⟩;have hS:Sq K H l (ls.map V.str):=.inr (EG.of hl);refine⟨_,rfl,ay (j:=2) (.inr (EG.of ER)) rfl rfl ⟨_,rfl,l,ls.map V.str,rfl,hS,rfl,aW ls,?_⟩⟩;have e1:(FL (.str r.2.2.2) (ls.map V.str))=decide (r.2.2.2∈ls):=aX _ _;have e2:(FL (.str r.2.2.1) (ls.map V.str))=decide (r.2.2.1∈ls):=aX _ _;refine⟨FL (.str r.2.2.2) (ls.map V.str),rfl,?_⟩;rw [e1];refine aU (λc=>⟨_,rfl,ay (j:=1) (.inr (EG.of ER)) rfl rfl ⟨_,rfl,l,ls.map V.str,rfl,hS,rfl,aW ls,?_⟩⟩) (λc=>?_)
  ·show Q (.bl (!FL (.str r.2.2.1) (ls.map V.str))) H
   rw [e2];have:lead ls r=!decide (r.2.2.1∈ls):=by unfold lead;rw [c];rfl
   rw [<- this];exact k
  ·simp only [BA] at c
   have:lead ls r=false:=by unfold lead;rw [c];rfl
   rw [this] at k
   first | exact k | (rw [c];exact k) | skip
def ik:Sp:=λvs H Q _=>∃(v pa ra:Addr) (ps:List Str) (rs:List (Addr×Row)) (x:Str),vs=[.ref v,.str x]/\bA H v pa ra ps rs/\x∈ps/\Q .non H
theorem zC:aH ["web","thing"] ["web","thing"] (aC (top 21)):=⟨rfl,rfl,rfl,by decide +kernel,rfl,by decide +kernel,by decide +kernel⟩
theorem qW (F:EW K "need_place" "need_place" (top 21) f fd) (F1:Fn P w K mg base 1 "is_among" ["thing","names"] (jX K)):aD P w K mg base EU 2 f fd ["web","thing"] ik:=by
 refine F.ok zC (λvs H Q E h=>?_) (λ_ _ _ _ H vs Q E hr h=>?_)
 ·obtain⟨v,pa,ra,ps,rs,x,rfl,_⟩:=h
  rfl
 ·obtain⟨v,pa,ra,ps,rs,x,rfl,W,hx,k⟩:=h
  refine⟨_,ar (aS (bS (bM (aq F1 hr (aa (pv 1) (aa (ax aG (pv 0) am (λ_ _=>rfl)) ae))))) bT aV),?_⟩;exact⟨_,rfl,_,rfl,ay (j:=0) (.inr (EG.of W.tp)) rfl rfl ⟨x,pa,ps,rfl,.inr (EG.of W.pl),_,rfl,fY hx k⟩⟩
def E1 (H:Hp) (p:Addr):Prop:=∃a b,H p=some (.lst [.int a,.int b])/\0<=b/\b < 4294967296
def Kp (P:List Addr) (H H':Hp):Prop:=∀b o,H b=some o->b∉P->H' b=some o
theorem Kp.refl (P:List Addr) (H:Hp):Kp P H H:=λ_ _ h _=>h
theorem Kp.trans {P:List Addr}{H H1 H2:Hp} (a:Kp P H H1) (b:Kp P H1 H2):Kp P H H2:=λc o h n=>b c o (a c o h n) n
theorem Kp.same {P:List Addr}{H H':Hp} (a:af H H'):Kp P H H':=λc o h _=>a c o h
theorem Kp.of_same {P:List Addr}{H H1 H2:Hp} (a:Kp P H H1) (b:af H1 H2):Kp P H H2:=λc o h n=>b c o (a c o h n)
theorem Kp.inn {P:List Addr}{H H1:Hp}{p:Addr}{o:HO} (a:Kp P H H1) (hp:p∈P):Kp P H (upd H1 p o):=λc ob h n=>by rw [ao (show c≠p from λz=>n (by rw [z];exact hp))];exact a c ob h n
theorem Kp.new {P:List Addr}{H H1:Hp}{p:Addr}{o:HO} (a:Kp P H H1) (hp:H1 p=none):Kp P H (upd H1 p o):=λc ob h n=>by rw [ao (aR (a c ob h n) hp)];exact a c ob h n
def eE:Str:=Str.ofString "abcdefghijklmnopqrstuvwxyz"
theorem rK:∀r:_root_.Fin 26,eE.cps.toList[r.val]?=some (97 + r.val):=by decide +kernel
theorem ju {r:Nat} (h:r < 26):eE.cps.toList[r]?=some (97 + r):=rK ⟨r,h⟩
theorem jr:eE.length<=sizeLine:=by decide
theorem join_one (cs:List Nat):(Txt.join (Str.ofString "") (cs.map λc=>(⟨#[c]⟩:Str))).cps.toList=cs:=by
 have e0:(Str.ofString "").cps=#[]:=by decide
 show (Builtin.Str.glued (Str.ofString "") _).cps.toList=cs;rw [StrLaws.glued_eq_join]
 induction cs with
 | nil=>rfl
 | cons c t ih =>
  cases t with
  | nil=>rfl
  | cons d r =>
   show (((⟨#[c]⟩:Str)++Str.ofString ""++Str.join (Str.ofString "") ((d::r).map λc=>(⟨#[c]⟩:Str))).cps).toList=_;rw [Str.cps_append,Str.cps_append,e0,DX,DX,ih];rfl
theorem aE.of_codes {x:Str}{l:List Nat} (e:x.cps.toList=l) (h1:1<=l.length) (h8:l.length<=8) (h:∀c∈l,97<=c/\c<=122):aE x:=by
 have hl:x.length=l.length:=by rw [<- e];simp [Str.length]
 exact⟨by omega,by omega,by rw [e];exact h⟩
theorem o9 {H:Hp}{p t:Addr}{ss:List Str} (h1:E1 H p) (h2:H t=some (.lst (ss.map V.str))):t≠p:=by
 rintro rfl;obtain⟨a,b,e,_⟩:=h1;rw [e] at h2;have h3:=HO.lst.inj (Bx h2);cases ss with
 | nil=>cases h3
 | cons x r=>rw [Bj] at h3;cases Eg h3 |>.1
theorem ml:∀(r:List Str) (x:Str),PyProof.Rows.risingS x r=true->(x::r).Nodup->(x::r).Pairwise FU
 | [],x,_,_=>by simp
 | y::r,x,h,hn=>by
  have h':(!PySem.Spec.ltCps y.cps.toList x.cps.toList && PyProof.Rows.risingS y r)=true:=h;rw [BL,PyProof.Rows.ltCps_eq] at h';have IS:=Bc.mp hn;have ih:=ml r y h'.2 IS.2;have VL:FU x y:=by
   rcases j7 (λe=>IS.1 (e ▸ AJ):x≠y) with z | z
   ·exact z
   ·rw [decide_eq_true z] at h'
    exact absurd h'.1 (by simp)
  refine Ct.mpr ⟨λz hz=>?_,ih⟩
  rcases AI.mp hz with rfl | hz
  ·exact VL
  ·exact Ef VL ((Ct.mp ih).1 z hz)
theorem ez {ss:List Str} (h:PyProof.Rows.sortedS ss=true) (hn:ss.Nodup):ss.Pairwise FU:=by
 cases ss with
 | nil=>exact .nil
 | cons x r=>exact ml r x h hn
theorem Kp.free {P:List Addr}{H H':Hp} (k:Kp P H H') (hP:∀b∈P,∃o,H' b=some o) {q:Addr} (hq:H' q=none):H q=none:=by
 cases e:H q with
 | none=>rfl
 | some o =>
  by_cases hm:q∈P
  ·obtain⟨o',e'⟩:=hP q hm
   rw [hq] at e';cases e'
  ·rw [k q o e hm] at hq;cases hq
theorem E1.some {H:Hp}{p:Addr} (h:E1 H p):∃o,H p=some o:=let ⟨a,b,e,_⟩:=h;⟨_,e⟩
theorem E1.keep {H H':Hp}{p:Addr} (h:E1 H p) (e:∀o,H p=Option.some o->H' p=Option.some o):E1 H' p:=let ⟨a,b,q,r⟩:=h;⟨a,b,e _ q,r⟩
theorem tup_ne {H:Hp}{a b:Addr}{xs ys:List V} (h1:H a=some (.tup xs)) (h2:H b=some (.lst ys)):a≠b:=gR h1 h2 (by intro z;cases z)
theorem gL {H H':Hp}{P:List Addr}{b:Addr}{xs:List V} (k:Kp P H H') (hP:∀c∈P,∃ys,H c=some (.lst ys)) (e:H b=some (.tup xs)):H' b=some (.tup xs) :=
 k b _ e λhb=>by
  obtain⟨ys,e'⟩:=hP b hb;exact tup_ne e e' rfl
theorem E1.lst {H:Hp}{p:Addr} (h:E1 H p):∃ys,H p=Option.some (HO.lst ys):=let ⟨a,b,e,_⟩:=h;⟨_,e⟩
theorem iD {x:Str} (h:aE x):PyData.strOk x=true:=by
 unfold PyData.strOk;rw [Array.all_eq_true'];intro c hc;have:=h.az c (by simpa using hc);simp;omega
theorem iH {ss:List Str} (h:∀x∈ss,aE x):PyData.canLayAll0 (ss.map PyData.str)=true/\PyData.depthAll (ss.map PyData.str)=0:=by
 induction ss with
 | nil=>exact⟨rfl,rfl⟩
 | cons x t ih =>
  have:=ih λy hy=>h y (AN _ hy);rw [Bj];simp only [PyData.canLayAll0,PyData.canLay0,PyData.depthAll,PyData.depth,iD (h x AJ),this.1,this.2];exact⟨rfl,rfl⟩
theorem dM {ss:List Str} (h:∀x∈ss,aE x):SeqAt.shaped (.list (ss.map PyData.str))=true/\SeqAt.shaped (.tuple (ss.map PyData.str))=true:=by
 have q:=iH h;unfold SeqAt.shaped;simp only [PyData.canLay0,PyData.depth,q.1,q.2];exact⟨by decide,by decide⟩
theorem fD:∀(a b:List Str),PyData.eqvAll (a.map PyData.str) (b.map PyData.str)=decide (a=b)
 | [],[]=>by simp [PyData.eqvAll]
 | [],y::t=>by simp [PyData.eqvAll]
 | x::s,[]=>by simp [PyData.eqvAll]
 | x::s,y::t=>by
  simp only [Bj,PyData.eqvAll,PyData.eqv,fD s t];rw [Cb];simp
theorem E1.ne_new {H:Hp}{p q:Addr} (h:E1 H p) (hq:H q=none):q≠p:=λz=>by obtain⟨o,e⟩:=h.some;rw [<- z,hq] at e;cases e
theorem E1.upd {H:Hp}{p q:Addr}{o:HO} (h:E1 H p) (hq:q≠p):E1 (upd H q o) p:=h.keep λob e=>by rw [ao hq.symm];exact e
theorem E1.new {H:Hp}{p q:Addr}{o:HO} (h:E1 H p) (hq:H q=none):E1 (L2.upd H q o) p:=h.upd (h.ne_new hq)
theorem Kp.free1 {p q:Addr}{H H1:Hp} (k:Kp [p] H H1) (hp:E1 H1 p) (hq:H1 q=none):H q=none:=k.free (λb hb=>by
 have e:b=p:=by simpa using hb
 subst e;exact hp.some) hq
theorem Kp.tup {p b:Addr}{H H1:Hp}{xs:List V} (k:Kp [p] H H1) (hp:E1 H p) (e:H b=some (.tup xs)):H1 b=some (.tup xs):=gL k (λc hc=>by
 have e:c=p:=by simpa using hc
 subst e;exact hp.lst) e
theorem Kp.at {p b:Addr}{H H1:Hp}{o:HO} (k:Kp [p] H H1) (hb:b≠p) (e:H b=some o):H1 b=some o:=k _ _ e (by simpa using hb)
theorem af.upd0 {H H':Hp}{q:Addr}{o:HO} (h:af H H') (hq:H q=none):af H (upd H' q o):=λb ob e=>by
 rw [ao (aR e hq)];exact h b ob e
theorem Lp {k:Nat}{A:Around} (r:aQ k A):A.units < cLine:=by have:=r.un;omega
theorem dH {k:Nat}{A:Around} (r:aQ k A):A.units + 1 < cLine:=by have:=r.un;omega
theorem qg:bootBuiltins "abs"=some (.builtin "abs"):=by decide +kernel
theorem yL {c:TT}{x y b:TS}{D:Ends}{σ:St}{H:Hp} (M:St->Hp->Prop) (h:∀N:St->Hp->Prop,(∀σ H,M σ H->N σ H)->kY c x y { D with nx:=N } σ H) (k:∀σ H,M σ H->b D σ H):gh (kY c x y) b D σ H:=h (b D) k
def qe (K:zz7):Sp:=λvs H Q _=>∃(a:Addr) (ns:List Int) (k:Int),vs=[.ref a,.int k]/\EF K H a (ns.map V.int)/\0<=k/\k < 1000/\∀q H',af H H'->H q=none->E1 H' q->Q (.ref q) H'
abbrev N58:List Str:=["_law_script","_law_k","_law_cell"]
theorem kS:aH N58 ["_law_script","_law_k"] (aC (top 58)):=⟨rfl,rfl,rfl,by decide +kernel,rfl,by decide +kernel,by decide +kernel⟩
theorem yn (F:EW K "_law_pot" "_law_pot" (top 58) f fd) (B:Bl mg):aD P w K mg base EU 1 f fd ["_law_script","_law_k"] (qe K):=by
 refine F.ok kS (λvs H Q E h=>?_) (λ_ _ _ _ H vs Q E hr h=>?_)
 ·obtain⟨a,ns,k,rfl,_⟩:=h
  rfl
 ·obtain⟨a,ns,k,rfl,ha,hk,hk2,q⟩:=h
  refine⟨_,ak (aA (i:=2) kS.nd rfl (Or.inl rfl) am) (ak (aS (aB jc (pv 1) (au bb rfl B.len AY (aa (pv 0) ae)) (aT _)) (ar (aA (i:=2) kS.nd rfl (Or.inl rfl) (ax aG (pv 0) (pv 1) (λ_ _=>rfl)))) aV)
   (ar (aM (bw (aa (au (lP rfl) rfl B.max qb (aa am (aa (ba iW (au lF rfl B.abs qg (aa (pv 2) ae)) (ba xE am am)) ae)))
    (aa (ba dr (ba dr (ba fT (au lF rfl B.abs qg (aa (pv 2) ae)) am) (ba kq am (pv 1))) am) ae)))))),?_⟩
  dsimp only [gh,kL,tC,cm]
  refine yL (λσ H1=>H1=H/\∃c:Int,σ=[some (.ref a),some (.int k),some (.int c)]) (λN key=>?_) ?_
  ·refine⟨_,rfl,_,rfl,a,_,rfl,.inl ha,_,_,rfl,rfl,_,rfl,?_⟩
   refine aU (λc=>?_) (λc=>key _ _ ⟨rfl,_,rfl⟩);have c':k < ((ns.map V.int).length:Int):=of_decide_eq_true c;rw [Av] at c';have hl:k.toNat < ns.length:=by omega
   exact⟨_,rfl,_,rfl,ay (j:=k.toNat) (v:=.int ns[k.toNat]) (.inl ha) (by omega) (by rw [AH,AD hl];rfl) (key _ _ ⟨rfl,_,rfl⟩)⟩
  ·rintro σ H1 ⟨rfl,c,rfl⟩
   refine⟨_,rfl,_,rfl,_,_,rfl,rfl,⟨by decide,by decide,by decide⟩,_,_,rfl,rfl,_,_,rfl,?_⟩;refine⟨_,rfl,_,rfl,_,_,rfl,rfl,by show (0:Int) < 2147483587;decide,_,rfl,_,_,rfl,rfl,.inl ⟨by decide,by decide⟩,_,_,rfl,rfl,_,_,rfl,rfl,by show 2<=sizeLine;decide,λl hl=>?_⟩;have m0:=DP (if c < 0 then -c else c) (show (2147483587:Int)≠0 by decide);have m1:=Dm (if c < 0 then -c else c) (show (0:Int) < 2147483587 by decide);exact q l _ (ai (af.refl _) hl) hl ⟨_,_,ag,by omega,by omega⟩
def eG:Sp:=λvs H Q _=>∃(p:Addr) (n:Int),vs=[.ref p,.int n]/\E1 H p/\0 < n/\n < 1000/\∀r H',0<=r->r < n->E1 H' p->Kp [p] H H'->Q (.int r) H'
abbrev N59:List Str:=["_law_pot_here","_law_many","_law_digit_here"]
theorem qk:aH N59 ["_law_pot_here","_law_many"] (aC (top 59)):=⟨rfl,rfl,rfl,by decide +kernel,rfl,by decide +kernel,by decide +kernel⟩
theorem vX (F:EW K "_law_digit" "_law_digit" (top 59) f fd) (B:Bl mg):aD P w K mg base EU 1 f fd ["_law_pot_here","_law_many"] eG:=by
 refine F.ok qk (λvs H Q E h=>?_) (λ_ _ _ _ H vs Q E hr h=>?_)
 ·obtain⟨p,n,rfl,_⟩:=h
  rfl
 ·obtain⟨p,n,rfl,⟨a,b,hp,hb0,HB⟩,hn,QB,k⟩:=h
  refine⟨_,ak (aS (aB kr (ax aG (pv 0) am (λ_ _=>rfl)) am (aT _))
    (ak (aA (i:=2) qk.nd rfl (Or.inl rfl) (ba fT (ax aG (pv 0) am (λ_ _=>rfl)) (pv 1)))
    (ak (fq (ba oq (ax aG (pv 0) am (λ_ _=>rfl)) (pv 1)) (o5 (pv 0) am set_list))
     (ar (aM (pv 2))))) aV)
   (ak (fq (ba fT (ba dr (ba kq (ax aG (pv 0) am (λ_ _=>rfl)) am) am) am) (o5 (pv 0) am set_list))
   (ar (aM (ba fT (ba oq (ba fT (ba kq (ax aG (pv 0) am (λ_ _=>rfl)) (ax aG (pv 0) am (λ_ _=>rfl))) am) am) (pv 1))))),?_⟩
  have hS:Sq K H p [.int a,.int b]:=.inl (EF.of hp);refine⟨_,rfl,ay (j:=0) hS rfl rfl ⟨_,_,rfl,rfl,_,rfl,?_⟩⟩;refine aU (λc=>?_) (λc=>?_)
  ·refine⟨_,rfl,ay (j:=0) hS rfl rfl ⟨_,rfl,_,_,rfl,rfl,hn,?_⟩⟩
   refine⟨_,rfl,ay (j:=0) hS rfl rfl ⟨_,rfl,_,_,rfl,rfl,⟨hn,by omega⟩,_,rfl,p,[.int a,.int b],_,0,rfl,rfl,hp,rfl,?_⟩⟩;exact⟨_,rfl,k _ _ (DP _ (by omega)) (Dm _ hn) ⟨_,_,ag,hb0,HB⟩ ((Kp.refl _ _).inn (by simp))⟩
  ·refine⟨_,rfl,ay (j:=1) hS rfl rfl ⟨_,_,rfl,rfl,.inl ⟨by omega,by omega⟩,_,_,rfl,rfl,_,_,rfl,rfl,by show (0:Int) < 2147483647;decide,_,rfl,p,[.int a,.int b],_,1,rfl,rfl,hp,rfl,?_⟩⟩
   have m0:0<=(b * 39373 + 20011) % 2147483647:=DP _ (by decide);have m1:(b * 39373 + 20011) % 2147483647 < 2147483647:=Dm _ (by decide);have Il:Sq K (upd H p (.lst ([V.int a,V.int b].set 1 (.int ((b * 39373 + 20011) % 2147483647))))) p [.int a,.int ((b * 39373 + 20011) % 2147483647)]:=.inl (EF.of ag);refine⟨_,rfl,ay (j:=1) Il rfl rfl ⟨_,rfl,ay (j:=1) Il rfl rfl ⟨_,_,rfl,rfl,.inl ⟨by omega,by omega⟩,_,_,rfl,rfl,by show (0:Int) < 2147483563;decide,_,_,rfl,rfl,⟨by decide,by decide⟩,_,rfl,_,_,rfl,rfl,hn,?_⟩⟩⟩;exact k _ _ (DP _ (by omega)) (Dm _ hn) ⟨_,_,ag,m0,by omega⟩ ((Kp.refl _ _).inn (by simp))
structure LS (x:Str) (k:Nat):Prop where
 ex:∃u:List Nat,x.cps.toList=u++[97 + k]/\u.length<=3/\∀c∈u,97<=c/\c<=122
theorem LS.name {x:Str}{k:Nat} (h:LS x k) (hk:k < 26):aE x:=by
 obtain⟨u,e,hu,hc⟩:=h.ex;refine aE.of_codes e (by simp) (by simp;omega) λc hm=>?_
 rcases AO.mp hm with z | z
 ·exact hc c z
 ·have:c=97 + k:=by simpa using z
  omega
theorem LS.inj {x:Str}{k j:Nat} (h:LS x k) (h':LS x j):k=j:=by
 obtain⟨u,e,_⟩:=h.ex;obtain⟨u',e',_⟩:=h'.ex;rw [e] at e';have:=(List.append_inj' e' rfl).2;simp at this;omega
def six:Str:=Str.ofString "abmxyz"
theorem wD:∀r:_root_.Fin 6,∃c,six.cps.toList[r.val]?=some c/\97<=c/\c<=122:=by
 intro r
 match r with
 | ⟨0,_⟩=>exact⟨97,by show six.cps.toList[0]?=some 97;decide,by decide,by decide⟩
 | ⟨1,_⟩=>exact⟨98,by show six.cps.toList[1]?=some 98;decide,by decide,by decide⟩
 | ⟨2,_⟩=>exact⟨109,by show six.cps.toList[2]?=some 109;decide,by decide,by decide⟩
 | ⟨3,_⟩=>exact⟨120,by show six.cps.toList[3]?=some 120;decide,by decide,by decide⟩
 | ⟨4,_⟩=>exact⟨121,by show six.cps.toList[4]?=some 121;decide,by decide,by decide⟩
 | ⟨5,_⟩=>exact⟨122,by show six.cps.toList[5]?=some 122;decide,by decide,by decide⟩
theorem xN {r:Nat} (h:r < 6):∃c,six.cps.toList[r]?=some c/\97<=c/\c<=122:=wD ⟨r,h⟩
theorem v7:six.length<=sizeLine:=by decide
theorem sf (x:Str) (c:Nat):(x++(⟨#[c]⟩:Str)).cps.toList=x.cps.toList++[c]:=by
 rw [Str.cps_append,DX]
def oK:Sp:=λvs H Q _=>∃(p:Addr) (k:Nat),vs=[.ref p,.int k]/\E1 H p/\k < 26/\∀x H',LS x k->E1 H' p->Kp [p] H H'->Q (.str x) H'
abbrev N60:List Str:=["_law_pot_here","_law_k","_law_begin"]
theorem qr:aH N60 ["_law_pot_here","_law_k"] (aC (top 60)):=⟨rfl,rfl,rfl,by decide +kernel,rfl,by decide +kernel,by decide +kernel⟩
theorem w5 (F:EW K "_law_name" "_law_name" (top 60) f fd) (B:Bl mg) (Ft:Fn P w K mg base 1 "_law_digit" ["_law_pot_here","_law_many"] eG):aD P w K mg base EU 2 f fd ["_law_pot_here","_law_k"] oK:=by
 refine F.ok qr (λvs H Q E h=>?_) (λ_ _ _ _ H vs Q E hr h=>?_)
 ·obtain⟨p,k,rfl,_⟩:=h
  rfl
 ·obtain⟨p,kk,rfl,hp,hk,k⟩:=h
  refine⟨_,ak (aA (i:=2) qr.nd rfl (Or.inl rfl) (cH Dw DI DJ j9 dS (aa (aZ (N:=["_law_turn","_law_pot_here"]) (ix:=[none,some 0]) ⟨rfl,rfl,rfl,by decide⟩ rfl
      (di rfl B.range (aa (aq Ft hr (aa (pv 0) (aa am ae))) ae)) (λ_ _ _ _=>aF 0 (by decide) rfl rfl) (λ_ _ _ _=>bz)
      (λ_ _ _ _=>ax (bD K) dS (aq Ft hr (aa (pv 1) (aa am ae))) (λ_ _=>rfl))) ae)))
   (ar (aM (ba tF (pv 2) (ax aG dS (pv 1) (λ_ _=>rfl))))),?_⟩
  have hah:∀(cs:List Nat),(Txt.join (Str.ofString "") (cs.map λc=>(⟨#[c]⟩:Str))).length=cs.length:=λcs=>by
   rw [<- congrArg List.length (join_one cs)];simp [Str.length]
  have Ss:∀l:List Nat,((l.map λc=>(⟨#[c]⟩:Str)).map (·.length)).sum=l.length:=λl=>by
   induction l with
   | nil=>rfl
   | cons c r ih=>simp only [Bj,Eh,ih,Bv];show 1 + r.length=_;omega
  refine⟨rfl,_,rfl,p,4,rfl,hp,by decide,by decide,λr4 H4 a0 a1 P4 K4=>⟨_,rfl,by omega,by omega,?_⟩⟩;refine eQ (fits (by omega)) (λj ys σ H5=>(∃cs:List Nat,cs.length=j/\(∀c∈cs,97<=c/\c<=122)/\ys=cs.map λc=>V.str ⟨#[c]⟩)/\E1 H5 p/\Kp [p] H H5/\∃x,σ=[x,some (.ref p)])
   ⟨⟨[],rfl,by simp,rfl⟩,P4,K4,_,rfl⟩ (λj ys σ H5 _ q=>by obtain⟨⟨cs,rfl,_,rfl⟩,_⟩:=q;simp) ?_ ?_
  ·rintro j ys σ H5 hj ⟨⟨cs,rfl,HG,rfl⟩,P5,K5,v,rfl⟩
   refine⟨_,rfl,p,6,rfl,P5,by decide,by decide,λr H6 r0 r1 P6 K6=>?_⟩;obtain⟨c6,e6,l6,u6⟩:=xN (r:=r.toNat) (by omega);refine .inr (.inr ⟨six,r,c6,rfl,rfl,v7,fR (j:=r.toNat) (by omega) e6,⟨cs++[c6],by simp,λc hc=>?_,by simp⟩,P6,K5.trans K6,_,rfl⟩)
   rcases AO.mp hc with z | z
   ·exact HG c z
   ·have:c=c6:=by simpa using z
    omega
  rintro ys σ H5 ⟨⟨cs,EJ,HG,rfl⟩,P5,K5,v,rfl⟩ q hq;have hx:(Txt.join (Str.ofString "") (cs.map λc=>(⟨#[c]⟩:Str))).cps.toList=cs:=join_one cs;have Jx:(cs.map λc=>V.str ⟨#[c]⟩)=(cs.map λc=>(⟨#[c]⟩:Str)).map V.str:=by rw [Bf];rfl
  have Pl:=hah cs;have TZ:cs.length<=3:=by omega
  refine⟨Str.ofString "",q,cs.map λc=>(⟨#[c]⟩:Str),rfl,rfl,EF.of (by rw [ag,Jx]),?_,?_⟩
  ·have e0:(Str.ofString "").length=0:=by decide
   rw [Ss,e0];omega
  generalize Txt.join (Str.ofString "") (cs.map λc=>(⟨#[c]⟩:Str))=wd at hx Pl ⊢;have P6:=P5.new (o:=.lst (cs.map λc=>V.str ⟨#[c]⟩)) hq;have K6:=(K5.new (o:=.lst (cs.map λc=>V.str ⟨#[c]⟩)) hq)
  generalize upd H5 q (.lst (cs.map λc=>V.str ⟨#[c]⟩))=H6 at P6 K6 ⊢;refine⟨_,rfl,_,rfl,.inr (.inr ⟨eE,kk,97 + kk,rfl,rfl,jr,fR (j:=kk) rfl (ju hk),_,_,rfl,rfl,by rw [Br];show wd.length + 1<=_;omega,k _ H6 ⟨cs,by rw [sf,hx],TZ,HG⟩ P6 K6⟩)⟩
theorem lb {α:Type}:∀{l:List α}{i:Nat} (hi:i < l.length),l.Nodup->l[i]∉l.eraseIdx i
 | x::r,0,_,h=>by simpa using (Bc.mp h).1
 | x::r,i + 1,hi,h=>by
  have h':=Bc.mp h;have GP:i < r.length:=by simpa using hi
  rw [List.eraseIdx_cons_succ,List.getElem_cons_succ];intro q
  rcases AI.mp q with e | e
  ·exact h'.1 (e ▸ Bt GP)
  ·exact lb GP h'.2 e
theorem lH {α β:Type} (f:α->β):∀(l:List α) (i:Nat),(l.map f).eraseIdx i=(l.eraseIdx i).map f
 | [],i=>by simp
 | x::r,0=>rfl
 | x::r,i + 1=>by simp [lH f r i]
abbrev Le:=Addr×Str×Str
abbrev bQ (ET:List Le):List V:=ET.map λx=>V.ref x.1
structure cK (H:Hp) (fo:Addr) (ET:List Le):Prop where
 l:H fo=some (.lst (bQ ET))
 e:∀x∈ET,H x.1=some (.tup [.str x.2.1,.str x.2.2])
def NP (ps:List Str) (ET:List Le):Prop:=∀x∈ET,x.2.1∈ps/\x.2.2∈ps/\x.2.1≠x.2.2
theorem cK.same {H H':Hp}{fo:Addr}{ET:List Le} (h:cK H fo ET) (s:af H H'):cK H' fo ET:=⟨s _ _ h.l,λx hx=>s _ _ (h.e x hx)⟩
theorem cK.kp {H H':Hp}{p fo:Addr}{ET:List Le} (h:cK H fo ET) (hp:E1 H p) (n:fo≠p) (k:Kp [p] H H'):cK H' fo ET:=⟨k.at n h.l,λx hx=>k.tup hp (h.e x hx)⟩
def pF:Sp:=λvs H Q _=>∃(p pl:Addr) (root:Str) (ps:List Str),vs=[.ref p,.ref pl,.str root]/\E1 H p/\H pl=some (.lst (ps.map V.str))/\root∈ps/\ps.Nodup/\(∀x∈ps,aE x)/\ps.length<=8 /\
 ∀(q:Addr) (ET:List Le) (H':Hp),E1 H' p->cK H' q ET->NP ps ET->ET.length + 1<=ps.length->H q=none->Kp [p] H H'->Q (.ref q) H'
abbrev N61:List Str:=["_law_pot_here","_law_places","_law_root","_law_left","_law_there","_law_found","_law_begin","_law_end"]
theorem gf:aH N61 ["_law_pot_here","_law_places","_law_root"] (aC (top 61)):=⟨rfl,rfl,rfl,by decide +kernel,rfl,by decide +kernel,by decide +kernel⟩
theorem tY (F:EW K "_law_grown" "_law_grown" (top 61) f fd) (B:Bl mg) (Ft:Fn P w K mg base 1 "_law_digit" ["_law_pot_here","_law_many"] eG):aD P w K mg base EU 2 f fd ["_law_pot_here","_law_places","_law_root"] pF:=by
 refine F.ok gf (λvs H Q E h=>?_) (λ_ _ _ _ H vs Q E hr h=>?_)
 ·obtain⟨p,pl,root,ps,rfl,_⟩:=h
  rfl
 ·obtain⟨p,pl,root,ps,rfl,hp,Gu,EO,GM,Ql,p8,k⟩:=h
  refine⟨_,ak (dB (i:=3) (N:=["_law_place","_law_root"]) (ix:=[none,some 2]) gf.nd rfl (Or.inl rfl) ⟨rfl,rfl,rfl,by decide⟩ rfl (bv (pv 1)) (λ_ _ _ _=>aF 0 (by decide) rfl rfl) (λ_ _ _ _=>bL (aB cj (pv 0) (pv 1) (aT _))) (λ_ _ _ _=>pv 0))
   (ak (aA (i:=4) gf.nd rfl (Or.inl rfl) (bw (aa (pv 2) ae)))
   (ak (aA (i:=5) gf.nd rfl (Or.inl rfl) (bw ae))
   (ak (jR Bm (aB (fV hr) (pv 3) (bw ae) (aT _))
    (ak (aA (i:=6) gf.nd rfl (Or.inl rfl) (ax aG (pv 4) (aq Ft hr (aa (pv 0) (aa (au bb rfl B.len AY (aa (pv 4) ae)) ae))) (λ_ _=>rfl)))
    (ak (aA (i:=7) gf.nd rfl (Or.inl rfl) (cH Bo PySem.F.slot_list_pop PySem.F.type_list_pop vQ (pv 3) (aa (aq Ft hr (aa (pv 0) (aa (au bb rfl B.len AY (aa (pv 3) ae)) ae))) ae)))
    (ak (bg (cH Bo BB BC dj (pv 4) (aa (pv 7) ae)))
    (ar (bg (cH Bo BB BC dj (pv 5) (aa (cf (aa (pv 6) (aa (pv 7) ae))) ae))))))))
   (ar (aM (pv 5)))))),?_⟩
  refine⟨_,rfl,pl,rfl,⟨_,EF.of Gu⟩,fH (xs:=ps.map V.str) (fits (by simp;omega)) (λi ys σ H2=>ys=((ps.take i).filter λy=>!decide (y=root)).map V.str/\H2=H/\∃v,σ=[v,some (.str root)]) ⟨rfl,rfl,_,rfl⟩
   (λi ys σ H2 _ q=>⟨by rw [q.1,Av];exact AV (AL _ _) (by simp;omega),by rw [q.2.1];exact EF.of Gu⟩) ?_ ?_⟩
  ·rintro i y ys σ H2 hy ⟨rfl,rfl,v,rfl⟩
   rw [AH] at hy;cases hc:ps[i]? with
   | none=>rw [hc] at hy;cases hy
   | some z =>
    rw [hc] at hy;cases hy;have tf:=bH (λz:Str=>!decide (z=root)) ps i z hc;refine⟨_,rfl,_,rfl,rfl,_,rfl,?_⟩;have e:(!decide (V.str z=V.str root))=!decide (z=root):=by simp
    rw [e];refine aU (λc=>⟨_,rfl,?_,rfl,_,rfl⟩) (λc=>⟨?_,rfl,_,rfl⟩)
    ·rw [tf,c];simp
    ·rw [tf];simp only [BA] at c;rw [c];simp
  rintro ys σ H2 ⟨rfl,rfl,v,rfl⟩ l hl;rw [take_all ps (by simp)];have Rw:=hp.ne_new hl;have Wn:∀x∈ps.filter (λy=>!decide (y=root)),x∈ps/\x∉[root]:=λx hx=>by
   obtain⟨a,b⟩:=AM.mp hx;exact⟨a,by simpa using b⟩
  have Ig:(ps.filter λy=>!decide (y=root)).Nodup:=GM.filter _;have GQ:(ps.filter λy=>!decide (y=root)).length + 1<=ps.length:=by
   have q:(ps.filter λy=>!decide (y=root)).length < ps.length:=by
    refine B8.mpr ⟨root,EO,by simp⟩
   omega
  generalize ps.filter (λy=>!decide (y=root))=Mq at GQ Wn Ig ⊢;have p2:=hp.new (o:=.lst (Mq.map V.str)) hl;have K2:=(Kp.refl [p] H2).new (o:=.lst (Mq.map V.str)) hl;have l2:upd H2 l (.lst (Mq.map V.str)) l=some (.lst (Mq.map V.str)):=ag;generalize upd H2 l (.lst (Mq.map V.str))=H3 at p2 K2 l2 ⊢;refine⟨_,rfl,by show 1<=sizeLine;decide,λd hd=>?_⟩;have RD:=p2.ne_new hd;have Rx:l≠d:=aR l2 hd;have Pe:=K2.free1 p2 hd;have p3:=p2.new (o:=.lst [.str root]) hd;have K3:=K2.new (o:=.lst [.str root]) hd;have d3:upd H3 d (.lst [.str root]) d=some (.lst ([root].map V.str)):=ag;have l3:upd H3 d (.lst [.str root]) l=some (.lst (Mq.map V.str)):=by rw [ao Rx];exact l2
  generalize upd H3 d (.lst [.str root])=H3' at p3 K3 d3 l3 ⊢;refine⟨Be _,λfo FF=>?_⟩;have Hh:=p3.ne_new FF;have Ry:fo≠d:=(aR d3 FF).symm;have Kl:fo≠l:=(aR l3 FF).symm;have G9:=K3.free1 p3 FF
  refine⟨λm σ H4=>∃(ds ls:List Str) (ET:List Le) (g g':Option V),σ=[some (.ref p),some (.ref pl),some (.str root),some (.ref l),some (.ref d),some (.ref fo),g,g']/\ls.length=m/\E1 H4 p/\Kp [p] H2 H4/\H4 d=some (.lst (ds.map V.str))/\H4 l=some (.lst (ls.map V.str))/\cK H4 fo ET/\NP ps ET/\ET.length + ls.length + 1<=ps.length/\ds.length=ET.length + 1/\(∀x∈ds,x∈ps)/\(∀x∈ls,x∈ps/\x∉ds)/\ls.Nodup,
   ⟨_,[root],Mq,[],none,none,rfl,rfl,p3.new FF,K3.new FF,by rw [ao Ry.symm];exact d3,by rw [ao Kl.symm];exact l3,⟨ag,by simp⟩,(by intro x hx;simp at hx),by simp;omega,rfl,by simpa using EO,Wn,Ig⟩,?_⟩
  rintro m σ H4 ⟨ds,ls,ET,g,g',rfl,rfl,P4,K4,D4,L4,A4,Gq,hn,ND,NF,Gg,Wf⟩;refine⟨_,rfl,Be _,λe he=>?_⟩;have u4:=ai (o:=.lst []) (af.refl H4) he;have e1:upd H4 e (.lst []) e=some (.lst []):=ag;have P5:=P4.new (o:=.lst []) he;have K5:=K4.new (o:=.lst []) he;generalize upd H4 e (.lst [])=H5 at u4 e1 P5 K5 ⊢;have L5:=u4 _ _ L4;have D5:=u4 _ _ D4;have A5:=A4.same u4;refine⟨.list (ls.map PyData.str),.list [],.lst L5 (Gi.strs ls),.lst e1 .nil,(dM λx hx=>Ql x (Gg x hx).1).1,(dM (ss:=[]) (by simp)).1,_,rfl,?_⟩;have ev:PyData.eqv (.list (ls.map PyData.str)) (.list [])=decide (ls=[]):=fD ls [];rw [ev];refine aU (λc=>?_) (λc=>?_)
  ·have EZ:ls≠[]:=by simpa using c
   have QC:0 < ls.length:=by cases ls with | nil=>exact absurd rfl EZ | cons _ _=>simp
   refine⟨λσ' H'=>∃m',m' < ls.length/\∃(ds ls:List Str) (ET:List Le) (g g':Option V),σ'=[some (.ref p),some (.ref pl),some (.str root),some (.ref l),some (.ref d),some (.ref fo),g,g']/\ls.length=m'/\E1 H' p/\Kp [p] H2 H'/\H' d=some (.lst (ds.map V.str))/\H' l=some (.lst (ls.map V.str))/\cK H' fo ET/\NP ps ET/\ET.length + ls.length + 1<=ps.length/\ds.length=ET.length + 1/\(∀x∈ds,x∈ps)/\(∀x∈ls,x∈ps/\x∉ds)/\ls.Nodup,λσ' H' q=>q,?_⟩;refine⟨_,rfl,_,rfl,_,rfl,d,_,rfl,.inl (EF.of D5),p,_,rfl,P5,by rw [Av];omega,by rw [Av];omega,λj H9 j0 j1 P9 K9=>?_⟩;rw [Av] at j1;have FK:j.toNat < ds.length:=by omega
   have D9:=K9.at RD D5;have L9:=K9.at Rw L5;have A9:=A5.kp P5 Hh K9;have K09:=K5.trans K9;refine ay (j:=j.toNat) (.inl (EF.of D9)) (by omega) (strAt FK) ?_;have T7:ds[j.toNat]∈ds:=Bt FK;generalize ds[j.toNat]=a at T7 ⊢;refine⟨_,rfl,.inl ⟨rfl,_,EF.of L9⟩,_,rfl,_,rfl,l,_,rfl,.inl (EF.of L9),p,_,rfl,P9,by rw [Av];omega,by rw [Av];omega,λi H6 i0 i1 P6 K6=>?_⟩;rw [Av] at i1;have L6:=K6.at Rw L9;have D6:=K6.at RD D9;have A6:=A9.kp P9 Hh K6;have K06:=K09.trans K6;have Gx:i.toNat < ls.length:=by omega
   refine⟨l,ls.map V.str,i,i.toNat,.str ls[i.toNat],rfl,rfl,L6,by omega,by omega,seqIndex_of i0 (by rw [Av];omega),strAt Gx,?_⟩;have Qv:=Gg _ (Bt Gx);have TH:(ls.eraseIdx i.toNat).length + 1=ls.length:=by rw [DO,if_pos Gx];omega
   have Fq:∀x∈ls.eraseIdx i.toNat,x∈ls:=λx hx=>List.mem_of_mem_eraseIdx hx;have SV:ls[i.toNat]∉ls.eraseIdx i.toNat:=lb Gx Wf;have Hv:(ls.eraseIdx i.toNat).Nodup:=Wf.sublist (List.eraseIdx_sublist _ _);have em:(ls.map V.str).eraseIdx i.toNat=(ls.eraseIdx i.toNat).map V.str:=lH _ _ _;rw [em];generalize ls[i.toNat]=z at Qv SV ⊢;generalize ls.eraseIdx i.toNat=Jl at TH Fq SV Hv ⊢;have P7:=P6.upd (o:=.lst (Jl.map V.str)) Rw;have K7:Kp [p] H2 (upd H6 l (.lst (Jl.map V.str))):=λb o q nb=>by rw [ao (aR q hl)];exact K06 b o q nb
   have L7:upd H6 l (.lst (Jl.map V.str)) l=some (.lst (Jl.map V.str)):=ag;have D7:upd H6 l (.lst (Jl.map V.str)) d=some (.lst (ds.map V.str)):=by rw [ao Rx.symm];exact D6
   have A7:cK (upd H6 l (.lst (Jl.map V.str))) fo ET:=⟨by rw [ao Kl];exact A6.l,λx hx=>by rw [ao (tup_ne (A6.e x hx) L6)];exact A6.e x hx⟩
   generalize upd H6 l (.lst (Jl.map V.str))=H7 at P7 K7 L7 D7 A7 ⊢;refine⟨_,rfl,.inl ⟨rfl,_,EF.of D7⟩,_,rfl,d,ds.map V.str,.str z,rfl,rfl,D7,fits (by simp;omega),?_⟩;have P8:=P7.upd (o:=.lst (ds.map V.str++[.str z])) RD;have K8:Kp [p] H2 (upd H7 d (.lst (ds.map V.str++[.str z]))):=λb o q nb=>by rw [ao (aR q Pe)];exact K7 b o q nb
   have D8:upd H7 d (.lst (ds.map V.str++[.str z])) d=some (.lst ((ds++[z]).map V.str)):=by rw [ag,AU];rfl
   have L8:upd H7 d (.lst (ds.map V.str++[.str z])) l=some (.lst (Jl.map V.str)):=by rw [ao Rx];exact L7
   have A8:cK (upd H7 d (.lst (ds.map V.str++[.str z]))) fo ET:=⟨by rw [ao Ry];exact A7.l,λx hx=>by rw [ao (tup_ne (A7.e x hx) D7)];exact A7.e x hx⟩
   generalize upd H7 d (.lst (ds.map V.str++[.str z]))=H8 at P8 K8 D8 L8 A8 ⊢;refine⟨_,rfl,.inl ⟨rfl,_,EF.of A8.l⟩,_,rfl,_,rfl,by show 2<=sizeLine;decide,λn hn=>?_⟩;have u9:=ai (o:=.tup [.str a,.str z]) (af.refl H8) hn;have n9:upd H8 n (.tup [.str a,.str z]) n=some (.tup [.str a,.str z]):=ag;have Hk:=P8.new (o:=.tup [.str a,.str z]) hn;have IU:=K8.new (o:=.tup [.str a,.str z]) hn;generalize upd H8 n (.tup [.str a,.str z])=E5 at u9 n9 Hk IU ⊢;have J7:=A8.same u9;have D10:=u9 _ _ D8;have KP:=u9 _ _ L8;refine⟨fo,bQ ET,.ref n,rfl,rfl,J7.l,fits (by rw [Av];omega),?_⟩;have NO:=Hk.upd (o:=.lst (bQ ET++[.ref n])) Hh;have LU:Kp [p] H2 (upd E5 fo (.lst (bQ ET++[.ref n]))):=λb o q nb=>by rw [ao (aR q G9)];exact IU b o q nb
   have PR:cK (upd E5 fo (.lst (bQ ET++[.ref n]))) fo (ET++[(n,a,z)]):=⟨by rw [ag];simp [bQ],λx hx=>by
    rcases AO.mp hx with q | q
    ·rw [ao (tup_ne (J7.e x q) J7.l)];exact J7.e x q
    ·have e:x=(n,a,z):=(by simpa using q)
     subst e;show upd E5 fo _ n=_
     rw [ao (tup_ne n9 J7.l)];exact n9⟩
   have D11:upd E5 fo (.lst (bQ ET++[.ref n])) d=some (.lst ((ds++[z]).map V.str)):=by rw [ao Ry.symm];exact D10
   have PM:upd E5 fo (.lst (bQ ET++[.ref n])) l=some (.lst (Jl.map V.str)):=by rw [ao Kl.symm];exact KP
   refine⟨Jl.length,by omega,ds++[z],Jl,ET++[(n,a,z)],_,_,rfl,rfl,NO,LU,D11,PM,PR,?_,by simp;omega,by simp;omega,?_,?_,Hv⟩
   ·intro x hx
    rcases AO.mp hx with q | q
    ·exact Gq x q
    ·have e:x=(n,a,z):=by simpa using q
     subst e;exact⟨NF a T7,Qv.1,λq=>Qv.2 ((show a=z from q) ▸ T7)⟩
   ·intro y hy
    rcases AO.mp hy with q | q
    ·exact NF y q
    ·have e:y=z:=by simpa using q
     subst e;exact Qv.1
   ·intro y hy
    have q:=Gg y (Fq y hy);refine⟨q.1,λhm=>?_⟩
    rcases AO.mp hm with w' | w'
    ·exact q.2 w'
    ·have e:y=z:=by simpa using w'
     subst e;exact SV hy
  ·exact⟨_,rfl,k fo ET H5 P5 A5 Gq (by omega) G9 K5⟩
theorem xH {ET:List Le}{i:Nat}{x:V} (h:(bQ ET)[i]?=some x):∃r,ET[i]?=some r/\x=.ref r.1:=by
 unfold bQ at h;rw [AH] at h;cases e:ET[i]? with
 | none=>rw [e] at h;cases h
 | some r=>rw [e] at h;exact⟨r,rfl,(Bx h).symm⟩
theorem Kp.upd0 {P:List Addr}{H H1:Hp}{q:Addr}{o:HO} (a:Kp P H H1) (hq:H q=none):Kp P H (upd H1 q o):=λc ob h n=>by rw [ao (aR h hq)];exact a c ob h n
def KO (ns:List Str):Prop:=∀j x,ns[j]?=some x->LS x j
theorem KO.name {ns:List Str} (D:KO ns) (hz:ns.length<=26):∀x∈ns,aE x:=λx hx=>by
 obtain⟨j,hj⟩:=BS hx;have FK:=(AE.mp hj).1;exact (D j x hj).name (by omega)
theorem KO.nodup {ns:List Str} (D:KO ns):ns.Nodup:=by
 refine Bb.mpr λi j hi hj FW e=>?_;have h1:=D i _ (AD hi);have h2:=D j _ (AD hj);rw [<- e] at h2;have:=h1.inj h2;omega
theorem KO.add {ns:List Str}{x:Str} (D:KO ns) (h:LS x ns.length):KO (ns++[x]):=λj y hj=>by
 by_cases hl:j < ns.length
 ·rw [By hl] at hj
  exact D j y hj
 ·rw [BQ (by omega)] at hj
  have Z4:j - ns.length=0:=by
   have:=(AE.mp hj).1;simp at this;omega
  rw [Z4] at hj;have ey:x=y:=by simpa using hj
  subst ey;have ej:j=ns.length:=by omega
  subst ej;exact h
theorem yT (xs:List V):cA xs none (some 26)=xs.take 26:=by
 unfold cA;rw [HT.Ag,show (26:Int)=((26:Nat):Int) from rfl,HT.Ai];rw [List.drop_zero,Nat.sub_zero]
 rcases Nat.le_total 26 xs.length with h | h
 ·rw [Nat.min_eq_left h]
 ·rw [Nat.min_eq_right h,B6,List.take_of_length_le h]
end K93
namespace K93
open PySem L2 PySem.Spec PyProof.Rows
theorem snoc_ind {P:List Str->Prop} (h0:P []) (hs:∀l x,P l->P (l++[x])):∀l,P l:=by
 have q:∀(l pre:List Str),P pre->P (pre++l):=by
  intro l
  induction l with
  | nil=>intro pre hp;simpa using hp
  | cons x r ih =>
   intro pre hp;have:=ih (pre++[x]) (hs pre x hp);simpa using this
 intro l;simpa using q l [] h0
def subs (ps:List Str):List (List Str):=ps.foldl (λf p=>f++f.map λl=>l++[p]) [[]]
theorem fg (ps:List Str) (p:Str):subs (ps++[p])=subs ps++(subs ps).map λl=>l++[p]:=by
 unfold subs;rw [List.foldl_append];rfl
theorem uw:∀ps:List Str,∃r,subs ps=[]::r:=snoc_ind ⟨[],rfl⟩ λl x h=>by
 obtain⟨r,e⟩:=h;rw [fg,e];exact⟨_,rfl⟩
theorem jP:∀ps:List Str,(subs ps).length=2 ^ ps.length:=snoc_ind rfl λl x h=>by
 rw [fg,Ba,Av,h,Ba,List.length_singleton,Nat.pow_succ];omega
theorem iI:∀ps:List Str,∀l∈subs ps,l.Sublist ps:=snoc_ind (λl h=>by
  have e:l=[]:=by simpa [subs] using h
  subst e;exact Eo _) λps x h l hl=>by
 rw [fg] at hl
 rcases AO.mp hl with z | z
 ·exact (h l z).trans (List.sublist_append_left _ _)
 ·obtain⟨m,hm,rfl⟩:=AG.mp z
  exact (h m hm).append (Eo _)
theorem lx:∀ps:List Str,ps.Nodup->(subs ps).Nodup:=snoc_ind (λ_=>by simp [subs]) λps x h hn=>by
 have IS:=BF.mp hn;have hx:x∉ps:=λz=>IS.2.2 x z x (by simp) rfl;have ih:=h IS.1;rw [fg];refine BF.mpr ⟨ih,?_,λa ha b hb=>?_⟩
 ·exact Ca.mpr (ih.imp λ{a b} He z=>He (List.append_cancel_right z))
 ·obtain⟨m,hm,rfl⟩:=AG.mp hb
  intro z;exact hx ((iI ps a ha).subset (by rw [z];simp))
def aL (ps:List Str):List (List Str):=(subs ps).tail
theorem fN (ps:List Str):subs ps=[]::aL ps:=by
 obtain⟨r,e⟩:=uw ps;unfold aL;rw [e];rfl
theorem il {ps:List Str} (h:ps.Nodup):(aL ps).Nodup:=by
 have q:=lx ps h;rw [fN] at q;exact (Bc.mp q).2
theorem iC (ps:List Str):(aL ps).length + 1=2 ^ ps.length:=by
 have q:=jP ps;rw [fN] at q;simpa using q
theorem vI {ps l:List Str} (h:l∈aL ps):l.Sublist ps:=iI ps l (by rw [fN];exact AN _ h)
theorem iV {n:Nat} (h:n<=8):2 ^ n<=256:=by
 have:=DQ (show 0 < 2 by decide) h;simpa using this
theorem nW (bt:Nat->Nat->Bool):∀k,argBest bt k<=k
 | 0=>AF _
 | k + 1=>by
  unfold argBest;split
  ·exact AF _
  ·exact Nat.le_succ_of_le (nW bt k)
theorem mE (bt:Nat->Nat->Bool) (c:Nat->Int) (h1:∀i j,bt i j=true->c i<=c j) (h2:∀i j,bt i j=false->c j<=c i):∀k j,j<=k->c (argBest bt k)<=c j
 | 0,j,hj=>by
  have e:j=0:=by omega
  subst e;exact Int.le_refl _
 | k + 1,j,hj=>by
  have ih:=mE bt c h1 h2 k;unfold argBest;cases e:bt (k + 1) (argBest bt k) with
  | true =>
   rw [if_pos rfl];have q:=h1 _ _ e
   by_cases hk:j=k + 1
   ·subst hk;exact Int.le_refl _
   ·exact Int.le_trans q (ih j (by omega))
  | false =>
   rw [if_neg AX];have q:=h2 _ _ e
   by_cases hk:j=k + 1
   ·subst hk;exact q
   ·exact ih j (by omega)
def dX (ns:List Int):Int:=ns.getD (argBest (λi j=>decide (ns.getD i 0 < ns.getD j 0)) (ns.length - 1)) 0
theorem v6 {ns:List Int} (h:ns≠[]):dX ns∈ns:=by
 have hp:0 < ns.length:=by cases ns with | nil=>exact absurd rfl h | cons _ _=>simp
 have hb:=nW (λi j=>decide (ns.getD i 0 < ns.getD j 0)) (ns.length - 1);unfold dX;rw [Bs,AD (by omega)];exact Bt _
theorem oP {ns:List Int}{x:Int} (h:x∈ns):dX ns<=x:=by
 obtain⟨j,hj,rfl⟩:=Cw.mp h;have q:=mE (λi j=>decide (ns.getD i 0 < ns.getD j 0)) (λi=>ns.getD i 0) (λi j h=>by have:=of_decide_eq_true h;omega) (λi j h=>by have:=of_decide_eq_false h;omega) (ns.length - 1) j (by omega);unfold dX;have e:ns.getD j 0=ns[j]:=by rw [Bs,AD hj];rfl
 rw [e] at q;exact q
theorem tV {X:Cx} (hc:X.calm=true):bJ X (.builtin "min") (λxs H Q=>∃(p:Addr) (ns:List Int),xs=[.ref p]/\EF X.K H p (ns.map V.int)/\ns≠[]/\Q (.int (dX ns)) H):=by
 intro pins s σ H xs us Q I r h;obtain⟨p,ns,rfl,hq,EZ,q⟩:=h;obtain⟨u,rfl,rx⟩:=vals1 r;cases rx;obtain⟨EE,r',pl,hz⟩:=I.list hq;have EJ:=r'.length;rw [Av] at EJ;have Ku:0 < ns.length:=by cases ns with | nil=>exact absurd rfl EZ | cons _ _=>simp
 have JB:∀(i:Nat) (v:zz9),EE.toArray[i]?=some v->∃t,v=Value.int (ns.getD i 0) t:=λi v hv=>by
  have HY:EE[i]?=some v:=by simpa using hv
  have hi:i < ns.length:=by rw [EJ];exact (AE.mp HY).1
  have e1:(ns.map V.int)[i]?=some (V.int ns[i]):=by rw [AH,AD hi];rfl
  obtain⟨w',e2,GC⟩:=r'.get e1;rw [HY] at e2;cases e2;obtain⟨t,e⟩:=GC;exact⟨t,by rw [e,Bs,AD hi];rfl⟩
 refine rJ (λi j=>decide (ns.getD i 0 < ns.getD j 0)) (I.ok.hd hc) pl.isList (by rw [AR];omega) (λi j x y G tk Q' E' hk hx hy hQ=>?_) λv G tk hv hk=>?_
 ·obtain⟨t,rfl⟩:=JB i x hx
  obtain⟨t',rfl⟩:=JB j y hy;exact HT.Ah _ _ _ _ _ _ _ _ _ _ hQ
 ·obtain⟨t,rfl⟩:=JB _ v hv
  rw [AR,<- EJ];exact⟨.int (dX ns),H,I.kept hk,⟨t,rfl⟩,q⟩
abbrev ah (N4:List (Addr×List Str)):List V:=N4.map λx=>V.ref x.1
theorem cz {lr:List (Addr×List Str)}{i:Nat}{x:V} (h:(ah lr)[i]?=some x):∃r,lr[i]?=some r/\x=.ref r.1:=by
 unfold ah at h;rw [AH] at h;cases e:lr[i]? with
 | none=>rw [e] at h;cases h
 | some r=>rw [e] at h;exact⟨r,rfl,(Bx h).symm⟩
def aJ (H:Hp) (lts:List (Addr×List Str)):Prop:=∀x∈lts,H x.1=some (.tup (x.2.map V.str))
theorem aJ.same {H H':Hp}{lts:List (Addr×List Str)} (h:aJ H lts) (s:af H H'):aJ H' lts:=λx hx=>s _ _ (h x hx)
theorem aJ.app {H:Hp}{a b:List (Addr×List Str)} (h:aJ H a) (g:aJ H b):aJ H (a++b):=λx hx=>(AO.mp hx).elim (h x) (g x)
theorem aJ.one {H:Hp}{t:Addr}{ls:List Str} (h:H t=some (.tup (ls.map V.str))):aJ H [(t,ls)]:=λx hx=>by
 have e:x=(t,ls):=by simpa using hx
 subst e;exact h
theorem og {H:Hp}{a b:Addr}{ss ts:List Str} (ha:H a=some (.tup (ss.map V.str))) (hb:H b=some (.tup (ts.map V.str))) (e:a=b):ss=ts:=by
 rw [e,hb] at ha;have:=HO.tup.inj (Bx ha);exact ((List.map_inj_right (λx y h=>V.str.inj h)).mp this).symm
def nO (K:zz7):R2:=λx y H Q=>∃(a p:Addr) (ss:List Str) (lts:List (Addr×List Str)),x=.ref a/\y=.ref p/\H a=some (.tup (ss.map V.str))/\(∀z∈ss,aE z)/\EF K H p (ah lts)/\aJ H lts/\(∀l∈lts,∀z∈l.2,aE z)/\Q (.bl (!decide (ss∈lts.map (·.2)))) H
theorem uu {X:Cx}{k:Nat} (hr:aQ k X.A):FG X (compareOp .NotIn) (nO X.K):=by
 intro pins s σ H x y v u Q I rx ry h;obtain⟨a,p,ss,lts,rfl,rfl,ha,hs,hq,hL,hn,q⟩:=h;cases rx;cases ry;obtain⟨EE,r',pl,hz⟩:=I.list hq;have Zv:=hr.un;obtain⟨as,r1⟩:=(DV.tup ha (Gi.strs _)).reads I.hok (show RelV (.ref a) (Value.ref a) from rfl);have item:∀(i:Nat) (v:zz9),EE[i]?=some v->∃l,lts[i]?=some l/\v=Value.ref l.1:=λi v hv=>by
  have EJ:=r'.length;rw [Av] at EJ;have hi:i < lts.length:=by rw [EJ];exact (AE.mp hv).1
  have e1:(ah lts)[i]?=some (V.ref lts[i].1):=by rw [AH,AD hi];rfl
  obtain⟨w',e2,GC⟩:=r'.get e1;rw [hv] at e2;cases e2;exact⟨lts[i],AD hi,GC⟩
 have data:∀y∈EE,∃l∈lts,y=Value.ref l.1:=λy hy=>by
  obtain⟨i,hi⟩:=BS hy;obtain⟨l,h1,h2⟩:=item i y hi;exact⟨l,AB h1,h2⟩
 let e:zz9->Bool:=λy=>match y with | .ref c=>lts.any λl=>decide (l.1=c) && decide (l.2=ss) | _=>false
 have ee:∀c,e (.ref c)=true ↔ ∃l∈lts,l.1=c/\l.2=ss:=λc=>by
  show (lts.any λl=>decide (l.1=c) && decide (l.2=ss))=true ↔ _;rw [DB];simp only [BL,decide_eq_true_eq]
 refine SeqAt.notIn_listAt e pl.isList (λy hy=>?_) ?_
 ·obtain⟨l,hl,rfl⟩:=data y (by simpa using hy)
  have el:e (.ref l.1)=decide (l.2=ss):=by
   rw [Cb,ee,decide_eq_true_iff];constructor
   ·rintro⟨m,hm,em,es⟩
    rw [og (hL l hl) (hL m hm) em.symm];exact es
   ·exact λq=>⟨l,hl,rfl,q⟩
  rw [el]
  by_cases He:l.1=a
  ·rw [decide_eq_true (og (hL l hl) ha He),He]
   exact SeqAt.EqAt.same _
  ·refine SeqAt.EqAt.of_refs He λprog w E Q hq=>?_
   obtain⟨bs,r2⟩:=(DV.tup (hL l hl) (Gi.strs _)).reads I.hok (show RelV (.ref l.1) (Value.ref l.1) from rfl);have ev:PyData.eqv (.tuple (l.2.map PyData.str)) (.tuple (ss.map PyData.str))=decide (l.2=ss):=fD _ _;refine (eq_dataH (A:=X.A.in1) r2 r1 (dM (hn l hl)).2 (dM hs).2 (by show X.A.units + 1 + 64 < cLine;omega) ?_:wpAny (model prog w) X.A.in1 (compareOp .Eq (.ref l.1) (.ref a)) Q E _);rw [ev];exact hq
 ·have ea:EE.toArray.any e=decide (ss∈lts.map (·.2)):=by
   rw [Cb,List.any_toArray,DB,decide_eq_true_iff];constructor
   ·rintro⟨y,hy,ey⟩
    obtain⟨m,hm,rfl⟩:=data y hy;obtain⟨l,hl,_,es⟩:=(ee _).mp ey;exact es ▸ AC hl
   ·intro hm
    obtain⟨l,hl,es⟩:=AG.mp hm;obtain⟨i,hi⟩:=BS hl;obtain⟨w',e2,GC⟩:=r'.get (show (ah lts)[i]?=some (V.ref l.1) by rw [AH,hi];rfl);cases GC;exact⟨_,AB e2,(ee _).mpr ⟨l,hl,rfl,es⟩⟩
  rw [ea];exact⟨V.bl (!decide (ss∈lts.map (λz:Addr×List Str=>z.2))),H,I,rfl,q⟩
theorem mB (K:zz7) {X:Cx} (h:X.K=K:=by rfl):FG X (binaryOp .Add) (pY K):=by subst h;exact jV
theorem lq (x:V) (r:List V):cA (x::r) (some 1) none=r:=by
 unfold cA;simp [HT.sIx]
variable {P:Program}{w:World}{K:zz7}{mg:Str->Option zz9}{base:Heap}{f:Addr}{fd:FuncData}
def jL:Sp:=λvs H Q _=>∃(pa:Addr) (ps:List Str),vs=[.ref pa]/\(H pa=some (.lst (ps.map V.str))\/H pa=some (.tup (ps.map V.str)))/\ps.length<=8 /\
 ∀(q:Addr) (lts:List (Addr×List Str)) (H':Hp),af H H'->H' q=some (.lst (ah lts))->aJ H' lts->lts.map (·.2)=aL ps->Q (.ref q) H'
theorem je:aH ["places","lots","place"] ["places"] (aC (top 35)):=⟨rfl,rfl,rfl,by decide +kernel,rfl,by decide +kernel,by decide +kernel⟩
theorem qU (F:EW K "lots_among" "lots_among" (top 35) f fd) (B:Bl mg):aD P w K mg base EU 1 f fd ["places"] jL:=by
 refine F.ok je (λvs H Q E h=>?_) (λ_ _ _ _ H vs Q E hr h=>?_)
 ·obtain⟨pa,ps,rfl,_⟩:=h
  rfl
 ·obtain⟨pa,ps,rfl,hp,p8,k⟩:=h
  refine⟨_,ak (aA (i:=1) je.nd rfl (Or.inl rfl) (bw (aa (cf ae) ae)))
   (ak (bZ Bm rfl (i6 (bv (pv 0)) (bC (pv 0))) (bc (i:=2) je.nd rfl (Or.inr rfl))
    (ar (aA (i:=1) je.nd rfl (Or.inl rfl) (ba dF (pv 1) (aZ (N:=["lot","place"]) (ix:=[none,some 2]) ⟨rfl,rfl,rfl,by decide⟩ rfl (bv (pv 1)) (λ_ _ _ _=>aF 0 (by decide) rfl rfl) (λ_ _ _ _=>bz)
     (λ_ _ _ _=>ba (mB K) (pv 0) (cf (aa (pv 1) ae))))))))
   (ar (aM (fh fM (pv 1) (fk am) fj)))),?_⟩
  refine⟨Be _,λe0 JE=>⟨by show 1<=sizeLine;decide,λf0 MZ=>?_⟩⟩;have s0:=ai (o:=.lst [.ref e0]) (ai (o:=.tup []) (af.refl H) JE) MZ;have E0:upd (upd H e0 (.tup [])) f0 (.lst [.ref e0]) e0=some (.tup ((([]:List Str)).map V.str)):=by
   rw [ao (λz=>by rw [<- z,ag] at MZ;cases MZ),ag];rfl
  have F0:upd (upd H e0 (.tup [])) f0 (.lst [.ref e0]) f0=some (.lst (ah [(e0,[])])):=ag;generalize upd (upd H e0 (.tup [])) f0 (.lst [.ref e0])=H0 at s0 E0 F0 ⊢;refine jK (K:=K) (Hb:=H) (a:=pa) (xs:=ps.map V.str) (λQ q=>⟨_,rfl,q⟩) hp s0 (λi σ H1=>af H H1/\∃(fo:Addr) (lts:List (Addr×List Str)) (g:Option V),σ=[some (.ref pa),some (.ref fo),g]/\H1 fo=some (.lst (ah lts))/\aJ H1 lts/\lts.map (·.2)=subs (ps.take i))
   ⟨s0,f0,[(e0,[])],none,rfl,F0,aJ.one E0,rfl⟩ (λi σ H1 _ q=>q.1) ?_ ?_
  ·rintro i x σ H1 hx ⟨s1,fo,lts,g,rfl,F1,A1,e1⟩
   rw [AH] at hx;cases hc:ps[i]? with
   | none=>rw [hc] at hx;cases hx
   | some pl =>
    rw [hc] at hx;cases hx;have hi:i < ps.length:=(AE.mp hc).1;have EJ:lts.length<=256:=by
     have q:=congrArg List.length e1;rw [Av,jP] at q;rw [q];exact iV (by rw [AW];omega)
    have RW:∀x∈lts,x.2.length<=8:=λx hx=>by
     have q:=(iI (ps.take i) x.2 (by rw [<- e1];exact AC hx)).length_le;rw [AW] at q;omega
    refine⟨_,rfl,_,rfl,fo,rfl,⟨_,EF.of F1⟩,c9 (xs:=ah lts) (fits (by rw [Av];omega)) (λj ys σ H2=>(∃qs:List (Addr×List Str),ys=ah qs/\aJ H2 qs/\qs.map (·.2)=((lts.take j).map (·.2)).map λl=>l++[pl])/\af H1 H2/\∃v,σ=[v,some (.str pl)])
     ⟨⟨[],rfl,by simp [aJ],rfl⟩,af.refl _,_,rfl⟩ (λj ys σ H2 _ q=>?_) ?_ ?_⟩
    ·obtain⟨⟨qs,rfl,_,e⟩,s2,_⟩:=q
     have q:=congrArg List.length e;simp only [Av,AW] at q;exact⟨by rw [Av];omega,EF.of (s2 _ _ F1)⟩
    ·rintro j y ys σ H2 hy ⟨⟨qs,rfl,A2,e2⟩,s2,v,rfl⟩
     obtain⟨lt,EM,rfl⟩:=cz hy;have hm:=AB EM;refine⟨_,rfl,_,rfl,by show 1<=sizeLine;decide,λt ht=>?_⟩;have s3:=ai (o:=.tup [.str pl]) s2 ht;have Iv:=ai (o:=.tup [.str pl]) (af.refl H2) ht;have t3:upd H2 t (.tup [.str pl]) t=some (.tup ([pl].map V.str)):=ag;generalize upd H2 t (.tup [.str pl])=H3 at s3 Iv t3 ⊢;have hz:=RW lt hm;have Pt:∀z,qs.map (·.2)++[z]=((lts.take j).map (·.2)).map (λl=>l++[pl])++[z]:=λz=>by rw [e2]
     have Pr:((lts.take (j + 1)).map (·.2)).map (λl=>l++[pl])=((lts.take j).map (·.2)).map (λl=>l++[pl])++[lt.2++[pl]]:=by
      rw [Bg,EM,AU,AU];rfl
     refine⟨lt.1,t,lt.2.map V.str,[.str pl],rfl,rfl,EG.of (s3 _ _ (A1 lt hm)),EG.of t3,by rw [Br];simp;omega,λe=>?_,λe=>(by cases e),λp hp=>?_⟩
     ·have e':lt.2=[]:=by simpa using e
      exact⟨⟨qs++[(t,lt.2++[pl])],by simp [ah],(A2.same Iv).app (aJ.one (by rw [e'];exact t3)),by rw [AU,Pr];exact Pt _⟩,s3,_,rfl⟩
     ·have Jd:=ai (o:=.tup (lt.2.map V.str++[.str pl])) Iv hp
      exact⟨⟨qs++[(p,lt.2++[pl])],by simp [ah],(A2.same Jd).app (aJ.one (by rw [ag,AU];rfl)),by rw [AU,Pr];exact Pt _⟩,ai s3 hp,_,rfl⟩
    ·rintro ys σ H2 ⟨⟨qs,rfl,A2,e2⟩,s2,v,rfl⟩ q hq
     rw [take_all lts (by simp)] at e2;have LC:qs.length=lts.length:=by
      have q:=congrArg List.length e2;simpa using q
     have Iv:=ai (o:=.lst (ah qs)) (af.refl H2) hq;refine⟨fo,q,_,_,rfl,rfl,Iv _ _ (s2 _ _ F1),ag,by rw [Br,Av,Av];omega,λq2 MG=>?_⟩;have Jd:=ai (o:=.lst (ah lts++ah qs)) Iv MG;refine⟨s1.trans (s2.trans Jd),q2,lts++qs,_,rfl,by rw [ag];simp [ah],(A1.same (s2.trans Jd)).app (A2.same Jd),?_⟩;have ets:ps.take (i + 1)=ps.take i++[pl]:=by rw [Bg,hc];rfl
     rw [AU,e2,e1,ets,fg]
  ·rintro σ H1 ⟨s1,fo,lts,g,rfl,F1,A1,e1⟩
   rw [take_all ps (by simp),fN] at e1;cases lts with
   | nil=>cases e1
   | cons h0 rest =>
    obtain⟨eh,er⟩:=Eg (show h0.2::rest.map (·.2)=[]::aL ps from e1);refine⟨_,rfl,_,rfl,fo,_,rfl,EF.of F1,λq hq=>?_⟩;rw [show ah (h0::rest)=V.ref h0.1::ah rest from rfl,lq];have s2:=ai (o:=.lst (ah rest)) (af.refl H1) hq;exact k q rest _ (s1.trans s2) ag (λx hx=>s2 _ _ (A1 x (AN _ hx))) er
def oM:Sp:=λvs H Q _=>∃(v l pa ra:Addr) (ps ls:List Str) (rs:List (Addr×Row)),vs=[.ref v,.ref l]/\bA H v pa ra ps rs/\rs.length<=60/\H l=some (.tup (ls.map V.str))/\∀H',af H H'->Q (.int ((rs.filter (lead ls)).length)) H'
abbrev N67:List Str:=["_law_web_here","_law_lot"]
theorem zb:aH N67 ["_law_web_here","_law_lot"] (aC (top 67)):=⟨rfl,rfl,rfl,by decide +kernel,rfl,by decide +kernel,by decide +kernel⟩
theorem xk (F:EW K "_law_led" "_law_led" (top 67) f fd) (B:Bl mg):aD P w K mg base EU 1 f fd ["_law_web_here","_law_lot"] oM:=by
 refine F.ok zb (λvs H Q E h=>?_) (λ_ _ _ _ H vs Q E hr h=>?_)
 ·obtain⟨v,l,pa,ra,ps,ls,rs,rfl,_⟩:=h
  rfl
 ·obtain⟨v,l,pa,ra,ps,ls,rs,rfl,W,hz,hl,k⟩:=h
  refine⟨_,ar (aM (au bb rfl B.len AY (aa (aZ (N:=["_law_row","_law_lot"]) (ix:=[none,some 1]) ⟨rfl,rfl,rfl,by decide⟩ rfl (bC (ax aG (pv 0) am (λ_ _=>rfl))) (λ_ _ _ _=>aF 0 (by decide) rfl rfl)
    (λ_ _ _ _=>bL (PW.pt (gH (aB (cO K) (ax (bD K) (pv 0) am (λ_ _=>rfl)) (pv 1) (by with_unfolding_all rfl)) (gA (aB (eu K) (ax (bD K) (pv 0) am (λ_ _=>rfl)) (pv 1) (by with_unfolding_all rfl))))))
    (λ_ _ _ _=>pv 0)) ae))),?_⟩
  refine⟨_,rfl,ay (j:=1) (.inr (EG.of W.tp)) rfl rfl ⟨ra,rfl,⟨_,EG.of W.rl⟩,cE (xs:=aj rs) (fits (by simp;omega)) (λi ys σ H3=>ys=aj ((rs.take i).filter (lead ls))/\H3=H/\∃x,σ=[x,some (.ref l)]) ⟨rfl,rfl,_,rfl⟩
    (λi ys σ H3 _ q=>⟨by rw [q.1];simp only [aj,Av];exact AV (AL _ _) (by simp;omega),by rw [q.2.1];exact EG.of W.rl⟩) ?_ ?_⟩⟩
  ·rintro i x ys σ H3 hx ⟨rfl,rfl,z,rfl⟩
   obtain⟨r,EV,rfl⟩:=bY hx;have hm:=AB EV;have ER:=W.rows r hm;have tf:=bH (lead ls) rs i r EV;have hS:Sq K H3 l (ls.map V.str):=.inr (EG.of hl);refine⟨_,rfl,ay (j:=2) (.inr (EG.of ER)) rfl rfl ⟨_,rfl,l,ls.map V.str,rfl,hS,rfl,aW ls,_,rfl,?_⟩⟩;show if FL (.str r.2.2.2) (ls.map V.str)=true then _ else _;rw [aX];refine aU (λc=>⟨_,rfl,ay (j:=1) (.inr (EG.of ER)) rfl rfl ⟨_,rfl,l,ls.map V.str,rfl,hS,rfl,aW ls,_,rfl,?_⟩⟩) (λc=>aN ⟨?_,rfl,_,rfl⟩)
   ·show if (!FL (.str r.2.2.1) (ls.map V.str))=true then _ else _
    rw [aX];refine aU (λd=>⟨_,rfl,?_,rfl,_,rfl⟩) (λd=>⟨?_,rfl,_,rfl⟩)
    ·rw [tf];unfold lead;rw [c,d];simp [aj]
    ·rw [tf];simp only [BA] at d;unfold lead;rw [c,d];simp [aj]
   ·rw [tf];simp only [BA] at c;unfold lead;rw [c];simp [aj]
  ·rintro ys σ H3 ⟨rfl,rfl,z,rfl⟩ q hq
   rw [take_all rs (by simp)];refine⟨q,_,rfl,.inl (EF.of ag),?_⟩;have e:((aj (rs.filter (lead ls))).length:Int)=((rs.filter (lead ls)).length:Int):=by simp [aj]
   rw [e];exact k _ (ai (af.refl _) hq)
end K93
namespace K93
open PySem L2
def others (ps:List Str) (root:Str):List Str:=ps.filter λy=>!decide (y=root)
theorem tq (ps:List Str) (root:Str):(others ps root).length<=ps.length:=AL _ _
def cnt (rs:List (Addr×Row)) (l:List Str):Nat:=(rs.filter (lead l)).length
theorem vD {rs:List (Addr×Row)}{i:Nat}{r:Addr×Row} (h:rs[i]?=some r) (l:List Str):cnt (rs.take (i + 1)) l=cnt (rs.take i) l + if lead l r=true then 1 else 0:=by
 unfold cnt;rw [bH _ _ _ _ h,Ba]
 congr 1
 split <;> rfl
def bh (l:List Str):List Key:=l.map Sum.inr
theorem dO (l:List Str):(bh l).map kV=l.map V.str:=by unfold bh;rw [Bf];rfl
theorem gw {a b:List Str} (h:bh a=bh b):a=b:=(List.map_inj_right (λx y h=>D2 h)).mp h
theorem vc {κ:Type} [DecidableEq κ] {kvs:List (κ×V)}{k:κ}{v w:V} (h:bf kvs k=some w):(putK kvs k v).length=kvs.length:=by
 unfold putK;rw [eA,h];rw [if_pos (show (some w).isSome=true from rfl),Av]
theorem ff {H H':Hp}{p:Addr}{o:HO} (h:af H H') (hp:H p=none):af H (upd H' p o):=λb ob e=>by
 rw [ao (aR e hp)];exact h b ob e
theorem mr {K:zz7}{a D:Addr}{xs:List V}{tk tv:TE}{j:Nat}{σ':St}{fin:Hp->Prop}{H1:Hp} (Pv:Nat->St->Hp->Prop) (h0:Pv 0 σ' H1) (hl:∀i σ H,i<=xs.length->Pv i σ H->EF K H a xs)
  (hs:∀i x σ H,xs[i]?=some x->Pv i σ H->tk (σ.set j (some x)) H (λy H4=>tv (σ.set j (some x)) H4 λv H5=>∃H6,kD H5 D y v H6/\Pv (i + 1) (σ.set j (some x)) H6)) (hd:∀σ H,Pv xs.length σ H->fin H):QZ D (J6 K a) (cm j) cG tk tv σ' fin H1:=by
 refine⟨λi m σ H=>m=xs.length - i/\i<=xs.length/\Pv i σ H,⟨xs.length,by simp,Be _,h0⟩,?_⟩;rintro i m σ H ⟨rfl,hi,p⟩;have q:=hl i σ H hi p
 by_cases EM:i < xs.length
 ·refine .inr ⟨⟨xs,xs[i],q,by simp [EM]⟩,Pv (i + 1),λσ' H' p'=>⟨xs.length - (i + 1),by omega,rfl,EM,p'⟩,λx H' y=>?_⟩
  obtain⟨e,y⟩:=y;subst e;unfold cm cG;exact bK (hs i x σ _ (y xs q) p)
 ·have e:i=xs.length:=by omega
  subst e;exact .inl ⟨⟨xs,q,AF _⟩,hd σ H p⟩
variable {P:Program}{w:World}{K:zz7}{mg:Str->Option zz9}{base:Heap}{f:Addr}{fd:FuncData}
def m4:Sp:=λvs H Q _=>∃(ra lo:Addr) (rs:List (Addr×Row)) (lts:List (Addr×List Str)),vs=[.ref ra,.ref lo]/\(H ra=some (.lst (aj rs))\/H ra=some (.tup (aj rs)))/\(∀r∈rs,b7 H r.1 r.2)/\rs.length<=60/\H lo=some (.lst (ah lts))/\aJ H lts/\(lts.map (·.2)).Nodup/\lts.length<=255 /\
 ∀(q:Addr) (kvs:List (List Key×V)) (H':Hp),af H H'->H' q=some (.dT kvs)->(∀x∈lts,bf kvs (bh x.2)=some (.int (cnt rs x.2)))->Q (.ref q) H'
abbrev N36:List Str:=["rows","lots","counts","row","lot"]
theorem jd:aH N36 ["rows","lots"] (aC (top 36)):=⟨rfl,rfl,rfl,by decide +kernel,rfl,by decide +kernel,by decide +kernel⟩
theorem uv (F:EW K "counts_into" "counts_into" (top 36) f fd) (F1:Fn P w K mg base 1 "leads_into" ["row","lot"] iX):aD P w K mg base EU 2 f fd ["rows","lots"] m4:=by
 refine F.ok jd (λvs H Q E h=>?_) (λ_ _ _ _ H vs Q E hr h=>?_)
 ·obtain⟨ra,lo,rs,lts,rfl,_⟩:=h
  rfl
 ·obtain⟨ra,lo,rs,lts,rfl,GV,ER,hz,KC,hL,Fz,JA,k⟩:=h
  have Zv:=hr.un
  refine⟨_,ak (vw (i:=2) (N:=["lot"]) (ix:=[none]) (Lp hr) jd.nd rfl (Or.inl rfl) ⟨rfl,rfl,rfl,by decide⟩ rfl (bv (pv 1)) (λ_ _ _ _=>aF 0 (by decide) rfl rfl) (λ_ _ _ _=>bz) (λ_ _ _ _=>pv 0) (λ_ _ _ _=>am))
   (ak (bZ Bm rfl (i6 (bv (pv 0)) (bC (pv 0))) (bc (i:=3) jd.nd rfl (Or.inl rfl)) (ar (bZ Bm rfl (bv (pv 1)) (bc (i:=4) jd.nd rfl (Or.inl rfl))
    (ar (aS (bM (aq F1 hr (aa (pv 3) (aa (pv 4) ae)))) (ar (nL (dH hr) (pv 2) (pv 4) am ym (λ_ _ _=>rfl))) aV)))))
   (ar (aM (pv 2)))),?_⟩
  have FY:(ah lts).length=lts.length:=by simp
  refine⟨_,rfl,lo,rfl,⟨_,EF.of KC⟩,λD hD=>?_⟩;have s0:=ai (o:=.dT []) (af.refl H) hD;refine mr (K:=K) (a:=lo) (xs:=ah lts) (λi σ H2=>af H H2/\(∃x,σ=[x])/\∃kvs,H2 D=some (.dT kvs)/\kvs.length<=i/\∀m x,m < i->lts[m]?=some x->bf kvs (bh x.2)=some (.int 0)) ⟨s0,⟨_,rfl⟩,[],ag,AF _,λm x hm=>absurd hm (C0 _)⟩
   (λi σ H2 _ q=>EF.of (q.1 _ _ KC)) ?_ ?_
  ·rintro i x σ H2 hx ⟨s2,⟨g,rfl⟩,kvs,d2,z2,v2⟩
   obtain⟨lt,EM,rfl⟩:=cz hx;have hm:=AB EM;have hi:i < lts.length:=(AE.mp EM).1;refine⟨_,rfl,upd H2 D (.dT (putK kvs (bh lt.2) (.int 0))),⟨kvs,bh lt.2,lt.1,d2,rfl,by rw [dO];exact s2 _ _ (hL lt hm),by rw [Br];omega,rfl⟩,ff s2 hD,⟨_,rfl⟩,_,ag,by have:=fE kvs (bh lt.2) (.int 0);omega,λm y Wa hy=>?_⟩;rw [nB]
   by_cases e:bh y.2=bh lt.2
   ·rw [if_pos e]
   ·rw [if_neg e]
    refine v2 m y ?_ hy;have:m≠i:=λq=>by rw [q,EM] at hy;cases hy;exact e rfl
    omega
  rintro σ0 H2 ⟨s2,_,RO,d2,z2,v2⟩;rw [FY] at z2 v2;refine jK (K:=K) (Hb:=H) (a:=ra) (xs:=aj rs) (λQ q=>⟨_,rfl,q⟩) GV s2 (λi σ H3=>af H H3/\(∃g1 g2,σ=[some (.ref ra),some (.ref lo),some (.ref D),g1,g2])/\∃kvs,H3 D=some (.dT kvs)/\kvs.length<=255/\∀x∈lts,bf kvs (bh x.2)=some (.int (cnt (rs.take i) x.2)))
   ⟨s2,⟨_,_,rfl⟩,RO,d2,by omega,λx hx=>?_⟩ (λi σ H3 _ q=>q.1) ?_ ?_
  ·obtain⟨m,hm⟩:=BS hx
   exact v2 m x (AE.mp hm).1 hm
  ·rintro i x σ H3 hx ⟨s3,⟨g1,g2,rfl⟩,kvs,d3,z3,v3⟩
   obtain⟨r,EV,rfl⟩:=bY hx;have GO:=AB EV
   refine⟨_,rfl,lo,rfl,⟨_,EF.of (s3 _ _ KC)⟩,eB (K:=K) (a:=lo) (xs:=ah lts) (λj σ H4=>af H H4/\(∃g2,σ=[some (.ref ra),some (.ref lo),some (.ref D),some (.ref r.1),g2])/\∃kvs,H4 D=some (.dT kvs)/\kvs.length<=255/\∀m x,lts[m]?=some x->bf kvs (bh x.2)=some (.int (if m < j then cnt (rs.take (i + 1)) x.2 else cnt (rs.take i) x.2:Nat)))
    ⟨s3,⟨_,rfl⟩,kvs,d3,z3,λm x hm=>?_⟩ (λj σ H4 _ q=>EF.of (q.1 _ _ KC)) ?_ ?_⟩
   ·rw [if_neg (C0 _)]
    exact v3 x (AB hm)
   ·rintro j y σ H4 hy ⟨s4,⟨g2,rfl⟩,kvs,d4,z4,v4⟩
    obtain⟨lt,EM,rfl⟩:=cz hy;have hm:=AB EM;have cs:=vD EV lt.2;refine⟨_,rfl,_,rfl,lt.1,r,lt.2,rfl,s4 _ _ (ER r GO),s4 _ _ (hL lt hm),_,rfl,?_⟩;have vj:=v4 j lt EM;rw [if_neg (BI _)] at vj;have stay:∀m x,m≠j->lts[m]?=some x->(if m < j then cnt (rs.take (i + 1)) x.2 else cnt (rs.take i) x.2)=(if m < j + 1 then cnt (rs.take (i + 1)) x.2 else cnt (rs.take i) x.2):=λm x MP _=>by
     by_cases h1:m < j
     ·rw [if_pos h1,if_pos (by omega)]
     ·rw [if_neg h1,if_neg (by omega)]
    refine aU (λc=>?_) (λc=>⟨s4,⟨_,rfl⟩,kvs,d4,z4,λm x hx=>?_⟩)
    ·rw [if_pos c] at cs
     refine⟨_,rfl,_,rfl,D,.int (cnt (rs.take i) lt.2),rfl,?_,_,_,rfl,rfl,upd H4 D (.dT (putK kvs (bh lt.2) (.int ((cnt (rs.take i) lt.2:Int) + 1)))),ef.t d4 (by rw [dO];exact s4 _ _ (hL lt hm)) (by rw [Br];omega),ff s4 hD,⟨_,rfl⟩,_,ag,by rw [vc vj];exact z4,λm x hx=>?_⟩
     ·have g:=b8.t (k:=bh lt.2) (b:=lt.1) d4 (by rw [dO];exact s4 _ _ (hL lt hm))
      rw [vj] at g;exact g
     ·rw [nB]
      by_cases MP:m=j
      ·subst MP
       rw [EM] at hx;cases hx;rw [if_pos rfl,if_pos (CD _),cs];rfl
      ·have EZ:bh x.2≠bh lt.2:=λe=>by
        have e':=gw e;obtain⟨Wa,em⟩:=AE.mp hx;obtain⟨QE,ej⟩:=AE.mp EM;have hp:=Bb.mp Fz;have h1:(lts.map (·.2))[m]'(by simpa using Wa)=x.2:=by rw [CH,em]
        have h2:(lts.map (·.2))[j]'(by simpa using QE)=lt.2:=by rw [CH,ej]
        rcases CK MP with q | q
        ·exact hp m j _ _ q (by rw [h1,h2];exact e')
        ·exact hp j m _ _ q (by rw [h1,h2];exact e'.symm)
       rw [if_neg EZ,v4 m x hx,stay m x MP hx]
    ·rw [if_neg c] at cs
     rw [v4 m x hx]
     by_cases MP:m=j
     ·subst MP
      rw [EM] at hx;cases hx;rw [if_neg (BI _),if_pos (CD _),cs];rfl
     ·rw [stay m x MP hx]
   ·rintro σ H4 ⟨s4,⟨g2,rfl⟩,kvs,d4,z4,v4⟩
    refine⟨s4,⟨_,_,rfl⟩,kvs,d4,z4,λx hx=>?_⟩;obtain⟨m,hm⟩:=BS hx;have q:=v4 m x hm;rw [if_pos (by rw [FY];exact (AE.mp hm).1)] at q;exact q
  ·rintro σ H3 ⟨s3,⟨g1,g2,rfl⟩,kvs,d3,z3,v3⟩
   rw [take_all rs (by simp)] at v3;exact⟨_,rfl,k D kvs H3 s3 d3 v3⟩
def need (EK ls:List Str):Nat:=(EK.filter λr=>!decide (r∈ls)).length
def nk:Sp:=λvs H Q _=>∃(a l:Addr) (EK ls:List Str),vs=[.ref a,.ref l]/\H a=some (.tup (EK.map V.str))/\H l=some (.tup (ls.map V.str))/\EK.length<=100/\∀H',af H H'->Q (.int (need EK ls)) H'
theorem zq:aH ["roots","lot"] ["roots","lot"] (aC (top 37)):=⟨rfl,rfl,rfl,by decide +kernel,rfl,by decide +kernel,by decide +kernel⟩
theorem rZ (F:EW K "need_of" "need_of" (top 37) f fd) (B:Bl mg):aD P w K mg base EU 1 f fd ["roots","lot"] nk:=by
 refine F.ok zq (λvs H Q E h=>?_) (λ_ _ _ _ H vs Q E hr h=>?_)
 ·obtain⟨a,l,EK,ls,rfl,_⟩:=h
  rfl
 ·obtain⟨a,l,EK,ls,rfl,ha,hl,hz,k⟩:=h
  refine⟨_,ar (aM (au bb rfl B.len AY (aa (aZ (N:=["root","lot"]) (ix:=[none,some 1]) ⟨rfl,rfl,rfl,by decide⟩ rfl (bC (pv 0)) (λ_ _ _ _=>aF 0 (by decide) rfl rfl)
   (λ_ _ _ _=>bL (aB (eu K) (pv 0) (pv 1) (by with_unfolding_all rfl))) (λ_ _ _ _=>pv 0)) ae))),?_⟩
  refine⟨_,rfl,a,rfl,⟨_,EG.of ha⟩,cE (xs:=EK.map V.str) (fits (by simp;omega)) (λi ys σ H1=>ys=((EK.take i).filter λr=>!decide (r∈ls)).map V.str/\H1=H/\∃x,σ=[x,some (.ref l)]) ⟨rfl,rfl,_,rfl⟩
   (λi ys σ H1 _ q=>⟨by rw [q.1,Av];exact AV (AL _ _) (by simp;omega),by rw [q.2.1];exact EG.of ha⟩) ?_ ?_⟩
  ·rintro i x ys σ H1 hx ⟨rfl,rfl,v,rfl⟩
   rw [AH] at hx;cases hc:EK[i]? with
   | none=>rw [hc] at hx;cases hx
   | some z =>
    rw [hc] at hx;cases hx;have tf:=bH (λr:Str=>!decide (r∈ls)) EK i z hc;refine⟨_,rfl,_,rfl,l,ls.map V.str,rfl,.inr (EG.of hl),rfl,aW ls,_,rfl,?_⟩;show if (!FL (.str z) (ls.map V.str))=true then _ else _;rw [aX];refine aU (λc=>⟨_,rfl,?_,rfl,_,rfl⟩) (λc=>⟨?_,rfl,_,rfl⟩)
    ·rw [tf,c];simp
    ·rw [tf];simp only [BA] at c;rw [c];simp
  ·rintro ys σ H1 ⟨rfl,rfl,v,rfl⟩ q hq
   rw [take_all EK (by simp)];refine⟨q,_,rfl,.inl (EF.of ag),?_⟩;have e:(((EK.filter λr=>!decide (r∈ls)).map V.str).length:Int)=(need EK ls:Int):=by rw [Av];rfl
   rw [e];exact k _ (ai (af.refl _) hq)
end K93
namespace L2
open PySem
end L2
namespace K93
open PySem L2
def Fk (rs:List (Addr×Row)) (EK l:List Str):Int:=(cnt rs l:Int) - (need EK l:Int)
abbrev du (rs:List (Addr×Row)) (EK:List Str) (ls:List (List Str)):List (List Key×V):=ls.map λl=>(bh l,V.int (Fk rs EK l))
theorem ma {rs:List (Addr×Row)}{EK:List Str}:∀{ls:List (List Str)}{l:List Str},l∉ls->bf (du rs EK ls) (bh l)=none
 | [],l,_=>rfl
 | m::r,l,h=>by
  have h':l≠m/\l∉r:=by simpa using h
  show bf ((bh m,V.int (Fk rs EK m))::du rs EK r) (bh l)=none;rw [cM (λe=>h'.1 (gw e).symm)];exact ma h'.2
theorem lU {rs:List (Addr×Row)}{EK:List Str}:∀{ls:List (List Str)}{l:List Str},l∈ls->bf (du rs EK ls) (bh l)=some (.int (Fk rs EK l))
 | m::r,l,h=>by
  show bf ((bh m,V.int (Fk rs EK m))::du rs EK r) (bh l)=_
  by_cases e:m=l
  ·subst e;exact cR rfl
  ·rw [cM (λz=>e (gw z))]
   exact lU ((AI.mp h).resolve_left λz=>e z.symm)
variable {P:Program}{w:World}{K:zz7}{mg:Str->Option zz9}{base:Heap}{f:Addr}{fd:FuncData}
def oj:Sp:=λvs H Q _=>∃z:Int,vs=[.int z]/\Q (.bl true) H
theorem zR:aH ["thing"] ["thing"] (aC (top 11)):=⟨rfl,rfl,rfl,by decide +kernel,rfl,by decide +kernel,by decide +kernel⟩
theorem rT (F:EW K "is_whole" "is_whole" (top 11) f fd) (B:Bl mg):aD P w K mg base EU 1 f fd ["thing"] oj:=by
 refine F.ok zR (λvs H Q E h=>?_) (λ_ _ _ _ H vs Q E hr h=>?_)
 ·obtain⟨z,rfl,_⟩:=h
  rfl
 ·obtain⟨z,rfl,k⟩:=h
  refine⟨_,ar (aM (eY (au (dA (T:="int")) rfl B.isinstance dz (aa (pv 0) (aa (dC (v:=.ty "int") rfl B.int i9 rfl) ae)))
   (fU (xP (au (dA (T:="bool")) rfl B.isinstance dz (aa (pv 0) (aa (dC (v:=.ty "bool") rfl B.bool xT rfl) ae))))))),?_⟩
  exact⟨_,rfl,_,_,true,rfl,.int z,rfl,true,rfl,bK ⟨_,rfl,_,_,false,rfl,.int z,rfl,false,rfl,k⟩⟩
def mY:Sp:=λvs H Q _=>∃z lo hi:Int,vs=[.int z,.int lo,.int hi]/\lo<=z/\z<=hi/\Q .non H
theorem zQ:aH ["thing","low","high"] ["thing","low","high"] (aC (top 20)):=⟨rfl,rfl,rfl,by decide +kernel,rfl,by decide +kernel,by decide +kernel⟩
theorem qG (F:EW K "need_number" "need_number" (top 20) f fd) (F1:Fn P w K mg base 1 "is_whole" ["thing"] oj):aD P w K mg base EU 2 f fd ["thing","low","high"] mY:=by
 refine F.ok zQ (λvs H Q E h=>?_) (λ_ _ _ _ H vs Q E hr h=>?_)
 ·obtain⟨z,lo,hi,rfl,_⟩:=h
  rfl
 ·obtain⟨z,lo,hi,rfl,h1,h2,k⟩:=h
  refine⟨_,ar (aS (PW.pt (cq (bS (bM (aq F1 hr (aa (pv 0) ae)))) (cw (bS (mQ jb jb (pv 1) (pv 0) (pv 2)))))) bT aV),?_⟩;exact⟨_,rfl,z,rfl,true,rfl,aN ⟨_,rfl,_,rfl,_,_,rfl,rfl,_,rfl,jk h1 ⟨_,rfl,_,_,rfl,rfl,_,rfl,fY h2 k⟩⟩⟩
def j8:Sp:=λvs H Q _=>∃(ra lo a:Addr) (rs:List (Addr×Row)) (lts:List (Addr×List Str)) (EK:List Str),vs=[.ref ra,.ref lo,.ref a]/\(H ra=some (.lst (aj rs))\/H ra=some (.tup (aj rs)))/\(∀r∈rs,b7 H r.1 r.2)/\rs.length<=60/\H lo=some (.lst (ah lts))/\aJ H lts/\(lts.map (·.2)).Nodup/\lts.length<=255 /\
 H a=some (.tup (EK.map V.str))/\EK.length<=100/\∀(q:Addr) (H':Hp),af H H'->H q=none->H' q=some (.dT (du rs EK (lts.map (·.2))))->Q (.ref q) H'
abbrev N38:List Str:=["rows","lots","roots","counts"]
theorem qB:aH N38 ["rows","lots","roots"] (aC (top 38)):=⟨rfl,rfl,rfl,by decide +kernel,rfl,by decide +kernel,by decide +kernel⟩
theorem vO (F:EW K "spare_into" "spare_into" (top 38) f fd) (F1:Fn P w K mg base 2 "counts_into" ["rows","lots"] m4) (F2:Fn P w K mg base 1 "need_of" ["roots","lot"] nk):aD P w K mg base EU 3 f fd ["rows","lots","roots"] j8:=by
 refine F.ok qB (λvs H Q E h=>?_) (λ_ _ _ _ H vs Q E hr h=>?_)
 ·obtain⟨ra,lo,a,rs,lts,EK,rfl,_⟩:=h
  rfl
 ·obtain⟨ra,lo,a,rs,lts,EK,rfl,GV,ER,hz,KC,hL,Fz,JA,ha,Hu,k⟩:=h
  have E7:aQ 1 _:=hr.mono (by decide)
  refine⟨_,ak (aA (i:=3) qB.nd rfl (Or.inr rfl) (aq F1 hr (aa (pv 0) (aa (pv 1) ae))))
   (ar (aM (yO (N:=["lot","counts","roots"]) (ix:=[none,some 3,some 2]) (Lp hr) ⟨rfl,rfl,rfl,by decide⟩ rfl (bv (pv 1)) (λ_ _ _ _=>aF 0 (by decide) rfl rfl) (λ_ _ _ _=>bz) (λ_ _ _ _=>pv 0)
    (λ_ _ _ _=>ba iW (fi (dH hr) (pv 1) (pv 0) (λ_ _=>rfl)) (aq F2 E7 (aa (pv 2) (aa (pv 0) ae))))))),?_⟩
  refine⟨_,rfl,_,rfl,ra,lo,rs,lts,rfl,GV,ER,hz,KC,hL,Fz,JA,λc kvs H1 s1 c1 v1=>?_⟩;refine⟨_,rfl,lo,rfl,⟨_,EF.of (s1 _ _ KC)⟩,λD hD=>?_⟩;have s2:=ai (o:=.dT []) (af.refl H1) hD;have FY:(ah lts).length=lts.length:=by simp
  have WA:H1 D=none:=hD;refine mr (K:=K) (a:=lo) (xs:=ah lts) (λi σ H2=>af H1 H2/\(∃x,σ=[x,some (.ref c),some (.ref a)])/\H2 D=some (.dT (du rs EK ((lts.take i).map (·.2))))) ⟨s2,⟨_,rfl⟩,ag⟩
   (λi σ H2 _ q=>EF.of (q.1 _ _ (s1 _ _ KC))) ?_ ?_
  ·rintro i x σ H2 hx ⟨s2,⟨g,rfl⟩,d2⟩
   obtain⟨lt,EM,rfl⟩:=cz hx;have hm:=AB EM;have hi:i < lts.length:=(AE.mp EM).1;have MT:=s2 _ _ (s1 _ _ (hL lt hm));have gc:b8 H2 c (.ref lt.1) (some (.int (cnt rs lt.2))):=by
    rw [<- v1 lt hm];exact b8.t (s2 _ _ c1) (by rw [dO];exact MT)
   refine⟨_,rfl,_,rfl,_,rfl,c,_,rfl,gc,?_⟩;refine⟨_,rfl,_,rfl,a,lt.1,EK,lt.2,rfl,s2 _ _ (s1 _ _ ha),MT,Hu,λH3 s3=>?_⟩;have d3:=s3 _ _ d2;have MX:lt.2∉(lts.take i).map (·.2):=λS0=>by
    have nd:=Fz.sublist ((C4 (i + 1) lts).map (λx:Addr×List Str=>x.2));rw [Bg,EM,AU] at nd;exact (BF.mp nd).2.2 _ S0 lt.2 (by simp) rfl
   refine⟨_,_,rfl,rfl,_,⟨_,bh lt.2,lt.1,d3,rfl,by rw [dO];exact s3 _ _ MT,by rw [Av,Av,AW,Br];omega,rfl⟩,ff (s2.trans s3) WA,⟨_,rfl⟩,?_⟩;rw [ag,jN _ (ma MX),Bg,EM];simp [du,Fk]
  ·rintro σ H2 ⟨s2,⟨g,rfl⟩,d2⟩
   rw [FY,take_all lts rfl] at d2;exact k D H2 (s1.trans s2) (s1.free WA) d2
end K93
namespace L2
open PySem PySem.Spec PyProof.Rows PySem.W PySem.Calls
open Builtin
theorem wz (l:Addr) (items:Array zz9) (n:Nat) (o:Obj) (x:Int) (u:Tok) (hc:o.cls=.type "tuple") (hd:o.data=.seq items n) (h1:0<=x) (h2:x<=1000) (h0:items.isEmpty=false) (hz:items.size<=1000) :
  Meets (Builtin.«tuple.__mul__» ⟨[.ref l,.int x u],[]⟩) (λ_ R s=>s.heap.get? l=some o/\(x=1->R (.ok (.ret (Value.ref l))) s)/\(x≠1->R (.ok (.ret (Value.ref s.heap.objs.size))) { s with heap:=s.heap.push { cls:=Value.type "tuple",data:=Data.seq (List.foldl (λx1 x2=>x1++x2) #[] (List.replicate x.toNat items)) },toks:=s.toks })) :=
 .of_wp λprog w A R s h=>by
  obtain⟨hp,g,d,tk,os⟩:=s;obtain⟨hl,k1,k2⟩:=h;have c1:(decide (x < -(2 ^ 63)) || decide (x ≥ 2 ^ 63))=false:=by simp;omega
  have hT:(⟨hp,g,d,tk,os⟩:zz8).TypeIs (.ref l) "tuple":=⟨o,hl,hc⟩
  unfold Builtin.«tuple.__mul__»
  wp_walk
  rw [if_neg (by rw [c1];exact AX)];have Za:∀{Q:Array zz9->zz8->Prop}{E:zz9->zz8->Prop},Q items ⟨hp,g,d,tk,os⟩->wpAny (model prog w) A.in1 (Tuple.tupleItemsOf (.ref l)) Q E ⟨hp,g,d,tk,os⟩:=λq=>by
   unfold Tuple.tupleItemsOf;refine Aw ?_;unfold seqItems?;refine Aw (Ep hl ?_);rw [hd];exact Az (Az q)
  refine Aw (Za ?_);rw [h0]
  by_cases c:x=1
  ·subst c
   rw [if_pos (by rfl)]
   wp_walk
   exact⟨_,rfl,k1 rfl⟩
  ·rw [if_neg (by simpa using c)]
   by_cases c0:x=0
   ·subst c0
    rw [if_pos (by rfl)]
    wp_walk
    refine⟨_,rfl,?_⟩;exact k2 c
   ·have SN:¬ ((decide (x<=0) || false)=true):=by simp;omega
    have hb:(items.size:Int) * x<=1000 * 1000:=Int.mul_le_mul (by omega) h2 h1 (by decide);rw [if_neg SN,if_neg (by omega),if_neg (by unfold Tuple.tupleTooMany;simp;rw [Br];omega)];unfold Tuple.tupleExact;refine Aw (Bp ?_ ?_)
    ·exact Az ⟨_,rfl,k2 c⟩
    ·have e:=foldl_rep items.toList x.toNat []
     rw [DR] at e;have e':List.foldl (λx1 x2:Array zz9=>x1++x2) #[] (List.replicate x.toNat items)=(List.replicate x.toNat items.toList).flatten.toArray:=by
      rw [<- e]
     rw [e'];show (List.replicate x.toNat items.toList).flatten.toArray.size<=sizeLine;have hx:x.toNat<=1000:=by omega
     rw [AR,len_rep,Br];have:=Nat.mul_le_mul hx (show items.toList.length<=1000 by simpa using hz);omega
theorem qD:fillsNumberSlot (.type "tuple") "mul"=pure false :=
 PySem.fillsNumberSlot_seq (id:="tuple.__mul__") (r:=some (.builtin "tuple.__rmul__")) F.slot_tuple_mul.lookup (by decide +kernel) F.slot_tuple_rmul.lookup (by decide +kernel)
theorem rj:seqRepeat? (.type "tuple")=pure (some (.builtin "tuple.__mul__")):=by
 unfold seqRepeat?;have e1:=PySem.seqSlot_of (T:="tuple") (name:="__mul__") (id:="tuple.__mul__") F.slot_tuple_mul.lookup (by decide +kernel);have e2:=PySem.seqSlot_of (T:="tuple") (name:="__rmul__") (id:="tuple.__rmul__") F.slot_tuple_rmul.lookup (by decide +kernel);rw [e1,e2];rfl
theorem su (a:Int) (t:Tok) (l:Addr) (o:Obj) (EE:Array zz9) (n:Nat) (hc:o.cls=.type "tuple") (hd:o.data=.seq EE n) :
  Meets (Builtin.«int.__rmul__» ⟨[.int a t,.ref l],[]⟩) (λ_ R s=>s.heap.get? l=some o/\R (.ok (.ret Value.notImplemented)) s) :=
 .of_wp λprog w A R s h=>by
  obtain⟨hp,g,d,tk,os⟩:=s;obtain⟨hl,h⟩:=h;have hT:(⟨hp,g,d,tk,os⟩:zz8).TypeIs (.ref l) "tuple":=⟨o,hl,hc⟩
  wp_walk
  rw [hd]
  wp_walk
  exact⟨_,rfl,h⟩
def yy:R2:=λx y H Q=>∃l k xs,x=.ref l/\y=.int k/\H l=some (.tup xs)/\xs≠[]/\xs.length<=1000/\0<=k/\k<=1000/\(k=1->Q (.ref l) H)/\(k≠1->∀p,H p=none->Q (.ref p) (upd H p (.tup (List.replicate k.toNat xs).flatten)))
theorem wW {X:Cx}:FG X (binaryOp .Mult) yy:=by
 intro pins s σ H x y v u Q I rx ry h;obtain⟨l,k,xs,rfl,rfl,hH,EZ,hz,h1,h2,q1,q2⟩:=h;cases rx;obtain⟨t,rfl⟩:=ry;obtain⟨_,EE,r,o,e,hc,n,hd⟩:=(show aY X.prog X.w H s.heap l (.tup xs) from I.hok l _ hH)
 have hl:=r.length;have h0:EE.toArray.isEmpty=false:=by
  cases EE with
  | nil=>cases xs with
   | nil=>exact absurd rfl EZ
   | cons _ _=>cases hl
  | cons _ _=>rfl
 have MN:List.foldl (λx1 x2:Array zz9=>x1++x2) #[] (List.replicate k.toNat EE.toArray)=(List.replicate k.toNat EE).flatten.toArray:=by
  have:=foldl_rep EE k.toNat [];rw [DR] at this;exact this
 refine wpAny_binaryOp_repeat_ref (T:="tuple") (U:="int") (by decide) ⟨_,e,hc⟩ (λs'=>typeIs_int s' k t) qD F.fills_int_mul F.slot_int_rmul rj F.slot_int_index.lookup
  (DL F.slot_int_rmul (typeIs_int s k t) F.entry_int_rmul (F.args_int_rmul_2 _ _) (su k t l o _ n hc hd)
   ⟨e,rfl,⟨_,e,hc⟩,DL F.slot_tuple_mul ⟨_,e,hc⟩ F.entry_tuple_mul (F.args_tuple_mul_2 _ _) (wz l EE.toArray n o k t hc hd h1 h2 h0 (by rw [AR];omega)) ⟨e,λc=>?_,λc=>?_⟩⟩)
 ·exact⟨.ref l,H,I,rfl,q1 c⟩
 ·rw [MN]
  have hb:(List.replicate k.toNat xs).flatten.length<=sizeLine:=by
   have hx:k.toNat<=1000:=by omega
   rw [len_rep,Br];have:=Nat.mul_le_mul hx hz;omega
  refine⟨.ref s.heap.objs.size,_,I.laid (a:=s.heap.objs.size) (o:=.tup (List.replicate k.toNat xs).flatten) (t':=s.toks) (λb u q=>AA _ q) (AF _) ⟨hb,_,r.rep k.toNat,?_⟩,rfl,q2 c _ (I.hok.fresh (AF _))⟩;exact⟨_,AS _ rfl,rfl,0,rfl⟩
def yQ:R2:=λx y H Q=>∃l k xs,x=.ref l/\y=.int k/\H l=some (.tup xs)/\xs≠[]/\xs.length<=1000/\0<=k/\k<=1000/\∀p H',af H H'->H' p=some (.tup (List.replicate k.toNat xs).flatten)->Q (.ref p) H'
theorem xh {X:Cx}:FG X (binaryOp .Mult) yQ:=by
 intro pins s σ H x y v u Q I rx ry h;obtain⟨l,k,xs,h1,h2,hH,EZ,hz,h3,h4,q⟩:=h;refine wW pins s σ H x y v u Q I rx ry ⟨l,k,xs,h1,h2,hH,EZ,hz,h3,h4,λc=>q l H (af.refl H) ?_,λc p hp=>q p _ (λb o e=>by rw [ao (aR e hp)];exact e) ag⟩;subst c;rw [hH];simp
end L2
namespace K93
open PySem L2
variable {P:Program}{w:World}{K:zz7}{mg:Str->Option zz9}{base:Heap}{f:Addr}{fd:FuncData}
def mJ:Sp:=λvs H Q _=>∃(v pa ra a:Addr) (ps EK:List Str) (rs:List (Addr×Row)),vs=[.ref v,.ref a]/\bA H v pa ra ps rs/\ps.Nodup/\ps.length<=8/\rs.length<=60/\H a=some (.tup (EK.map V.str))/\EK.length<=100/\(∀l∈aL ps,0<=Fk rs EK l)/\∀H',af H H'->Q .non H'
abbrev N41:List Str:=["web","roots","spare","lot"]
theorem kM:aH N41 ["web","roots"] (aC (top 41)):=⟨rfl,rfl,rfl,by decide +kernel,rfl,by decide +kernel,by decide +kernel⟩
theorem tN (F:EW K "need_enough" "need_enough" (top 41) f fd)
  (F1:Fn P w K mg base 3 "spare_into" ["rows","lots","roots"] j8) (F2:Fn P w K mg base 1 "lots_among" ["places"] jL):aD P w K mg base EU 4 f fd ["web","roots"] mJ:=by
 refine F.ok kM (λvs H Q E h=>?_) (λ_ _ _ _ H vs Q E hr h=>?_)
 ·obtain⟨v,pa,ra,a,ps,EK,rs,rfl,_⟩:=h
  rfl
 ·obtain⟨v,pa,ra,a,ps,EK,rs,rfl,W,Fz,h7,Hr,ha,Hu,Gh,k⟩:=h
  have E7:aQ 1 _:=hr.mono (by decide);have Ge:aQ 2 _:=hr.mono (by decide)
  refine⟨_,ak (aA (i:=2) kM.nd rfl (Or.inl rfl) (aq F1 hr (aa (ax aG (pv 0) am (λ_ _=>rfl)) (aa (aq F2 E7 (aa (ax aG (pv 0) am (λ_ _=>rfl)) ae)) (aa (pv 1) ae)))))
   (ar (bZ Bm rfl (nJ (pv 2)) (bc (i:=3) kM.nd rfl (Or.inl rfl))
    (ar (aS (aB jc (fi (dH hr) (pv 2) (pv 3) (λ_ _=>rfl)) am (aT _)) bT aV)))),?_⟩
  refine⟨_,rfl,ay (j:=1) (.inr (EG.of W.tp)) rfl rfl ⟨_,rfl,ay (j:=0) (.inr (EG.of W.tp)) rfl rfl ⟨pa,ps,rfl,.inr W.pl,by omega,λq lts H1 s1 q1 A1 e1=>?_⟩⟩⟩;have W1:=W.same s1;have JX:lts.length<=255:=by
   have e2:=congrArg List.length e1;rw [Av] at e2;have e3:=iC ps;have e4:=iV (show ps.length<=8 by omega);omega
  refine⟨_,rfl,ra,q,a,rs,lts,EK,rfl,.inr W1.rl,W1.rows,Hr,q1,A1,by rw [e1];exact il Fz,JX,s1 _ _ ha,Hu,λsd H2 s2 Mv d2=>?_⟩;rw [e1] at d2;have FN:=s1.trans s2;have Mw:H sd=none:=s1.free Mv;refine⟨_,rfl,sd,_,rfl,d2,λo=>?_⟩;have s3:af H (upd H2 sd (.frz o (.dT (du rs EK (aL ps))))):=af.upd0 FN Mw;have d3:upd H2 sd (.frz o (.dT (du rs EK (aL ps)))) sd=some (.frz o (.dT (du rs EK (aL ps)))):=ag;generalize upd H2 sd (.frz o (.dT (du rs EK (aL ps))))=H3 at s3 d3 ⊢;refine vb (a:=sd) (o:=o) (kvs:=du rs EK (aL ps)) (λi σ H4=>(∃g,σ=[some (.ref v),some (.ref a),some (.ref sd),g])/\af H3 H4)
   ⟨⟨_,rfl⟩,af.refl _⟩ (λi σ H4 _ p=>p.2 _ _ d3) ?_ ?_
  ·rintro i p b σ H4 hp hb ⟨⟨g,rfl⟩,s4⟩
   rw [AH] at hp;cases hc:(aL ps)[i]? with
   | none=>rw [hc] at hp;cases hp
   | some l =>
    rw [hc] at hp;cases hp;have hl:l∈aL ps:=AB hc;have hb':H4 b=some (.tup (l.map V.str)):=by rw [<- dO];exact hb
    have gd:b8 H4 sd (.ref b) (some (.int (Fk rs EK l))):=.inr ⟨_,bh l,b,.inr ⟨o,s4 _ _ d3⟩,rfl,hb,(lU hl).symm⟩;refine⟨_,rfl,_,rfl,sd,_,rfl,gd,_,_,rfl,rfl,_,rfl,?_⟩;rw [decide_eq_false (by have:=Gh l hl;omega)];exact aN ⟨⟨_,rfl⟩,s4⟩
  ·rintro σ H4 ⟨⟨g,rfl⟩,s4⟩
   exact k H4 (s3.trans s4)
theorem sub_one {l:List Str}{x:Str} (h:l.Sublist [x]):l=[]\/l=[x]:=by
 cases h with
 | cons _ h=>cases h;exact .inl rfl
 | cons_cons _ h=>cases h;exact .inr rfl
theorem vi:∀ps l:List Str,l.Sublist ps->l∈subs ps:=snoc_ind (λl h=>by
  cases h
  simp [subs]) λps x ih l hl=>by
 rw [fg];obtain⟨a,b,rfl,ha,hb⟩:=List.sublist_append_iff.mp hl
 rcases sub_one hb with rfl | rfl
 ·rw [De]
  exact AZ _ (ih a ha)
 ·exact AK _ (AC (f:=λl=>l++[x]) (ih a ha))
theorem de {ps l:List Str} (hn:ps.Nodup):l∈aL ps ↔ l.Sublist ps/\l≠[]:=by
 have e:=fN ps;have nd:=lx ps hn;rw [e] at nd;constructor
 ·intro h
  exact⟨vI h,λz=>(Bc.mp nd).1 (z ▸ h)⟩
 ·rintro⟨h1,h2⟩
  have:=vi ps l h1;rw [e] at this;exact (AI.mp this).resolve_left h2
theorem sM {ps l:List Str}{p:Str->Bool}:l.Sublist (ps.filter p) ↔ l.Sublist ps/\∀x∈l,p x=true:=by
 constructor
 ·intro h
  exact⟨h.trans Bi,λx hx=>(AM.mp (h.subset hx)).2⟩
 ·rintro⟨h1,h2⟩
  have:=h1.filter p
  rwa [List.filter_eq_self.mpr h2] at this
theorem lV {ps:List Str} (root:Str) (h:ps.Nodup):(others ps root).Nodup:=h.filter _
theorem js {ps l:List Str}{root:Str} (hn:ps.Nodup):l∈aL (others ps root) ↔ l∈aL ps/\root∉l:=by
 rw [de (lV root hn),de hn];unfold others;rw [sM];constructor
 ·rintro⟨⟨h1,h2⟩,h3⟩
  exact⟨⟨h1,h3⟩,λz=>by have:=h2 root z;simp at this⟩
 ·rintro⟨⟨h1,h3⟩,h2⟩
  exact⟨⟨h1,λx hx=>by
   have:x≠root:=λz=>h2 (z ▸ hx)
   simp [this]⟩,h3⟩
theorem vR (m:Nat) (root:Str) (l:List Str):need (List.replicate m root) l=if root∈l then 0 else m:=by
 unfold need;rw [List.filter_replicate]
 by_cases h:root∈l
 ·simp [h]
 ·simp [h]
theorem xc (rs:List (Addr×Row)) (m:Nat) (root:Str) (l:List Str):Fk rs (List.replicate m root) l=(cnt rs l:Int) - (if root∈l then 0 else (m:Int)):=by
 unfold Fk;rw [vR]
 by_cases h:root∈l <;> simp [h]
theorem mR {α:Type} (x:α):∀m:Nat,(List.replicate m [x]).flatten=List.replicate m x
 | 0=>rfl
 | m + 1=>by rw [Co,BO,mR x m,Co];rfl
theorem j4 {x:Str}:¬ FU x x:=D0 _
theorem vY {x y:Str} (h:FU x y) (h':FU y x):False:=j4 (Ef h h')
theorem gn:∀{l m:List Str},l.Pairwise FU->m.Pairwise FU->(∀x,x∈l ↔ x∈m)->l=m
 | [],[],_,_,_=>rfl
 | [],y::m,_,_,h=>by have:=(h y).mpr AJ;cases this
 | x::l,[],_,_,h=>by have:=(h x).mp AJ;cases this
 | x::l,y::m,hl,hm,h=>by
  obtain⟨l1,l2⟩:=Ct.mp hl;obtain⟨m1,m2⟩:=Ct.mp hm;have e:x=y:=by
   rcases AI.mp ((h x).mp AJ) with e | hx
   ·exact e
   ·rcases AI.mp ((h y).mpr AJ) with e | hy
    ·exact e.symm
    ·exact (vY (m1 x hx) (l1 y hy)).elim
  subst e;have:l=m:=gn l2 m2 λz=>by
   constructor
   ·intro hz
    rcases AI.mp ((h z).mp (AN _ hz)) with e | q
    ·subst e;exact (j4 (l1 _ hz)).elim
    ·exact q
   ·intro hz
    rcases AI.mp ((h z).mpr (AN _ hz)) with e | q
    ·subst e;exact (j4 (m1 _ hz)).elim
    ·exact q
  rw [this]
def ind (b:Bool):Nat:=if b=true then 1 else 0
theorem cnt_cons (r:Addr×Row) (rs:List (Addr×Row)) (l:List Str):cnt (r::rs) l=ind (lead l r) + cnt rs l:=by
 unfold cnt ind;rw [CY];split <;> simp <;> omega
theorem oU {a b i u:List Str} (hi:∀x,x∈i ↔ x∈a/\x∈b) (hu:∀x,x∈u ↔ x∈a\/x∈b):∀rs:List (Addr×Row),cnt rs i + cnt rs u<=cnt rs a + cnt rs b
 | []=>AF _
 | r::rs=>by
  have ih:=oU hi hu rs;rw [cnt_cons,cnt_cons,cnt_cons,cnt_cons];have h:ind (lead i r) + ind (lead u r)<=ind (lead a r) + ind (lead b r):=by
   have e1:=hi r.2.2.2;have e2:=hi r.2.2.1;have e3:=hu r.2.2.2;have e4:=hu r.2.2.1;unfold lead ind
   by_cases c1:r.2.2.2∈a <;> by_cases c2:r.2.2.2∈b <;> by_cases c3:r.2.2.1∈a <;> by_cases c4:r.2.2.1∈b <;> simp_all
  omega
abbrev T:=Addr×Row
theorem mX {a b:List T} (h:a.Perm b) (l:List Str):cnt a l=cnt b l:=by
 unfold cnt;exact (h.filter _).length_eq
theorem eR (r:Str) (EK l:List Str):need (r::EK) l=ind (!decide (r∈l)) + need EK l:=by
 unfold need ind;rw [CY];split <;> simp <;> omega
theorem mx {a b i u:List Str} (hi:∀x,x∈i ↔ x∈a/\x∈b) (hu:∀x,x∈u ↔ x∈a\/x∈b):∀EK:List Str,need EK i + need EK u=need EK a + need EK b
 | []=>rfl
 | r::EK=>by
  have ih:=mx hi hu EK;rw [eR,eR,eR,eR];have h:ind (!decide (r∈i)) + ind (!decide (r∈u))=ind (!decide (r∈a)) + ind (!decide (r∈b)):=by
   have e1:=hi r;have e2:=hu r;unfold ind
   by_cases c1:r∈a <;> by_cases c2:r∈b <;> simp_all
  omega
theorem lO {x y:List Str} (h:∀z,z∈y->z∈x):∀EK:List Str,need EK x<=need EK y
 | []=>AF _
 | r::EK=>by
  have ih:=lO h EK;rw [eR,eR];have:ind (!decide (r∈x))<=ind (!decide (r∈y)):=by
   have e:=h r;unfold ind
   by_cases c1:r∈x <;> by_cases c2:r∈y <;> simp_all
  omega
theorem mZ {x y:List Str}:∀{rs:List T},cnt rs x < cnt rs y->∃r∈rs,lead y r=true/\lead x r=false
 | [],h=>absurd h (BI _)
 | r::rs,h=>by
  by_cases c:lead y r=true/\lead x r=false
  ·exact⟨r,AJ,c⟩
  ·have:cnt rs x < cnt rs y:=by
    rw [cnt_cons,cnt_cons] at h;have:ind (lead y r)<=ind (lead x r):=by
     unfold ind;cases e1:lead y r <;> cases e2:lead x r <;> simp_all
    omega
   obtain⟨q,hq,h1⟩:=mZ this;exact⟨q,AN _ hq,h1⟩
theorem nC {y:List Str}:∀{rs:List T},0 < cnt rs y->∃r∈rs,lead y r=true
 | [],h=>absurd h (BI _)
 | r::rs,h=>by
  by_cases c:lead y r=true
  ·exact⟨r,AJ,c⟩
  ·have:0 < cnt rs y:=by
    rw [cnt_cons] at h;unfold ind at h;rw [if_neg c] at h;omega
   obtain⟨q,hq,h1⟩:=nC this;exact⟨q,AN _ hq,h1⟩
theorem fL {l:List Str}{r:T}:lead l r=true ↔ r.2.2.2∈l/\r.2.2.1∉l:=by
 unfold lead;simp
theorem shortest {P:List Str->Prop}:∀(n:Nat),(∃x,P x/\x.length<=n)->∃x,P x/\∀y,P y->x.length<=y.length
 | 0,⟨x,h,z⟩=>⟨x,h,λy _=>by omega⟩
 | n + 1,⟨x,h,z⟩=>by
  by_cases c:∃x,P x/\x.length<=n
  ·exact shortest n c
  ·exact⟨x,h,λy hy=>by
    have:¬ y.length<=n:=λq=>c ⟨y,hy,q⟩
    omega⟩
structure dY (ps EK fs:List Str) (rem:List T):Prop where
 nd:ps.Nodup
 st:∀r∈rem,r.2.2.1∈ps/\r.2.2.2∈ps
 ge:∀l∈aL ps,0<=Fk rem EK l
 gt:∀l∈aL ps,(∀x∈l,x∉fs)->1<=Fk rem EK l
def nP (ps EK fs:List Str) (rem:List T) (r:T):Prop:=r.2.2.1∈fs/\r.2.2.2∉fs/\∀l∈aL ps,lead l r=true->0 < Fk rem EK l
theorem dY.ex {ps EK fs:List Str}{rem:List T} (G:dY ps EK fs rem) (hx:∃x∈ps,x∉fs):∃r∈rem,nP ps EK fs rem r:=by
 by_cases Ld:∃X,(X∈aL ps/\Fk rem EK X=0/\∃x∈X,x∉fs)
 ·obtain⟨X0,h0⟩:=Ld
  obtain⟨X,⟨hX,hX0,x,Zr,R4⟩,MQ⟩:=shortest (P:=λX=>X∈aL ps/\Fk rem EK X=0/\∃x∈X,x∉fs) X0.length ⟨X0,h0,AF _⟩;obtain⟨sX,_⟩:=(de G.nd).mp hX;have Ji:∀z,z∈(X.filter λp=>!decide (p∈fs)) ↔ z∈X/\z∉fs:=λz=>by simp
  have hY:(X.filter λp=>!decide (p∈fs))∈aL ps:=(de G.nd).mpr ⟨Bi.trans sX,λe=>by
   have:=(Ji x).mpr ⟨Zr,R4⟩
   rw [e] at this;cases this⟩
  have gY:=G.gt _ hY λz hz=>((Ji z).mp hz).2;have nY:=lO (x:=X) (y:=X.filter λp=>!decide (p∈fs)) (λz hz=>((Ji z).mp hz).1) EK;have EM:cnt rem X < cnt rem (X.filter λp=>!decide (p∈fs)):=by
   unfold Fk at gY hX0;omega
  obtain⟨r,hr,h1,h2⟩:=mZ EM;obtain⟨e1,e2⟩:=fL.mp h1;obtain⟨e3,e4⟩:=(Ji _).mp e1;have e5:r.2.2.1∈X:=by
   by_cases c:r.2.2.1∈X
   ·exact c
   ·have:=fL.mpr ⟨e3,c⟩
    rw [h2] at this;cases this
  have e6:r.2.2.1∈fs:=by
   by_cases c:r.2.2.1∈fs
   ·exact c
   ·exact absurd ((Ji _).mpr ⟨e5,c⟩) e2
  refine⟨r,hr,e6,e4,λZ hZ hl=>?_⟩;obtain⟨z1,z2⟩:=fL.mp hl;have hZ0:=G.ge Z hZ
  by_cases c:Fk rem EK Z=0
  ·exfalso
   obtain⟨sZ,_⟩:=(de G.nd).mp hZ;have Kn:∀p,p∈(X.filter λp=>decide (p∈Z)) ↔ p∈X/\p∈Z:=λp=>by simp
   have Mo:∀p,p∈(ps.filter λp=>decide (p∈X\/p∈Z)) ↔ p∈X\/p∈Z:=λp=>by
    simp only [AM,decide_eq_true_eq];exact⟨λh=>h.2,λh=>⟨h.elim (λq=>sX.subset q) (λq=>sZ.subset q),h⟩⟩
   have hI:(X.filter λp=>decide (p∈Z))∈aL ps:=(de G.nd).mpr ⟨Bi.trans sX,λe=>by
    have:=(Kn _).mpr ⟨e3,z1⟩
    rw [e] at this;cases this⟩
   have hU:(ps.filter λp=>decide (p∈X\/p∈Z))∈aL ps:=(de G.nd).mpr ⟨Bi,λe=>by
    have:=(Mo _).mpr (.inl e3)
    rw [e] at this;cases this⟩
   have sm:=oU Kn Mo rem;have nm:=mx Kn Mo EK;have gI:=G.ge _ hI;have gU:=G.ge _ hU;have Ug:Fk rem EK (X.filter λp=>decide (p∈Z))=0:=by
    unfold Fk at *;omega
   have hm:=MQ _ ⟨hI,Ug,r.2.2.2,(Kn _).mpr ⟨e3,z1⟩,e4⟩;have MU:(X.filter λp=>decide (p∈Z)).length < X.length:=B8.mpr ⟨r.2.2.1,e5,by simpa using z2⟩;omega
  ·omega
 ·obtain⟨x,Zm,R4⟩:=hx
  have Km:∀z,z∈(ps.filter λp=>!decide (p∈fs)) ↔ z∈ps/\z∉fs:=λz=>by simp
  have hW:(ps.filter λp=>!decide (p∈fs))∈aL ps:=(de G.nd).mpr ⟨Bi,λe=>by
   have:=(Km x).mpr ⟨Zm,R4⟩
   rw [e] at this;cases this⟩
  have gW:=G.gt _ hW λz hz=>((Km z).mp hz).2;have Ku:0 < cnt rem (ps.filter λp=>!decide (p∈fs)):=by
   unfold Fk at gW;omega
  obtain⟨r,hr,h1⟩:=nC Ku;obtain⟨e1,e2⟩:=fL.mp h1;obtain⟨e3,e4⟩:=(Km _).mp e1;have e6:r.2.2.1∈fs:=by
   by_cases c:r.2.2.1∈fs
   ·exact c
   ·exact absurd ((Km _).mpr ⟨(G.st r hr).1,c⟩) e2
  refine⟨r,hr,e6,e4,λZ hZ hl=>?_⟩;obtain⟨z1,z2⟩:=fL.mp hl;have hZ0:=G.ge Z hZ
  by_cases c:Fk rem EK Z=0
  ·exact absurd ⟨Z,hZ,c,r.2.2.2,z1,e4⟩ Ld
  ·omega
theorem jF {rem:List T}{r:T}{Jh:List T} (h:rem.Perm (r::Jh)) (EK l:List Str):Fk Jh EK l=Fk rem EK l - (ind (lead l r):Nat):=by
 unfold Fk;rw [mX h,cnt_cons];omega
theorem dY.step {ps EK fs:List Str}{rem Jh:List T}{r:T} (G:dY ps EK fs rem) (g:nP ps EK fs rem r) (h:rem.Perm (r::Jh)):dY ps EK (fs++[r.2.2.2]) Jh where
 nd:=G.nd
 st:=λq hq=>G.st q (h.mem_iff.mpr (AN _ hq))
 ge:=λl hl=>by
  rw [jF h];have:=G.ge l hl;unfold ind;cases c:lead l r with
  | true=>have:=g.2.2 l hl c;simp;omega
  | false=>simp;omega
 gt:=λl hl hd=>by
  rw [jF h];have h1:=G.gt l hl λx hx hf=>hd x hx (AZ _ hf);have c:lead l r=false:=by
   cases c:lead l r with
   | false=>rfl
   | true=>exact absurd (AK _ (by simp)) (hd _ (fL.mp c).1)
  rw [c];unfold ind;simp;omega
theorem dY.start {ps EK:List Str}{root:Str}{rs:List T} (nd:ps.Nodup) (st:∀r∈rs,r.2.2.1∈ps/\r.2.2.2∈ps) (h:∀l∈aL ps,0<=Fk rs (root::EK) l):dY ps EK [root] rs where
 nd:=nd
 st:=st
 ge:=λl hl=>by
  have:=h l hl;unfold Fk at this ⊢;rw [eR] at this;omega
 gt:=λl hl hd=>by
  have:=h l hl;unfold Fk at this ⊢;have c:root∉l:=λz=>hd root z (by simp);rw [eR,decide_eq_false c] at this;unfold ind at this;simp at this;omega
end K93
namespace L2
open PySem PySem.Spec PyProof.Rows
open AutoSeq1 (wpAny_loadPart')
section
variable {prog:Program}{w:World}{A:Around}{E:zz9->zz8->Prop}{s:zz8}
theorem pO (hh:A.handled=none) (it t:Addr) (ne:t≠it) (EE:Array zz9):Draws prog w A it [it,t] EE.size (λi v=>EE[i]?=some v) (λi h=>h.IsTupleIter it t i/\h.IsTuple t EE) where
 live:=λ_ _ st=>let ⟨o,ho,_⟩:=st.1;⟨o,ho⟩
 frame:=λ_ _ _ st k=>⟨st.1.at λo e=>k it (by simp) o e,st.2.at λo e=>k t (by simp) o e⟩
 item:=λi s Q E hi st q=>wA st.1 st.2 (v:=EE[i]) (by simp [hi]) λG j b=>q _ G s.toks (by simp [hi]) ⟨j,st.2.extBut b.extBut ne⟩ b
 done:=λs Q E st k=>xS hh st.1 st.2 (by simp) k
theorem vE (t:Addr) (EE:Array zz9):Meets (Builtin.«enumerate.__new__» ⟨[.type "enumerate",.ref t],[]⟩) (λ_ R s=>s.heap.IsTuple t EE /\
   R (.ok (.ret (.ref (s.heap.push { cls:=.type "tuple_iterator",data:=.fields #[.ref t,.int 0 0] }).objs.size)))
    { s with heap:=(s.heap.push { cls:=.type "tuple_iterator",data:=.fields #[.ref t,.int 0 0] }).push { cls:=.type "enumerate",data:=.fields #[.none,.bool false,.ref s.heap.objs.size,rawInt 0,.none,.none] } }) :=
 .of_wp λprog w A R s h=>by
  obtain⟨hp,g,d,tk,os⟩:=s;obtain⟨hT,h⟩:=h;have sb:=sub_enumerate;obtain⟨o,ho,_⟩:=id hT
  wp_walk using wpAny_loadPart' ho
  refine wpAny_stack_any λst=>Az ?_;split
  ·rename_i c _ _ _ _ _
   cases (c == Value.type "enumerate") <;> (wp_walk using wpAny_loadPart' ho,Dh hT;exact⟨_,rfl,h⟩)
  ·wp_walk using wpAny_loadPart' ho,Dh hT;exact⟨_,rfl,h⟩
theorem xi {t:Addr}{EE:Array zz9}{Q:zz9->zz8->Prop} (hT:s.heap.IsTuple t EE)
  (q:∀G,IsEnum G (s.heap.objs.size + 1) s.heap.objs.size 0 .none->G.IsTupleIter s.heap.objs.size t 0->(∀c o,s.heap.get? c=some o->G.get? c=some o)->Q (.ref (s.heap.objs.size + 1)) { s with heap:=G }) :
  wpAny (model prog w) A (call (.type "enumerate") [.ref t]) Q E s:=by
 refine callType_new F.called_enumerate (by decide) (F.typeCall_enumerate_1 _) (F.newCall_enumerate_1 _) (λobj=>F.args_object_init_2 obj _) F.entry_enumerate_new (vE t EE) ⟨hT,?_⟩;have z:(s.heap.push { cls:=.type "tuple_iterator",data:=.fields #[.ref t,.int 0 0] }).objs.size=s.heap.objs.size + 1:=B0 ..;have g2:=AS (s.heap.push { cls:=.type "tuple_iterator",data:=.fields #[.ref t,.int 0 0] }) (o:={ cls:=.type "enumerate",data:=.fields #[.none,.bool false,.ref s.heap.objs.size,rawInt 0,.none,.none] }) rfl;show _/\_;rw [z] at g2 ⊢;exact⟨⟨_,g2,rfl⟩,q _ g2 ⟨_,AA _ (AS _ rfl),rfl,rfl⟩ λc o e=>AA _ (AA _ e)⟩
end
def PP (K:zz7) (a:Addr):It :=
 ⟨λi H=>∃xs x,EG K H a xs/\xs[i]?=some x,
  λi H v H'=>∃T x,v=.ref T/\H T=none/\H'=upd H T (.tup [.int i,x])/\∀xs,EG K H a xs->xs[i]?=some x,
  λi H=>∃xs,EG K H a xs/\xs.length=i⟩
def zP (e it l:Addr) (i:Nat) (h:Heap):Prop:=(∃old,IsEnum h e it i old)/\h.IsTupleIter it l i
theorem xb {P:Program}{w:World}{K:zz7}{elts:List Expr}{x1}{pos:Pos} (e it l:Addr) (O8:e≠it) (Gq:l≠e) (Wh:l≠it) :
  Turn P w K (.Tuple elts x1 pos) (PP K l) [e,it] e (zP e it l) where
 mem:=by simp
 obj:=λi h st b hb=>by
  obtain⟨⟨old,he⟩,⟨o1,e1,c1,d1⟩⟩:=st;simp only [AI,BM,or_false] at hb
  rcases hb with rfl | rfl
  ·exact⟨_,he,λv q=>by cases q⟩
  ·exact⟨_,e1,λv q=>by rw [d1] at q;cases q⟩
 keep:=λi h h' st k=>by
  obtain⟨⟨old,he⟩,h1⟩:=st;exact⟨⟨old,k e (by simp) _ he⟩,h1.at λo q=>k it (by simp) o q⟩
 item:=by
  intro X hP hw hK hc i pins s σ H E I hf st hg;subst hP hw hK;obtain⟨xs,x,FZ,hx⟩:=hg;obtain⟨⟨old,he⟩,h1⟩:=id st;obtain⟨GN,Kh,p1,Ls⟩:=I.tuple FZ;obtain⟨u1,Oz,Rh⟩:=Kh.get hx;have EM:i < GN.toArray.size:=by
   have:=(AE.mp Oz).1;simpa using this
  refine wpAny_pyNext_enum_itemD (pO (A:=X.A.in1) (I.ok.hd hc) it l Wh GN.toArray) he ⟨h1,p1⟩ EM O8 (by simp [O8,Gq.symm]) λx' h' tk Fm a1 a2 a3 a4 a5=>?_;have ex:x'=u1:=by
   have:GN.toArray[i]?=some u1:=by simpa using Oz
   exact Bx (Fm.symm.trans this)
  subst ex;refine⟨_,rfl,wpAny_letOwnedTupleGo_enum (s:={ s with heap:=h',toks:=tk + 1 }) a1 λPq z2 sb=>?_⟩;have JQ:=sb.extBut;generalize hT:s.heap.objs.size=T at *;have lt:∀{b:Addr}{o:Obj},s.heap.get? b=some o->b≠T:=λ{b o} e=>by rw [<- hT];exact Bh (AQ e)
  have fresh:H T=none:=by rw [<- hT];exact I.hok.fresh (AF _)
  have EZ:∀b∈[e,it],b≠T:=λb hb=>by
   obtain⟨o1,e1,_⟩:=h1;simp only [AI,BM,or_false] at hb
   rcases hb with rfl | rfl
   ·exact lt he
   ·exact lt e1
  have I0:Inv X pins σ (upd H T (.tup [.int i,x])) { s with heap:=s.heap.push { cls:=.type "tuple",data:=.seq #[.int i tk,x'] },toks:=s.toks }:=by
   subst hT;exact I.laid (t':=s.toks) (λb o q=>AA _ q) (AF _) ⟨by show 2<=sizeLine;decide,[.int i tk,x'],.cons ⟨_,rfl⟩ (.cons Rh .nil),_,AS _ rfl,rfl,0,rfl⟩
  have up:∀b o,b∉[e,it]->(s.heap.push { cls:=.type "tuple",data:=.seq #[.int i tk,x'] }).get? b=some o->Pq.get? b=some o:=λb o hb q=>by
   simp only [AI,BM,or_false,not_or] at hb
   rcases Heap.get?_push_cases q with ⟨e1,e2⟩ | e1
   ·subst e2
    rw [e1,hT];exact JQ _ _ (EZ e (by simp)).symm a3
   ·exact JQ _ _ hb.1 (a5 b o hb.1 hb.2 e1)
  have I2:Inv X pins σ (upd H T (.tup [.int i,x])) { s with heap:=Pq,toks:=tk + 1 }:=Inv.turnedS (s:={ s with heap:=s.heap.push { cls:=.type "tuple",data:=.seq #[.int i tk,x'] },toks:=s.toks }) (t':=tk + 1) (ch:=[e,it]) I0 up λb hb=>by
   obtain⟨f0,f1⟩:=hf b hb;exact⟨by rw [ao (EZ b hb)];exact f0,f1⟩
  exact⟨.ref T,upd H T (.tup [.int i,x]),I2,rfl,⟨T,x,rfl,fresh,rfl,λws hw=>by rw [I.tuple_inj hw FZ];exact hx⟩,
   ⟨⟨_,by simpa using z2⟩,a2.1.at λo q=>JQ _ _ O8.symm q⟩,λb hb=>by rw [ao (EZ b hb)];exact (hf b hb).1⟩
 done:=by
  intro X hP hw hK hc i pins s σ H E I hf st hg;subst hP hw hK;obtain⟨xs,FZ,hx⟩:=hg;obtain⟨⟨old,he⟩,h1⟩:=id st;obtain⟨GN,Kh,p1,Ls⟩:=I.tuple FZ;have Gg:=Kh.length;have en:i=GN.toArray.size:=by simp;omega
  subst en;refine wpAny_pyNext_enum_endD (pO (A:=X.A.in1) (I.ok.hd hc) it l Wh GN.toArray) he ⟨h1,p1⟩ λh' hk=>⟨rfl,I.turnedS (t':=s.toks) (ch:=[e,it]) (λb o hb q=>?_) hf⟩
  simp only [AI,BM,or_false,not_or] at hb;exact hk b o hb.2 q
 self:=λ_ _ _ _ _ st h=>by obtain⟨⟨old,he⟩,_⟩:=st;exact wpAny_pyIter_enum he h
section
variable {X:Cx}
def z0 (K:zz7) (ta:TA):TI:=λσ H R=>ta σ H λvs H1=>∃a xs,vs=[.ref a]/\EG K H1 a xs/\R (PP K a) H1
theorem xK {a:Expr}{elts:List Expr}{x1}{Iu:Pos}{ta:TA}{p pos:Pos} (hg:Gl X "enumerate") (hm:X.mg "enumerate"=none) (ha:PA X [a] ta) (hs:starEach [a] X.env=[(false,eval a X.env)]:=by rfl) :
  PI X (.Tuple elts x1 Iu) (.Call (.Name "enumerate" p) [a] [] pos) (z0 X.K ta):=by
 intro pins s σ H R I h;refine Call_ (fm I hg hm tT (Cj (EI (ha pos pins s σ H _ I h) λus s1 ⟨vs,H1,I1,r1,q1⟩=>?_) (by rw [hs];rfl) rfl));obtain⟨a',xs,rfl,FZ,q⟩:=q1;obtain⟨u1,rfl,ra⟩:=vals1 r1;cases ra;obtain⟨GN,Kh,p1,Ls⟩:=I1.tuple FZ;have EM:a' < s1.heap.objs.size:=by obtain⟨o,ho,_⟩:=id p1;exact AQ ho
 refine xi p1 λG he hit hk=>wpAny_pyIter_enum he ?_;refine⟨s1.heap.objs.size + 1,[s1.heap.objs.size + 1,s1.heap.objs.size],_,_,H1,rfl,I1.kept (t':=s1.toks) hk,xb _ _ _ (Nat.succ_ne_self _) (Bh (BY EM)) (Bh EM),⟨⟨_,he⟩,hit⟩,λb hb=>?_,q⟩;have Gq:s1.heap.objs.size<=b:=by
  simp only [AI,BM,or_false] at hb
  rcases hb with rfl | rfl
  ·exact C7 _ _
  ·exact AF _
 exact I1.fpOk Gq (I1.hok.fresh Gq)
end
end L2
namespace L2
open PySem
def yC (H0:Hp) (t:TS):TS:=λD σ H=>t { D with nx:=λσ' H'=>∃a o kvs,H' a=some (.frz o (.dT kvs))/\(∀o u,H0 a≠some (.frz o u))/\D.nx σ' (upd H' a (.dT kvs)) } σ H
theorem wo {X:Cx}{st:Stmt}{t:TS} (h:PS X st t):PS X st (yC X.H₀ t):=λpins s σ H D I q=>EI (h pins s σ H _ I q) λf s1 p=>by
 cases f with
 | next =>
  obtain⟨σ',H',I',a,o,kvs,e,h0,d⟩:=p;exact⟨σ',_,I'.thaw e h0 (λ_ z=>by cases z) (λ_ z=>by cases z),d⟩
 | _=>exact p
theorem wy {K:zz7}{a:Addr}{xs:List V}{g:TG}{tb:TS}{D:Ends}{σ:St}{H:Hp} (Pv:Nat->St->Hp->Prop) (h0:Pv 0 σ H) (hl:∀i σ H,i<=xs.length->Pv i σ H->EG K H a xs)
  (hs:∀i x σ H T,xs[i]?=some x->Pv i σ H->H T=none->g (.ref T) σ (upd H T (.tup [.int i,x])) λσ2 H2=>tb { D with nx:=Pv (i + 1),ct:=Pv (i + 1),bk:=D.nx } σ2 H2) (hd:∀σ H,Pv xs.length σ H->D.nx σ H) :
  ∃W:Nat->Nat->St->Hp->Prop,(∃m,W 0 m σ H)/\∀i m σ H,W i m σ H ->
   ((PP K a).stop i H/\D.nx σ H)\/((PP K a).go i H/\∃N:St->Hp->Prop,(∀σ' H',N σ' H'->∃m',m' < m/\W (i + 1) m' σ' H')/\∀x H',(PP K a).yld i H x H'->g x σ H' λσ2 H2=>tb { D with nx:=N,ct:=N,bk:=D.nx } σ2 H2):=by
 refine⟨λi m σ H=>m=xs.length - i/\i<=xs.length/\Pv i σ H,⟨xs.length,by simp,Be _,h0⟩,?_⟩;rintro i m σ H ⟨rfl,hi,p⟩;have q:=hl i σ H hi p
 by_cases EM:i < xs.length
 ·refine .inr ⟨⟨xs,xs[i],q,by simp [EM]⟩,Pv (i + 1),λσ' H' p'=>⟨xs.length - (i + 1),by omega,rfl,EM,p'⟩,λx H' y=>?_⟩
  obtain⟨T,x',rfl,hT,rfl,e1⟩:=y;exact hs i x' σ H T (e1 xs q) p hT
 ·have e:i=xs.length:=by omega
  subst e;exact .inl ⟨⟨xs,q,rfl⟩,hd σ H p⟩
end L2
namespace K93
open PySem L2
abbrev FX (f:List Str->Int) (ls:List (List Str)):List (List Key×V):=ls.map λl=>(bh l,V.int (f l))
theorem iB {f:List Str->Int}:∀{ls:List (List Str)}{l:List Str},l∈ls->bf (FX f ls) (bh l)=some (.int (f l))
 | m::r,l,h=>by
  show bf ((bh m,V.int (f m))::FX f r) (bh l)=_
  by_cases e:m=l
  ·subst e;exact cR rfl
  ·rw [cM (λz=>e (gw z))]
   exact iB ((AI.mp h).resolve_left λz=>e z.symm)
def fX (f:List Str->Int) (ls:List (List Str)) (fs:List Str) (r:T):Bool:=decide (r.2.2.1∈fs) && !decide (r.2.2.2∈fs) && ls.all λl=>!lead l r || decide (0 < f l)
def dD (f:List Str->Int) (ls:List (List Str)) (fs:List Str) (r:T):Prop:=r.2.2.1∈fs/\r.2.2.2∉fs/\∀l∈ls,lead l r=true->0 < f l
theorem lN {f:List Str->Int}{ls:List (List Str)}{fs:List Str}{r:T}:fX f ls fs r=true ↔ dD f ls fs r:=by
 unfold fX dD;rw [BL,BL,B4,decide_eq_true_iff];constructor
 ·rintro⟨⟨h1,h2⟩,h3⟩
  refine⟨h1,by simpa using h2,λl hl Gq=>?_⟩;have:=h3 l hl;rw [Gq] at this;simpa using this
 ·rintro⟨h1,h2,h3⟩
  refine⟨⟨h1,by simpa using h2⟩,λl hl=>?_⟩;cases c:lead l r with
  | false=>rfl
  | true=>simpa using h3 l hl c
theorem wU {f:List Str->Int}{ls:List (List Str)}{fs:List Str}{rs:List T}{i:Nat}{r:T} (hi:rs[i]?=some r) (Fo:∀q∈rs.take i,¬ dD f ls fs q) (hg:dD f ls fs r):rs.find? (fX f ls fs)=some r:=by
 obtain⟨EM,e⟩:=AE.mp hi;have es:rs=rs.take i++r::rs.drop (i + 1):=by
  conv=>lhs;rw [<- List.take_append_drop i rs,Et EM,e]
 rw [es,List.find?_append,Ed.mpr λq hq c=>Fo q hq (lN.mp c),List.find?_cons_of_pos (lN.mpr hg)];rfl
variable {P:Program}{w:World}{K:zz7}{mg:Str->Option zz9}{base:Heap}{f:Addr}{fd:FuncData}
def pP:Sp:=λvs H Q _=>∃(ra fo sd:Addr) (rs:List T) (fs:List Str) (f:List Str->Int) (ls:List (List Str)),vs=[.ref ra,.ref fo,.ref sd]/\(H ra=some (.lst (aj rs))\/H ra=some (.tup (aj rs)))/\(∀r∈rs,b7 H r.1 r.2) /\
 H fo=some (.lst (fs.map V.str))/\H sd=some (.dT (FX f ls))/\ls.length<=255/\(∃r∈rs,dD f ls fs r) /\
 ∀(r:T) (t en:Addr) (lts:List (Addr×List Str)) (H':Hp),af H H'->r∈rs->dD f ls fs r->rs.find? (fX f ls fs)=some r->H' t=some (.tup [.ref r.1,.ref en])->H' en=some (.lst (ah lts))->aJ H' lts->lts.map (·.2)=ls.filter (λl=>lead l r)->H en=none->Q (.ref t) H'
abbrev N39:List Str:=["rows","found","spare","row","entered"]
theorem kP:aH N39 ["rows","found","spare"] (aC (top 39)):=⟨rfl,rfl,rfl,by decide +kernel,rfl,by decide +kernel,by decide +kernel⟩
theorem xg (F:EW K "next_row" "next_row" (top 39) f fd) (B:Bl mg) (F1:Fn P w K mg base 1 "leads_into" ["row","lot"] iX):aD P w K mg base EU 2 f fd ["rows","found","spare"] pP:=by
 refine F.ok kP (λvs H Q E h=>?_) (λ_ _ _ _ H vs Q E hr h=>?_)
 ·obtain⟨ra,fo,sd,rs,fs,f,ls,rfl,_⟩:=h
  rfl
 ·obtain⟨ra,fo,sd,rs,fs,f,ls,rfl,GV,ER,FF,Mw,JA,hex,k⟩:=h
  have E7:aQ 1 _:=hr.mono (by decide)
  refine⟨_,ak (bZ Bm rfl (i6 (bv (pv 0)) (bC (pv 0))) (bc (i:=3) kP.nd rfl (Or.inr rfl))
    (ar (aS (PW.pt (gH (aB cW (ax aG (pv 3) am (λ_ _=>rfl)) (pv 1) (by with_unfolding_all rfl)) (gA (aB fA (ax aG (pv 3) am (λ_ _=>rfl)) (pv 1) (by with_unfolding_all rfl)))))
     (ak (wo (dB (i:=4) (N:=["lot","row"]) (ix:=[none,some 3]) kP.nd rfl (Or.inl rfl) ⟨rfl,rfl,rfl,by decide⟩ rfl (nJ (pv 2)) (λ_ _ _ _=>aF 0 (by decide) rfl rfl) (λ_ _ _ _=>bL (bM (aq F1 E7 (aa (pv 1) (aa (pv 0) ae))))) (λ_ _ _ _=>pv 0)))
     (ar (aS (bM (au (eU rfl) rfl B.all eZ (aa (aZ (N:=["lot","spare"]) (ix:=[none,some 2]) ⟨rfl,rfl,rfl,by decide⟩ rfl (bv (pv 4)) (λ_ _ _ _=>aF 0 (by decide) rfl rfl) (λ_ _ _ _=>bz)
      (λ_ _ _ _=>cS kr (fi (dH hr) (pv 1) (pv 0) (λ_ _=>rfl)) am (aT _))) ae)))
      (ar (aM (cf (aa (pv 3) (aa (pv 4) ae))))) aV))) aV)))
   (ar (aM xJ)),?_⟩
  refine jK (K:=K) (Hb:=H) (a:=ra) (xs:=aj rs) (λQ q=>⟨_,rfl,q⟩) GV (af.refl H) (λi σ H1=>af H H1/\(∃g1 g2,σ=[some (.ref ra),some (.ref fo),some (.ref sd),g1,g2])/\∀r∈rs.take i,¬ dD f ls fs r)
   ⟨af.refl _,⟨_,_,rfl⟩,by simp⟩ (λi σ H1 _ q=>q.1) ?_ ?_
  ·rintro i x σ H1 hx ⟨s1,⟨g1,g2,rfl⟩,Fo⟩
   obtain⟨r,FS,rfl⟩:=bY hx;have GO:=AB FS;have FE:=s1 _ _ (ER r GO);have f1:=s1 _ _ FF;have step:¬ dD f ls fs r->∀q∈rs.take (i + 1),¬ dD f ls fs q:=λhn q hq=>by
    rw [Bg,FS] at hq
    rcases AO.mp hq with z | z
    ·exact Fo q z
    ·have e:q=r:=by simpa using z
     rw [e];exact hn
   refine⟨_,rfl,ay (j:=1) (.inr (EG.of FE)) rfl rfl ⟨_,rfl,fo,_,rfl,.inl (EF.of f1),rfl,aW _,_,rfl,?_⟩⟩;rw [aX];show if decide (r.2.2.1∈fs)=true then _ else _
   by_cases c1:r.2.2.1∈fs
   ·rw [decide_eq_true c1]
    refine bK ⟨_,rfl,ay (j:=2) (.inr (EG.of FE)) rfl rfl ⟨_,rfl,fo,_,rfl,.inl (EF.of f1),rfl,aW _,_,rfl,?_⟩⟩;rw [aX];show if (!decide (r.2.2.2∈fs))=true then _ else _
    by_cases c2:r.2.2.2∈fs
    ·rw [decide_eq_true c2]
     exact aN ⟨s1,⟨_,_,rfl⟩,step λg=>g.2.1 c2⟩
    ·rw [decide_eq_false c2]
     refine bK ⟨_,rfl,sd,_,rfl,s1 _ _ Mw,λo=>?_⟩;have NF:=s1 _ _ Mw;have e1:upd H1 sd (.frz o (.dT (FX f ls))) sd=some (.frz o (.dT (FX f ls))):=ag;have Rj:upd H1 sd (.frz o (.dT (FX f ls))) r.1=some (.tup [.str r.2.1,.str r.2.2.1,.str r.2.2.2]):=by
      rw [ao (λz=>by rw [z,NF] at FE;cases FE)];exact FE
     refine wb (a:=sd) (o:=o) (kvs:=FX f ls) (fits (by rw [Av];omega)) (λj ys σ H2=>H2=upd H1 sd (.frz o (.dT (FX f ls)))/\(∃x,σ=[x,some (.ref r.1)])/\∃lts:List (Addr×List Str),ys=ah lts/\lts.length<=j/\aJ H1 lts/\lts.map (·.2)=(ls.take j).filter (λl=>lead l r))
      ⟨rfl,⟨_,rfl⟩,[],rfl,AF _,(λx hx=>nomatch hx),rfl⟩ (λj ys σ H2 _ p=>by obtain⟨rfl,_,lts,rfl,hz,_⟩:=p;exact⟨by simpa using hz,e1⟩) ?_ ?_
     ·rintro j p b ys σ H2 hp hb ⟨rfl,⟨x,rfl⟩,lts,rfl,hz,hA,hm⟩
      rw [AH] at hp;cases hc:ls[j]? with
      | none=>rw [hc] at hp;cases hp
      | some l =>
       rw [hc] at hp;cases hp;have hb':upd H1 sd (.frz o (.dT (FX f ls))) b=some (.tup (l.map V.str)):=by rw [<- dO];exact hb
       have HB:H1 b=some (.tup (l.map V.str)):=by
        rw [ao (λz=>by rw [z,ag] at hb';cases hb')] at hb';exact hb'
       have tf:=bH (λl:List Str=>lead l r) ls j l hc;refine⟨_,rfl,_,rfl,b,r,l,rfl,Rj,hb',_,rfl,aU (λc=>⟨_,rfl,rfl,⟨_,rfl⟩,lts++[(b,l)],?_,?_,?_,?_⟩) (λc=>⟨rfl,⟨_,rfl⟩,lts,rfl,by omega,hA,?_⟩)⟩
       ·simp
       ·rw [Ba];simp;omega
       ·intro x hx
        rcases AO.mp hx with z | z
        ·exact hA x z
        ·have e:x=(b,l):=by simpa using z
         subst e;exact HB
       ·rw [AU,hm,tf,c];simp
       ·rw [hm,tf];simp only [BA] at c;rw [c];simp
     rintro ys σ H2 ⟨rfl,⟨x,rfl⟩,lts,rfl,hz,hA,hm⟩ en Hz;rw [take_all ls (by simp)] at hm;have RC:en≠sd:=λz=>by rw [z,ag] at Hz;cases Hz
     have O5:H1 en=none:=by rw [ao RC] at Hz;exact Hz
     refine⟨sd,o,_,by rw [ao RC.symm];exact ag,λo' u' (z:H sd=_)=>(by rw [Mw] at z;cases z),?_⟩;have s2:af H1 (upd (upd (upd H1 sd (.frz o (.dT (FX f ls)))) en (.lst (ah lts))) sd (.dT (FX f ls))):=λb ob e=>by
      by_cases z:b=sd
      ·subst z;rw [ag,<- e,NF]
      ·rw [ao z,ao (aR e O5),ao z];exact e
     have QH:(upd (upd (upd H1 sd (.frz o (.dT (FX f ls)))) en (.lst (ah lts))) sd (.dT (FX f ls))) en=some (.lst (ah lts)):=by rw [ao RC,ag]
     generalize upd (upd (upd H1 sd (.frz o (.dT (FX f ls)))) en (.lst (ah lts))) sd (.dT (FX f ls))=H3 at s2 QH ⊢;have hd3:=s2 _ _ NF;have RX:lts.length<=255:=by
      have e2:=congrArg List.length hm;rw [Av] at e2;have:=AL (λl:List Str=>lead l r) ls;omega
     have Jw:∀x∈lts,x.2∈ls/\lead x.2 r=true:=λx hx=>by
      have:x.2∈lts.map (·.2):=AC hx;rw [hm] at this;exact AM.mp this
     refine⟨_,rfl,en,rfl,⟨_,EF.of QH⟩,c9 (xs:=ah lts) (fits (by rw [Av];omega)) (λj ys σ H4=>ys=((lts.take j).map λx=>decide (0 < f x.2)).map V.bl/\H4=H3/\∃x,σ=[x,some (.ref sd)]) ⟨rfl,rfl,_,rfl⟩
      (λj ys σ H4 _ p=>⟨by rw [p.1];simp;omega,by rw [p.2.1];exact EF.of QH⟩) ?_ ?_⟩
     ·rintro j y ys σ H4 hy ⟨rfl,rfl,x,rfl⟩
      obtain⟨lt,EM,rfl⟩:=cz hy;have Wd:=AB EM;have gd:b8 H4 sd (.ref lt.1) (some (.int (f lt.2))):=by
       rw [<- iB (f:=f) (Jw lt Wd).1];exact b8.t hd3 (by rw [dO];exact s2 _ _ (hA lt Wd))
      refine⟨_,rfl,_,rfl,sd,_,rfl,gd,_,_,rfl,rfl,?_,rfl,_,rfl⟩;rw [Bg,EM];simp
     ·rintro ys σ H4 ⟨rfl,rfl,x,rfl⟩ al Pl
      rw [take_all lts (by simp)];refine⟨al,_,rfl,EF.of ag,_,rfl,?_⟩;have s4:=ai (o:=.lst ((lts.map λx=>decide (0 < f x.2)).map V.bl)) (af.refl H4) Pl;generalize upd H4 al (.lst ((lts.map λx=>decide (0 < f x.2)).map V.bl))=H5 at s4 ⊢;have JT:=s1.trans (s2.trans s4);refine aU (λc=>?_) (λc=>⟨JT,⟨_,_,rfl⟩,step λg=>c ?_⟩)
      ·refine⟨_,rfl,_,rfl,by show 2<=sizeLine;decide,λt ht=>?_⟩
       have s6:=ai (o:=.tup [.ref r.1,.ref en]) (af.refl H5) ht
       have LJ:dD f ls fs r:=⟨c1,c2,λl hl Gq=>by
        have HQ:l∈lts.map (·.2):=by rw [hm];exact AM.mpr ⟨hl,Gq⟩
        obtain⟨x,hx,rfl⟩:=AG.mp HQ;have:=B4.mp c (decide (0 < f x.2)) (AC (f:=λx:Addr×List Str=>decide (0 < f x.2)) hx)
        exact of_decide_eq_true this⟩
       exact k r t en lts _ (JT.trans s6) GO LJ (wU FS Fo LJ) ag (s6 _ _ (s4 _ _ QH)) (λx hx=>s6 _ _ (s4 _ _ (s2 _ _ (hA x hx)))) hm (s1.free O5)
      ·refine B4.mpr λb hb=>?_
       obtain⟨x,hx,rfl⟩:=AG.mp hb;obtain⟨h1,h2⟩:=Jw x hx;exact decide_eq_true (g.2.2 _ h1 h2)
   ·rw [decide_eq_false c1]
    exact aN (aN ⟨s1,⟨_,_,rfl⟩,step λg=>c1 g.1⟩)
  ·rintro σ H1 ⟨s1,⟨g1,g2,rfl⟩,Fo⟩
   rw [take_all rs (by simp)] at Fo;obtain⟨r,EV,hg⟩:=hex;exact absurd hg (Fo r EV)
theorem vU {f:List Str->Int}{ls:List (List Str)}{l:List Str}{z:Int} (h:l∈ls):putK (FX f ls) (bh l) (.int z)=FX (λm=>if m=l then z else f m) ls:=by
 unfold putK;have ha:((FX f ls).any λkv=>decide (kv.1=bh l))=true:=by rw [eA,iB h];rfl
 rw [if_pos ha];unfold FX;rw [Bf];refine Cp λm _=>?_;show (if bh m=bh l then (bh m,V.int z) else (bh m,V.int (f m)))=_
 by_cases e:m=l
 ·subst e;simp
 ·rw [if_neg (λq=>e (gw q))]
  show _=(bh m,V.int (if m=l then z else f m));rw [if_neg e]
theorem jz {f g:List Str->Int}{ls:List (List Str)} (h:∀l∈ls,f l=g l):FX f ls=FX g ls:=Cp λl hl=>by rw [h l hl]
abbrev ends (tr:List T):List Str:=tr.map λr=>r.2.2.2
structure Ip (root:Str) (ps:List Str) (tr:List T):Prop where
 nd:(root::ends tr).Nodup
 sub:∀x∈root::ends tr,x∈ps
 ord:∀i r,tr[i]?=some r->r.2.2.1∈root::ends (tr.take i)
theorem Ip.start {root:Str}{ps:List Str} (h:root∈ps):Ip root ps []:=⟨by simp,by simpa using h,λi r e=>by simp at e⟩
theorem Ip.add {root:Str}{ps:List Str}{tr:List T}{r:T} (S:Ip root ps tr) (h1:r.2.2.1∈root::ends tr) (h2:r.2.2.2∉root::ends tr) (h3:r.2.2.2∈ps):Ip root ps (tr++[r]) where
 nd:=by
  have e:root::ends (tr++[r])=(root::ends tr)++[r.2.2.2]:=by simp [ends]
  rw [e]
  exact BF.mpr ⟨S.nd,by simp,λa ha b hb=>by
   have:b=r.2.2.2:=by simpa using hb
   rw [this]
   exact λz=>h2 (z ▸ ha)⟩
 sub:=λx hx=>by
  have e:root::ends (tr++[r])=(root::ends tr)++[r.2.2.2]:=by simp [ends]
  rw [e] at hx
  rcases AO.mp hx with z | z
  ·exact S.sub x z
  ·have:x=r.2.2.2:=by simpa using z
   rw [this];exact h3
 ord:=λi q hq=>by
  by_cases hi:i < tr.length
  ·rw [By hi] at hq
   rw [List.take_append_of_le_length (by omega)];exact S.ord i q hq
  ·rw [BQ (by omega)] at hq
   have hz:i - tr.length=0:=by
    cases hc:i - tr.length with
    | zero=>rfl
    | succ n=>rw [hc] at hq;simp at hq
   rw [hz] at hq;have e:q=r:=by simpa using hq.symm
   subst e;have:i=tr.length:=by omega
   subst this;rw [List.take_left']
   ·exact h1
   ·rfl
theorem cF:∀{a b:List Str},a.Nodup->(∀x∈a,x∈b)->a.length<=b.length
 | [],_,_,_=>Be _
 | x::a,b,hn,hs=>by
  obtain⟨h1,h2⟩:=Bc.mp hn;have hx:=hs x AJ;have ih:=cF (a:=a) (b:=b.erase x) h2 (λy hy=>(List.mem_erase_of_ne (a:=y) (b:=x) (λz:y=x=>h1 (z ▸ hy))).mpr (hs y (AN _ hy)));rw [List.length_erase_of_mem hx] at ih;have:=List.length_pos_of_mem hx;simp;omega
theorem yf {a b:List Str} (hn:a.Nodup) (hs:∀x∈a,x∈b) (hb:b.Nodup) (hl:b.length<=a.length):∀x∈b,x∈a:=λx hx=>by
 by_cases c:x∈a
 ·exact c
 ·have:=cF (a:=x::a) (b:=b) (Bc.mpr ⟨c,hn⟩) (λy hy=>by
   rcases AI.mp hy with z | z
   ·rw [z];exact hx
   ·exact hs y z)
  simp at this;omega
theorem xQ {a b:List Str} (hb:b.Nodup) (hl:a.length < b.length):∃x∈b,x∉a:=by
 by_cases c:∃x∈b,x∉a
 ·exact c
 ·have:∀x∈b,x∈a:=λx hx=>by
   by_cases d:x∈a
   ·exact d
   ·exact absurd ⟨x,hx,d⟩ c
  have:=cF hb this;omega
def cX (ps later:List Str) (rs:List T) (root:Str):Nat->List T×List T
 | 0=>([],rs)
 | n + 1=>match rs.find? (fX (Fk (cX ps later rs root n).2 later) (aL ps) (root::ends (cX ps later rs root n).1)) with
  | some r=>((cX ps later rs root n).1++[r],(cX ps later rs root n).2.erase r)
  | none=>cX ps later rs root n
theorem sj {ps later:List Str}{rs tr rem:List T}{root:Str}{n:Nat}{r:T} (h:cX ps later rs root n=(tr,rem)) (hf:rs.find? (fX (Fk rem later) (aL ps) (root::ends tr))=some r):cX ps later rs root (n + 1)=(tr++[r],rem.erase r):=by
 unfold cX;rw [h]
 dsimp only
 rw [hf]
def oO:Sp:=λvs H Q _=>∃(pa ra la:Addr) (root:Str) (ps later:List Str) (rs:List T),vs=[.ref pa,.ref ra,.str root,.ref la]/\H pa=some (.tup (ps.map V.str))/\(H ra=some (.lst (aj rs))\/H ra=some (.tup (aj rs)))/\(∀r∈rs,b7 H r.1 r.2)/\rs.length<=60 /\
 ps.Nodup/\ps.length<=8/\root∈ps/\(∀r∈rs,r.2.2.1∈ps/\r.2.2.2∈ps)/\H la=some (.tup (later.map V.str))/\later.length<=100/\(∀l∈aL ps,0<=Fk rs (root::later) l) /\
 ∀(q:Addr) (tr rem:List T) (H':Hp),af H H'->H q=none->H' q=some (.lst (aj tr))->rs.Perm (tr++rem)->(∀l∈aL ps,0<=Fk rem later l)->Ip root ps tr->tr.length + 1=ps.length->cX ps later rs root (ps.length - 1)=(tr,rem)->Q (.ref q) H'
abbrev N40:List Str:=["places","rows","root","later","spare","found","tree","row","entered","lot"]
theorem fw:aH N40 ["places","rows","root","later"] (aC (top 40)):=⟨rfl,rfl,rfl,by decide +kernel,rfl,by decide +kernel,by decide +kernel⟩
theorem uX (F:EW K "grown" "grown" (top 40) f fd) (B:Bl mg) (F1:Fn P w K mg base 3 "spare_into" ["rows","lots","roots"] j8) (F2:Fn P w K mg base 1 "lots_among" ["places"] jL) (F3:Fn P w K mg base 2 "next_row" ["rows","found","spare"] pP):aD P w K mg base EU 4 f fd ["places","rows","root","later"] oO:=by
 refine F.ok fw (λvs H Q E h=>?_) (λ_ _ _ _ H vs Q E hr h=>?_)
 ·obtain⟨pa,ra,la,root,ps,later,rs,rfl,_⟩:=h
  rfl
 ·obtain⟨pa,ra,la,root,ps,later,rs,rfl,Ny,GV,ER,Hr,Fz,h8,EO,GE,LG,OY,NA,k⟩:=h
  have E7:aQ 1 _:=hr.mono (by decide);have Ge:aQ 2 _:=hr.mono (by decide)
  refine⟨_,ak (aA (i:=4) fw.nd rfl (Or.inl rfl) (aq F1 hr (aa (pv 1) (aa (aq F2 E7 (aa (pv 0) ae)) (aa (pv 3) ae)))))
   (ak (aA (i:=5) fw.nd rfl (Or.inl rfl) (bw (aa (pv 2) ae)))
   (ak (aA (i:=6) fw.nd rfl (Or.inl rfl) (bw ae))
   (ak (jR Bm (aB jc (au bb rfl B.len AY (aa (pv 5) ae)) (au bb rfl B.len AY (aa (pv 0) ae)) (aT _))
    (ak (fq (aq F3 Ge (aa (pv 1) (aa (pv 5) (aa (pv 4) ae)))) (dU rfl (n:=2) (bG (bc (i:=7) fw.nd rfl (Or.inl rfl)) (bG (bc (i:=8) fw.nd rfl (Or.inl rfl)) dq))))
    (ak (bg (cH Bo BB BC dj (pv 5) (aa (ax aG (pv 7) am (λ_ _=>rfl)) ae)))
    (ak (bg (cH Bo BB BC dj (pv 6) (aa (pv 7) ae)))
    (ar (bZ Bm rfl (bv (pv 8)) (bc (i:=9) fw.nd rfl (Or.inl rfl)) (ar (nL (dH hr) (pv 4) (pv 9) am xI (λ_ _ _=>rfl)))))))))
   (ar (aM (pv 6)))))),?_⟩
  refine⟨_,rfl,_,rfl,pa,ps,rfl,.inr Ny,h8,λq lts H1 s1 q1 A1 e1=>?_⟩;have JX:lts.length<=255:=by
   have e2:=congrArg List.length e1;rw [Av] at e2;have e3:=iC ps;have e4:=iV h8;omega
  refine⟨_,rfl,ra,q,la,rs,lts,later,rfl,GV.imp (s1 _ _) (s1 _ _),λr hr=>s1 _ _ (ER r hr),Hr,q1,A1,by rw [e1];exact il Fz,JX,s1 _ _ LG,OY,λsd H2 s2 Mv d2=>?_⟩;rw [e1] at d2;have OX:(aL ps).length<=255:=by rw [<- e1,Av];exact JX
  have FN:=s1.trans s2;have Mw:H sd=none:=s1.free Mv;refine⟨_,rfl,by show 1<=sizeLine;decide,λfo FF=>?_⟩;have s3:=ai (o:=.lst [.str root]) FN FF;have f3:upd H2 fo (.lst [.str root]) fo=some (.lst ((root::ends []).map V.str)):=ag;have Rv:sd≠fo:=aR d2 FF;have d3:upd H2 fo (.lst [.str root]) sd=some (.dT (FX (Fk rs later) (aL ps))):=by rw [ao Rv];exact d2
  generalize upd H2 fo (.lst [.str root])=H3 at s3 f3 d3 ⊢;refine⟨Be _,λtk GI=>?_⟩;have G9:H fo=none:=FN.free FF;have G7:H tk=none:=s3.free GI;have Ru:sd≠tk:=aR d3 GI;have Mm:fo≠tk:=aR f3 GI;have s4:=ai (o:=.lst []) s3 GI;have d4:upd H3 tk (.lst []) sd=some (.dT (FX (Fk rs later) (aL ps))):=by rw [ao Ru];exact d3
  have f4:upd H3 tk (.lst []) fo=some (.lst ((root::ends []).map V.str)):=by rw [ao Mm];exact f3
  have t4:upd H3 tk (.lst []) tk=some (.lst (aj [])):=ag;generalize upd H3 tk (.lst [])=H4 at s4 d4 f4 t4 ⊢
  refine⟨λm σ H5=>∃(tr rem:List T) (g1 g2 g3:Option V),σ=[some (.ref pa),some (.ref ra),some (.str root),some (.ref la),some (.ref sd),some (.ref fo),some (.ref tk),g1,g2,g3]/\m=100 - tr.length/\rs.Perm (tr++rem)/\dY ps later (root::ends tr) rem/\Ip root ps tr/\cX ps later rs root tr.length=(tr,rem)/\af H H5/\H5 sd=some (.dT (FX (Fk rem later) (aL ps)))/\H5 fo=some (.lst ((root::ends tr).map V.str))/\H5 tk=some (.lst (aj tr)),
   ⟨_,[],rs,none,none,none,rfl,rfl,Cr _,dY.start Fz GE NA,Ip.start EO,rfl,s4,d4,f4,t4⟩,?_⟩
  rintro m σ H5 ⟨tr,rem,g1,g2,g3,rfl,rfl,hp,G,S,gF,s5,d5,f5,t5⟩;have FY:tr.length + 1<=ps.length:=by
   have:=cF S.nd S.sub;simpa using this
  refine⟨_,rfl,fo,_,rfl,.inl (EF.of f5),_,rfl,pa,_,rfl,.inr (EG.of (s5 _ _ Ny)),_,_,rfl,rfl,_,rfl,aU (λc=>?_) (λc=>?_)⟩
  ·have EM:tr.length + 1 < ps.length:=by
    have:=of_decide_eq_true c;simp at this;omega
   refine⟨λσ' H'=>∃m',m' < 100 - tr.length/\∃(tr rem:List T) (g1 g2 g3:Option V),σ'=[some (.ref pa),some (.ref ra),some (.str root),some (.ref la),some (.ref sd),some (.ref fo),some (.ref tk),g1,g2,g3]/\m'=100 - tr.length/\rs.Perm (tr++rem)/\dY ps later (root::ends tr) rem/\Ip root ps tr/\cX ps later rs root tr.length=(tr,rem)/\af H H'/\H' sd=some (.dT (FX (Fk rem later) (aL ps)))/\H' fo=some (.lst ((root::ends tr).map V.str))/\H' tk=some (.lst (aj tr)),λσ' H' q=>q,?_⟩;have hex:∃r∈rs,dD (Fk rem later) (aL ps) (root::ends tr) r:=by
    obtain⟨r,hr,hg⟩:=G.ex (xQ Fz (by simpa using EM));exact⟨r,hp.mem_iff.mpr (AK _ hr),hg⟩
   refine⟨_,rfl,_,rfl,_,rfl,ra,fo,sd,rs,root::ends tr,Fk rem later,aL ps,rfl,GV.imp (s5 _ _) (s5 _ _),λr hr=>s5 _ _ (ER r hr),f5,d5,OX,hex,λr t en lts H6 s6 hr hg O3 t6 en6 A6 m6 Hz=>?_⟩;have HL:=s5.trans s6;have OD:=HL _ _ (ER r hr);have SE:r∈rem:=by
    rcases AO.mp (hp.mem_iff.mp hr) with z | z
    ·exact absurd (AN _ (AC (f:=λr:T=>r.2.2.2) z)) hg.2.1
    ·exact z
   have OH:=List.perm_cons_erase SE;have G':=G.step hg OH;have S':=S.add hg.1 hg.2.1 (GE r hr).2;have Gv:rs.Perm ((tr++[r])++rem.erase r):=by
    rw [Ci];exact hp.trans (OH.append_left tr)
   have ee:(root::ends tr)++[r.2.2.2]=root::ends (tr++[r]):=by simp [ends]
   rw [ee] at G';have d6:=s6 _ _ d5;have f6:=s6 _ _ f5;have XD:=s6 _ _ t5;have RB:en≠sd:=λz=>by rw [z,d5] at Hz;cases Hz
   have RA:en≠fo:=λz=>by rw [z,f5] at Hz;cases Hz
   have Rz:en≠tk:=λz=>by rw [z,t5] at Hz;cases Hz
   refine⟨t,_,rfl,EG.of t6,rfl,_,_,rfl,_,_,rfl,rfl,?_⟩;have TK:(root::ends tr).length<=8:=by simp;omega
   refine⟨_,rfl,.inl ⟨rfl,_,EF.of f6⟩,_,rfl,ay (j:=2) (.inr (EG.of OD)) rfl rfl ⟨fo,_,_,rfl,rfl,f6,fits (by rw [Av];omega),?_⟩⟩;have s7:=ff (o:=.lst ((root::ends tr).map V.str++[V.str r.2.2.2])) HL G9;have f7:upd H6 fo (.lst ((root::ends tr).map V.str++[V.str r.2.2.2])) fo=some (.lst ((root::ends (tr++[r])).map V.str)):=by rw [ag];simp [ends]
   have d7:upd H6 fo (.lst ((root::ends tr).map V.str++[V.str r.2.2.2])) sd=some (.dT (FX (Fk rem later) (aL ps))):=by rw [ao Rv];exact d6
   have t7:upd H6 fo (.lst ((root::ends tr).map V.str++[V.str r.2.2.2])) tk=some (.lst (aj tr)):=by rw [ao Mm.symm];exact XD
   have WM:upd H6 fo (.lst ((root::ends tr).map V.str++[V.str r.2.2.2])) en=some (.lst (ah lts)):=by rw [ao RA];exact en6
   have A7:aJ (upd H6 fo (.lst ((root::ends tr).map V.str++[V.str r.2.2.2]))) lts:=λx hx=>by
    have:=A6 x hx;rw [ao (λz=>by rw [z,f6] at this;cases this)];exact this
   generalize upd H6 fo (.lst ((root::ends tr).map V.str++[V.str r.2.2.2]))=H7 at s7 f7 d7 t7 WM A7 ⊢;refine⟨_,rfl,.inl ⟨rfl,_,EF.of t7⟩,_,rfl,tk,_,_,rfl,rfl,t7,fits (by rw [Av];omega),?_⟩;have s8:=ff (o:=.lst (aj tr++[V.ref r.1])) s7 G7;have t8:upd H7 tk (.lst (aj tr++[V.ref r.1])) tk=some (.lst (aj (tr++[r]))):=by rw [ag];simp [aj]
   have d8:upd H7 tk (.lst (aj tr++[V.ref r.1])) sd=some (.dT (FX (Fk rem later) (aL ps))):=by rw [ao Ru];exact d7
   have f8:upd H7 tk (.lst (aj tr++[V.ref r.1])) fo=some (.lst ((root::ends (tr++[r])).map V.str)):=by rw [ao Mm];exact f7
   have Us:upd H7 tk (.lst (aj tr++[V.ref r.1])) en=some (.lst (ah lts)):=by rw [ao Rz];exact WM
   have A8:aJ (upd H7 tk (.lst (aj tr++[V.ref r.1]))) lts:=λx hx=>by
    have:=A7 x hx;rw [ao (λz=>by rw [z,t7] at this;cases this)];exact this
   generalize upd H7 tk (.lst (aj tr++[V.ref r.1]))=H8 at s8 t8 d8 f8 Us A8 ⊢;have Y6:(lts.map (·.2)).Nodup:=by rw [m6];exact (il Fz).filter _
   have Jw:∀x∈lts,x.2∈aL ps/\lead x.2 r=true:=λx hx=>by
    have:x.2∈lts.map (·.2):=AC hx;rw [m6] at this;exact AM.mp this
   refine⟨_,rfl,en,rfl,⟨_,EF.of Us⟩,eB (K:=K) (a:=en) (xs:=ah lts) (λj σ H9=>(∃g3,σ=[some (.ref pa),some (.ref ra),some (.str root),some (.ref la),some (.ref sd),some (.ref fo),some (.ref tk),some (.ref r.1),some (.ref en),g3])/\af H H9/\H9 sd=some (.dT (FX (λl=>Fk rem later l - (if l∈(lts.take j).map (·.2) then 1 else 0)) (aL ps)))/\H9 fo=some (.lst ((root::ends (tr++[r])).map V.str))/\H9 tk=some (.lst (aj (tr++[r])))/\H9 en=some (.lst (ah lts))/\aJ H9 lts)
    ⟨⟨_,rfl⟩,s8,?_,f8,t8,Us,A8⟩ (λj σ H9 _ p=>EF.of p.2.2.2.2.2.1) ?_ ?_⟩
   ·rw [d8]
    refine congrArg (λx=>some (HO.dT x)) (jz λl _=>?_);simp
   ·rintro j x σ H9 hx ⟨⟨g3,rfl⟩,s9,d9,f9,t9,WL,A9⟩
    obtain⟨lt,EM,rfl⟩:=cz hx;have hm:=AB EM;have MN:lt.2∉(lts.take j).map (·.2):=λS0=>by
     have nd:=Y6.sublist ((C4 (j + 1) lts).map (λx:Addr×List Str=>x.2));rw [Bg,EM,AU] at nd;exact (BF.mp nd).2.2 _ S0 lt.2 (by simp) rfl
    have WB:=A9 lt hm;have gd:b8 H9 sd (.ref lt.1) (some (.int (Fk rem later lt.2))):=by
     have g:=b8.t (k:=bh lt.2) (b:=lt.1) d9 (by rw [dO];exact WB);rw [iB (Jw lt hm).1] at g;simp only [MN,if_false,Int.sub_zero] at g;exact g
    refine⟨_,rfl,_,rfl,sd,_,rfl,gd,_,_,rfl,rfl,_,ef.t d9 (by rw [dO];exact WB) (fits (by rw [Av];omega)),⟨_,rfl⟩,ff s9 Mw,?_,?_,?_,?_,?_⟩
    ·rw [ag,vU (Jw lt hm).1]
     refine congrArg (λx=>some (HO.dT x)) (jz λl _=>?_);rw [Bg,EM]
     by_cases e:l=lt.2
     ·subst e
      simp
     ·simp [e]
    ·rw [ao Rv.symm];exact f9
    ·rw [ao Ru.symm];exact t9
    ·rw [ao RB];exact WL
    ·intro x hx
     have:=A9 x hx;rw [ao (λz=>by rw [z,d9] at this;cases this)];exact this
   ·rintro σ H9 ⟨⟨g3,rfl⟩,s9,d9,f9,t9,WL,A9⟩
    refine⟨_,?_,tr++[r],rem.erase r,_,_,_,rfl,rfl,Gv,G',S',by rw [Ba];exact sj gF O3,s9,?_,f9,t9⟩
    ·rw [Ba];simp;omega
    ·rw [d9]
     refine congrArg (λx=>some (HO.dT x)) (jz λl hl=>?_);rw [take_all lts (by simp),m6,jF OH];unfold ind;cases hc:lead l r with
     | true =>
      have:l∈(aL ps).filter λl=>lead l r:=AM.mpr ⟨hl,hc⟩;simp [this]
     | false =>
      have:l∉(aL ps).filter λl=>lead l r:=λz=>by
       have:=(AM.mp z).2;rw [hc] at this;cases this
      simp [this]
  ·have Gq:ps.length<=tr.length + 1:=by
    have:¬ (((root::ends tr).map V.str).length:Int) < ((ps.map V.str).length:Int):=λz=>c (decide_eq_true z);simp at this;omega
   exact⟨_,rfl,k tk tr rem H5 s5 G7 t5 hp G.ge S (by omega) (by rw [show ps.length - 1=tr.length by omega];exact gF)⟩
end K93
namespace L2
open PySem
theorem wa {K:zz7}{tl:TE}{g:TG}{tt:TT}{te:TE}{ix:List (Option Nat)}{n:Nat}{D:Ends}{σ:St}{H Hb:Hp}{a:Addr}{xs:List V} (hn:xs.length < sizeLine) (FY:∀Q:VK,Q (.ref a) H->tl σ H Q) (hb:Hb a=some (.lst xs)\/Hb a=some (.tup xs)) (s0:af Hb H) (Pv:Nat->List V->St->Hp->Prop) (h0:Pv 0 [] (GW ix σ) H)
  (hl:∀i ys σ' H',i<=xs.length->Pv i ys σ' H'->ys.length<=i/\af Hb H')
  (hs:∀i x ys σ H,xs[i]?=some x->Pv i ys σ H->g x σ H λσ2 H2=>tt σ2 H2 λb H3=>if b=true then te σ2 H3 (λv H4=>Pv (i + 1) (ys++[v]) σ2 H4) else Pv (i + 1) ys σ2 H3)
  (hd:∀ys σ' H,Pv xs.length ys σ' H->∀p,H p=none->D.nx (σ.set n (some (.ref p))) (upd H p (.lst ys))):pC n (RT (ku K tl) (gT K tl)) g tt te ix D σ H:=by
 rcases hb with hb | hb
 ·exact .inl (FY _ ⟨a,rfl,⟨xs,EF.of (s0 _ _ hb)⟩,jH hn Pv h0 (λi ys σ H' hi p=>⟨(hl i ys σ H' hi p).1,EF.of ((hl i ys σ H' hi p).2 _ _ hb)⟩) hs hd⟩)
 ·exact .inr (FY _ ⟨a,rfl,⟨xs,EG.of (s0 _ _ hb)⟩,gE hn Pv h0 (λi ys σ H' hi p=>⟨(hl i ys σ H' hi p).1,EG.of ((hl i ys σ H' hi p).2 _ _ hb)⟩) hs hd⟩)
end L2
namespace K93
open PySem L2
theorem ng (xs:List V) {n:Nat} (h:n<=xs.length):cA xs (some (n:Int)) none=xs.drop n:=by
 unfold cA;have h0:¬ ((n:Int) < 0):=by omega
 have h1:min n xs.length=n:=by omega
 simp [HT.sIx,h0];rw [List.take_of_length_le (by simp)];rw [h1]
theorem wj (K:zz7) {X:Cx}{k:Nat} (hr:aQ k X.A) (h:X.K=K:=by rfl):FG X (compareOp .NotIn) (nO K):=by subst h;exact uu hr
abbrev FR (r:T):List Str:=[r.2.1,r.2.2.1,r.2.2.2]
abbrev Gj (tr:List T):List Str:=tr.map λr=>r.2.1
theorem uo {cur tr rem:List T} (hp:cur.Perm (tr++rem)) (hn:(Gj cur).Nodup):(cur.filter λr=>!decide (FR r∈tr.map FR)).Perm rem:=by
 have h1:=hp.filter (λr=>!decide (FR r∈tr.map FR));rw [Dl] at h1;have IS:(Gj (tr++rem)).Nodup:=(hp.map _).nodup_iff.mp hn;have e1:tr.filter (λr=>!decide (FR r∈tr.map FR))=[]:=List.filter_eq_nil_iff.mpr λr hr=>by
  have:FR r∈tr.map FR:=AC hr;simp [this]
 have e2:rem.filter (λr=>!decide (FR r∈tr.map FR))=rem:=List.filter_eq_self.mpr λr hr=>by
  have:FR r∉tr.map FR:=λz=>by
   obtain⟨q,hq,e⟩:=AG.mp z;have e':q.2.1=r.2.1:=(Eg e).1;have QB:(Gj tr++Gj rem).Nodup:=by rw [<- AU];exact IS
   exact (BF.mp QB).2.2 q.2.1 (AC (f:=λr:T=>r.2.1) hq) r.2.1 (AC (f:=λr:T=>r.2.1) hr) e'
  simp [this]
 rw [e1,e2,DR] at h1;exact h1
theorem vv {a b:List T} (h:a.Perm b) (EK l:List Str):Fk a EK l=Fk b EK l:=by unfold Fk;rw [mX h]
def eF (ps EK:List Str) (rs:List T):Nat->List (List T)×List T
 | 0=>([],rs)
 | n + 1=>match EK[n]? with
  | some root=>((eF ps EK rs n).1++[(cX ps (EK.drop (n + 1)) (eF ps EK rs n).2 root (ps.length - 1)).1],(eF ps EK rs n).2.filter λr=>!decide (FR r∈((cX ps (EK.drop (n + 1)) (eF ps EK rs n).2 root (ps.length - 1)).1).map FR))
  | none=>eF ps EK rs n
theorem rP {ps EK:List Str}{rs cur tr rem:List T}{E9:List (List T)}{n:Nat}{root:Str} (h:eF ps EK rs n=(E9,cur)) (hn:EK[n]?=some root) (hg:cX ps (EK.drop (n + 1)) cur root (ps.length - 1)=(tr,rem)):eF ps EK rs (n + 1)=(E9++[tr],cur.filter λr=>!decide (FR r∈tr.map FR)):=by
 show (match EK[n]? with | some root=>_ | none=>_)=_;rw [hn]
 dsimp only
 rw [h]
 dsimp only
 rw [hg]
structure LQ (ps EK:List Str) (rs:List T) (n:Nat) (E9:List (List T)) (EH:List (Addr×List Str)) (cur:List T):Prop where
 l1:E9.length=n
 l2:EH.length=n
 pm:rs.Perm (E9.flatten++cur)
 fn:eF ps EK rs n=(E9,cur)
 tr:∀(i:Nat) (root:Str) (tr:List T) (x:Addr×List Str),EK[i]?=some root->E9[i]?=some tr->EH[i]?=some x->Ip root ps tr/\tr.length + 1=ps.length/\x.2.Perm (Gj tr)/\PyProof.Rows.sortedS x.2=true
theorem LQ.add {ps EK:List Str}{rs:List T}{n:Nat}{E9:List (List T)}{EH:List (Addr×List Str)}{cur:List T} (h:LQ ps EK rs n E9 EH cur) {root:Str}{tr Hg:List T}{x:Addr×List Str} (hn:EK[n]?=some root) (hp:cur.Perm (tr++Hg)) (S:Ip root ps tr) (hl:tr.length + 1=ps.length) (hx:x.2.Perm (Gj tr)) (GJ:PyProof.Rows.sortedS x.2=true) (Ig:eF ps EK rs (n + 1)=(E9++[tr],Hg)):LQ ps EK rs (n + 1) (E9++[tr]) (EH++[x]) Hg where
 l1:=by rw [Ba,h.l1];rfl
 l2:=by rw [Ba,h.l2];rfl
 pm:=by
  rw [List.flatten_append,Ci];refine h.pm.trans (List.Perm.append_left _ ?_);simpa using hp
 fn:=Ig
 tr:=λi rt t y hr ht hy=>by
  by_cases hi:i < n
  ·rw [By (by rw [h.l1];exact hi)] at ht
   rw [By (by rw [h.l2];exact hi)] at hy;exact h.tr i rt t y hr ht hy
  ·have EM:i < (E9++[tr]).length:=(AE.mp ht).1
   rw [Ba,h.l1] at EM;have e:i=n:=by simp at EM;omega
   subst e;rw [BQ (by rw [h.l1];exact AF _),h.l1,Nat.sub_self] at ht;rw [BQ (by rw [h.l2];exact AF _),h.l2,Nat.sub_self] at hy;rw [hn] at hr;cases hr;have e1:t=tr:=by simpa using ht.symm
   have e2:y=x:=by simpa using hy.symm
   subst e1 e2;exact⟨S,hl,hx,GJ⟩
variable {P:Program}{w:World}{K:zz7}{mg:Str->Option zz9}{base:Heap}{f:Addr}{fd:FuncData}
def oB:Sp:=λvs H Q _=>∃(v pa ra a:Addr) (ps EK:List Str) (rs:List T),vs=[.ref v,.ref a]/\bA H v pa ra ps rs/\Good ps (rs.map (·.2))/\ps.length<=8/\H a=some (.tup (EK.map V.str))/\EK.length<=100/\(∀x∈EK,x∈ps)/\(∀l∈aL ps,0<=Fk rs EK l) /\
 ∀H',af H H'->∀(q:Addr) (E9:List (List T)) (EH:List (Addr×List Str)) (cur:List T),H q=none->H' q=some (.lst (ah EH))->aJ H' EH->LQ ps EK rs EK.length E9 EH cur->Q (.ref q) H'
abbrev N42:List Str:=["web","roots","places","rows","trees","at","root","tree"]
theorem fc:aH N42 ["web","roots"] (aC (top 42)):=⟨rfl,rfl,rfl,by decide +kernel,rfl,by decide +kernel,by decide +kernel⟩
theorem vn (F:EW K "trees_from" "trees_from" (top 42) f fd) (B:Bl mg) (F1:Fn P w K mg base 4 "need_enough" ["web","roots"] mJ) (F2:Fn P w K mg base 4 "grown" ["places","rows","root","later"] oO):aD P w K mg base EU 5 f fd ["web","roots"] oB:=by
 refine F.ok fc (λvs H Q E h=>?_) (λ_ _ _ _ H vs Q E hr h=>?_)
 ·obtain⟨v,pa,ra,a,ps,EK,rs,rfl,_⟩:=h
  rfl
 ·obtain⟨v,pa,ra,a,ps,EK,rs,rfl,W,G,h8,ha,Hu,HQ,NA,k⟩:=h
  refine⟨_,ak (bg (aq F1 hr (aa (pv 0) (aa (pv 1) ae))))
   (ak (fq (pv 0) (dU rfl (n:=2) (bG (bc (i:=2) fc.nd rfl (Or.inl rfl)) (bG (bc (i:=3) fc.nd rfl (Or.inl rfl)) dq))))
   (ak (aA (i:=4) fc.nd rfl (Or.inl rfl) (bw ae))
   (ak (bZ Bm rfl (xK rfl B.enumerate (aa (pv 1) ae)) (dU rfl (n:=2) (bG (bc (i:=5) fc.nd rfl (Or.inl rfl)) (bG (bc (i:=6) fc.nd rfl (Or.inl rfl)) dq)))
    (ak (aA (i:=7) fc.nd rfl (Or.inr rfl) (aq F2 hr (aa (pv 2) (aa (pv 3) (aa (pv 6) (aa (fh xl (pv 1) (fk (ba dr (pv 5) am)) fj) ae))))))
    (ak (dB (i:=3) (N:=["row","tree"]) (ix:=[none,some 7]) fc.nd rfl (Or.inl rfl) ⟨rfl,rfl,rfl,by decide⟩ rfl (i6 (bv (pv 3)) (bC (pv 3))) (λ_ _ _ _=>aF 0 (by decide) rfl rfl) (λ_ _ _ _=>bL (aB (wj K hr) (pv 0) (pv 1) (by with_unfolding_all rfl))) (λ_ _ _ _=>pv 0))
    (ar (bg (cH Bo BB BC dj (pv 4) (aa (bP c8 rfl B.tuple cv (aa (au eP rfl B.sorted da (aa (PE.nox (aZ (N:=["row"]) (ix:=[none]) ⟨rfl,rfl,rfl,by decide⟩ rfl (bv (pv 7)) (λ_ _ _ _=>aF 0 (by decide) rfl rfl) (λ_ _ _ _=>bz) (λ_ _ _ _=>ax (bD K) (pv 0) am (λ_ _=>rfl)))) ae)) ae)) ae)))))))
   (ar (aM (pv 4)))))),?_⟩
  have Fz:=bU G.so;have Hr:rs.length<=60:=by have:=G.rz;simpa using this
  have GE:∀r∈rs,aE r.2.1/\r.2.2.1∈ps/\r.2.2.2∈ps:=λr hr=>by
   obtain⟨h1,h2,h3,_⟩:=G.rn r.2 (AC hr);exact⟨h1,h2,h3⟩
  have Zz:(Gj rs).Nodup:=by
   have:=bU G.rso;rw [Bf] at this;exact this
  refine⟨_,rfl,_,rfl,v,pa,ra,a,ps,EK,rs,rfl,W,Fz,h8,Hr,ha,Hu,NA,λH1 s1=>?_⟩;have W1:=W.same s1;have a1:=s1 _ _ ha;refine⟨_,rfl,v,_,rfl,EG.of W1.tp,rfl,_,_,rfl,_,_,rfl,rfl,Be _,λtk GI=>?_⟩;have s2:=ai (o:=.lst []) s1 GI;have G7:=s1.free GI;have t2:upd H1 tk (.lst []) tk=some (.lst (ah [])):=ag;generalize upd H1 tk (.lst [])=H2 at s2 t2 ⊢
  refine⟨_,rfl,a,_,rfl,EG.of (s2 _ _ ha),wy (K:=K) (a:=a) (xs:=EK.map V.str) (λi σ H3=>∃(rc:Addr) (E9:List (List T)) (EH:List (Addr×List Str)) (cur:List T) (g1 g2 g3:Option V),σ=[some (.ref v),some (.ref a),some (.ref pa),some (.ref rc),some (.ref tk),g1,g2,g3]/\af H H3/\H3 tk=some (.lst (ah EH))/\aJ H3 EH/\(H3 rc=some (.lst (aj cur))\/H3 rc=some (.tup (aj cur)))/\rc≠tk/\cur.Sublist rs/\LQ ps EK rs i E9 EH cur/\∀l∈aL ps,0<=Fk cur (EK.drop i) l)
   ⟨ra,[],[],rs,none,none,none,rfl,s2,t2,(λx hx=>nomatch hx),.inr (s2 _ _ W.rl),(λz=>by have:=W.rl;rw [z,G7] at this;cases this),Eo _,⟨rfl,rfl,by simp,rfl,λi rt t x _ ht=>by simp at ht⟩,NA⟩
   (λi σ H3 _ p=>by obtain⟨_,_,_,_,_,_,_,_,s3,_⟩:=p;exact EG.of (s3 _ _ ha)) ?_ ?_⟩
  ·rintro i x σ H3 T0 hx ⟨rc,E9,EH,cur,g1,g2,g3,rfl,s3,t3,A3,c3,Yj,Fq,R3,O0⟩ hT0
   rw [AH] at hx;cases hc:EK[i]? with
   | none=>rw [hc] at hx;cases hx
   | some root =>
    rw [hc] at hx;cases hx;have hi:i < EK.length:=(AE.mp hc).1;have s4:=ai (o:=.tup [.int i,.str root]) (af.refl H3) hT0;have T4:upd H3 T0 (.tup [.int i,.str root]) T0=some (.tup [.int i,.str root]):=ag;generalize upd H3 T0 (.tup [.int i,.str root])=H4 at s4 T4 ⊢;have GB:=s3.trans s4;refine⟨T0,_,rfl,EG.of T4,rfl,_,_,rfl,_,_,rfl,rfl,?_⟩;have O9:EK.drop i=root::EK.drop (i + 1):=by
     rw [Et hi];have:=(AE.mp hc).2;rw [this]
    have HA:cA (EK.map V.str) (some ((i:Int) + 1)) none=(EK.drop (i + 1)).map V.str:=by
     have:=ng (EK.map V.str) (n:=i + 1) (by rw [Av];omega);rw [List.map_drop];exact this
    refine⟨_,rfl,_,rfl,_,rfl,_,rfl,_,rfl,_,_,rfl,rfl,_,rfl,a,_,rfl,EG.of (GB _ _ ha),λe=>?_,λla LG=>?_⟩
    ·rw [HA] at e
     have:=congrArg List.length e;simp at this;omega
    rw [HA];have s5:=ai (o:=.tup ((EK.drop (i + 1)).map V.str)) (af.refl H4) LG;have l5:upd H4 la (.tup ((EK.drop (i + 1)).map V.str)) la=some (.tup ((EK.drop (i + 1)).map V.str)):=ag;generalize upd H4 la (.tup ((EK.drop (i + 1)).map V.str))=H5 at s5 l5 ⊢;have JT:=GB.trans s5;have Rf:=s4.trans s5;have Ph:cur.length<=60:=AV Fq.length_le Hr;have TX:(Gj cur).Nodup:=Zz.sublist (Fq.map _);refine⟨pa,rc,la,root,ps,EK.drop (i + 1),cur,rfl,JT _ _ W.pl,c3.imp (Rf _ _) (Rf _ _),λr hr=>JT _ _ (W.rows r (Fq.subset hr)),Ph,Fz,h8,HQ root (AB hc),λr hr=>(GE r (Fq.subset hr)).2,l5,by rw [DA];omega,by rw [<- O9];exact O0,λq tr rem H6 s6 hq q6 hp Tu S hl hgF=>?_⟩;have Oc:=Rf.trans s6;have HL:=s3.trans Oc;have Sk:∀r∈tr,r∈rs:=λr hr=>Fq.subset (hp.mem_iff.mpr (AZ _ hr));have OR:∀r∈rs,∀z∈FR r,aE z:=λr hr z hz=>by
     obtain⟨h1,h2,h3⟩:=GE r hr;simp [FR] at hz
     rcases hz with e | e | e
     ·rw [e];exact h1
     ·rw [e];exact G.nm _ h2
     ·rw [e];exact G.nm _ h3
    have Zy:tr.length<=8:=by omega
    refine wa (K:=K) (Hb:=H6) (a:=rc) (xs:=aj cur) (fits (by rw [Av];omega)) (λQ q=>⟨_,rfl,q⟩) (c3.imp (Oc _ _) (Oc _ _)) (af.refl H6) (λj ys σ H7=>ys=aj ((cur.take j).filter λr=>!decide (FR r∈tr.map FR))/\H7=H6/\∃x,σ=[x,some (.ref q)]) ⟨rfl,rfl,_,rfl⟩
     (λj ys σ H7 _ p=>⟨by rw [p.1,Av];exact AV (AL _ _) (by rw [AW];omega),by rw [p.2.1];exact af.refl H6⟩) ?_ ?_
    ·rintro j y ys σ H7 hy ⟨rfl,rfl,x,rfl⟩
     obtain⟨r,Hs,rfl⟩:=bY hy;have GO:=Fq.subset (AB Hs);have tf:=bH (λr:T=>!decide (FR r∈tr.map FR)) cur j r Hs;refine⟨_,rfl,_,rfl,r.1,q,FR r,tr.map (λr=>(r.1,FR r)),rfl,rfl,HL _ _ (W.rows r GO),OR r GO,EF.of (by rw [q6];simp [ah,aj]),?_,?_,_,rfl,?_⟩
     ·intro x hx
      obtain⟨t,ht,rfl⟩:=AG.mp hx;exact HL _ _ (W.rows t (Sk t ht))
     ·intro x hx z hz
      obtain⟨t,ht,rfl⟩:=AG.mp hx;exact OR t (Sk t ht) z hz
     ·have e:(tr.map λr=>(r.1,FR r)).map (·.2)=tr.map FR:=by rw [Bf];rfl
      rw [e];refine aU (λc=>⟨_,rfl,?_,rfl,_,rfl⟩) (λc=>⟨?_,rfl,_,rfl⟩)
      ·rw [tf,if_pos c];simp [aj]
      ·rw [tf,if_neg c];simp
    rintro ys σ' H7 ⟨rfl,rfl,x,rfl⟩ rn SD;rw [take_all cur (by simp)];have QC:=uo hp TX;have Lz:=(Bi (l:=cur) (p:=λr=>!decide (FR r∈tr.map FR))).trans Fq;generalize Pg:(cur.filter λr=>!decide (FR r∈tr.map FR))=Hg at QC Lz ⊢;have s8:=ai (o:=.lst (aj Hg)) (af.refl H7) SD;have n8:upd H7 rn (.lst (aj Hg)) rn=some (.lst (aj Hg)):=ag;generalize upd H7 rn (.lst (aj Hg))=H8 at s8 n8 ⊢;have Re:=Oc.trans s8;have IM:=s3.trans Re;have t8:=Re _ _ t3;have q8:=s8 _ _ q6;have Vd:rn≠tk:=λz=>by rw [z,Oc _ _ t3] at SD;cases SD
    refine⟨_,rfl,.inl ⟨rfl,_,EF.of t8⟩,_,rfl,q,rfl,⟨_,EF.of q8⟩,c9 (xs:=aj tr) (fits (by rw [Av];omega)) (λj ys σ H9=>ys=(Gj (tr.take j)).map V.str/\H9=H8/\∃x,σ=[x]) ⟨rfl,rfl,_,rfl⟩
     (λj ys σ H9 _ p=>⟨by rw [p.1];simp;omega,by rw [p.2.1];exact EF.of q8⟩) ?_ ?_⟩
    ·rintro j y ys σ H9 hy ⟨rfl,rfl,x,rfl⟩
     obtain⟨r,Hs,rfl⟩:=bY hy;refine⟨_,rfl,ay (j:=0) (.inr (EG.of (IM _ _ (W.rows r (Sk r (AB Hs)))))) rfl rfl ⟨?_,rfl,_,rfl⟩⟩;rw [Bg,Hs];simp
    rintro ys σ H9 ⟨rfl,rfl,x,rfl⟩ l9 KD;rw [take_all tr (by simp)];have E3:=ai (o:=.lst ((Gj tr).map V.str)) (af.refl H9) KD;have VD:upd H9 l9 (.lst ((Gj tr).map V.str)) l9=some (.lst ((Gj tr).map V.str)):=ag;generalize upd H9 l9 (.lst ((Gj tr).map V.str))=E5 at E3 VD ⊢;refine⟨l9,Gj tr,rfl,EF.of VD,by simp;omega,λss Lm E8 GJ SH=>?_⟩;have Fy:=ai (o:=.lst (ss.map V.str)) (af.refl E5) SH;have Ol:upd E5 Lm (.lst (ss.map V.str)) Lm=some (.lst (ss.map V.str)):=ag;generalize upd E5 Lm (.lst (ss.map V.str))=FI at Fy Ol ⊢;refine⟨Lm,_,rfl,.inl ⟨EF.of Ol,λtt Zx=>?_⟩⟩;have Gr:=ai (o:=.tup (ss.map V.str)) (af.refl FI) Zx;have Qa:upd FI tt (.tup (ss.map V.str)) tt=some (.tup (ss.map V.str)):=ag;generalize upd FI tt (.tup (ss.map V.str))=GK at Gr Qa ⊢;have Oa:=E3.trans (Fy.trans Gr);have Je:=Re.trans Oa;have Sl:EH.length<=100:=by rw [R3.l2];omega
    refine⟨tk,_,_,rfl,rfl,Je _ _ t3,fits (by rw [Av];omega),?_⟩;refine⟨rn,E9++[tr],EH++[(tt,ss)],Hg,_,_,_,rfl,ff (s3.trans Je) G7,?_,?_,.inl ?_,Vd,Lz,R3.add hc (hp.trans (QC.symm.append_left tr)) S hl E8 GJ (by rw [<- Pg];exact rP R3.fn hc hgF),λl hl=>?_⟩
    ·rw [ag];simp [ah]
    ·intro y hy
     rcases AO.mp hy with z | z
     ·have:=Je _ _ (A3 y z)
      rw [ao (λe=>by rw [e,Je _ _ t3] at this;cases this)];exact this
     ·have e:y=(tt,ss):=by simpa using z
      subst e;rw [ao (λe:tt=tk=>by rw [e,Je _ _ t3] at Qa;cases Qa)];exact Qa
    ·rw [ao Vd];exact Oa _ _ n8
    ·rw [vv QC];exact Tu l hl
  ·rintro σ H3 ⟨rc,E9,EH,cur,g1,g2,g3,rfl,s3,t3,A3,c3,Yj,Fq,R3,O0⟩
   rw [Av] at R3;exact⟨_,rfl,k H3 s3 tk E9 EH cur G7 t3 A3 R3⟩
mutual
theorem m8:∀d:PyData,d.canLay0=true->PyData.eqv d d=true
 | .none,_=>by simp [PyData.eqv]
 | .bool b,_=>by simp [PyData.eqv]
 | .int i,_=>by simp [PyData.eqv]
 | .str x,_=>by simp [PyData.eqv]
 | .list xs,h=>by rw [PyData.eqv];exact jt xs (by simpa [PyData.canLay0] using h)
 | .tuple xs,h=>by rw [PyData.eqv];exact jt xs (by simpa [PyData.canLay0] using h)
 | .dict _,h=>by simp [PyData.canLay0] at h
theorem jt:∀ds:List PyData,PyData.canLayAll0 ds=true->PyData.eqvAll ds ds=true
 | [],_=>by simp [PyData.eqvAll]
 | d::ds,h=>by
  simp only [PyData.canLayAll0,BL] at h;rw [PyData.eqvAll,m8 d h.1,jt ds h.2];rfl
end
abbrev dh (ts:List Str):PyData:=.tuple (ts.map PyData.str)
abbrev G3 (tl:List (List Str)):PyData:=.list (tl.map dh)
theorem cY {H:Hp}:∀{N4:List (Addr×List Str)},aJ H N4->Gi H (ah N4) ((N4.map (·.2)).map dh)
 | [],_=>.nil
 | r::t,h=>.cons (.tup (h r AJ) (Gi.strs _)) (cY λx hx=>h x (AN _ hx))
theorem jW:∀{tl:List (List Str)},(∀ts∈tl,∀y∈ts,aE y)->PyData.canLayAll0 (tl.map dh)=true/\PyData.depthAll (tl.map dh)<=1
 | [],_=>⟨rfl,Be _⟩
 | ts::t,h=>by
  have ih:=jW (tl:=t) λx hx=>h x (AN _ hx);have q:=iH (h ts AJ);rw [Bj];have i2:=ih.2;simp only [PyData.canLayAll0,PyData.canLay0,PyData.depthAll,PyData.depth,q.1,q.2,ih.1];exact⟨rfl,by omega⟩
def jO:Sp:=λvs H Q _=>∃(v pa ra:Addr) (ps:List Str) (rs:List T) (root:Str) (m:Nat),vs=[.ref v,.str root,.int m]/\bA H v pa ra ps rs/\Good ps (rs.map (·.2))/\ps.length<=8/\root∈ps/\m<=6/\(∀l∈aL (others ps root),m<=cnt rs l) /\
 ∀H',af H H'->∀(q:Addr) (E9:List (List T)) (EH:List (Addr×List Str)) (cur:List T),H q=none->H' q=some (.lst (ah EH))->aJ H' EH->LQ ps (List.replicate m root) rs m E9 EH cur->Q (.ref q) H'
theorem zx:aH ["web","root","many"] ["web","root","many"] (aC (top 43)):=⟨rfl,rfl,rfl,by decide +kernel,rfl,by decide +kernel,by decide +kernel⟩
theorem ui (F:EW K "shares" "shares" (top 43) f fd) (B:Bl mg)
  (F1:Fn P w K mg base 4 "need_web" ["thing"] (eK .non)) (F2:Fn P w K mg base 2 "need_place" ["web","thing"] ik) (F3:Fn P w K mg base 2 "need_number" ["thing","low","high"] mY) (F4:Fn P w K mg base 5 "trees_from" ["web","roots"] oB):aD P w K mg base EU 6 f fd ["web","root","many"] jO:=by
 refine F.ok zx (λvs H Q E h=>?_) (λ_ _ _ _ H vs Q E hr h=>?_)
 ·obtain⟨v,pa,ra,ps,rs,root,m,rfl,_⟩:=h
  rfl
 ·obtain⟨v,pa,ra,ps,rs,root,m,rfl,W,G,h8,EO,hm6,Gh,k⟩:=h
  have MF:aQ 4 _:=hr.mono (by decide);have Ge:aQ 2 _:=hr.mono (by decide);obtain⟨tm,OU⟩:=B.most
  refine⟨_,ak (bg (aq F1 MF (aa (pv 0) ae))) (ak (bg (aq F2 Ge (aa (pv 0) (aa (pv 1) ae))))
   (ak (bg (aq F3 Ge (aa (pv 2) (aa am (aa (nU (v:=.int 6) rfl OU ⟨_,rfl⟩) ae)))))
   (ar (aM (aq F4 hr (aa (pv 0) (aa (ba xh (cf (aa (pv 1) ae)) (pv 2)) ae))))))),?_⟩
  have Fz:=bU G.so;refine⟨_,rfl,v,pa,ra,ps,rs,rfl,W,G,λH1 s1=>?_⟩;have W1:=W.same s1;refine⟨_,rfl,_,rfl,v,pa,ra,ps,rs,root,rfl,W1,EO,?_⟩;refine⟨_,rfl,(m:Int),0,6,rfl,by omega,by omega,?_⟩;refine⟨_,rfl,_,rfl,by show 1<=sizeLine;decide,λt0 ZC=>?_⟩;have UZ:=ai (o:=.tup [.str root]) (af.refl H1) ZC;have t1:upd H1 t0 (.tup [.str root]) t0=some (.tup [.str root]):=ag;generalize upd H1 t0 (.tup [.str root])=H1b at UZ t1 ⊢;refine⟨_,rfl,t0,(m:Int),[.str root],rfl,rfl,t1,by simp,by show 1<=1000;decide,by omega,by omega,λa H2 s2 a2=>?_⟩;have ea:(List.replicate ((m:Int)).toNat [V.str root]).flatten=(List.replicate m root).map V.str:=by
   rw [B9,Cs];exact mR _ _
  rw [ea] at a2;have FN:=s1.trans (UZ.trans s2);have W2:=W.same FN;refine⟨v,pa,ra,a,ps,List.replicate m root,rs,rfl,W2,G,h8,a2,by rw [DD];omega,λx hx=>by rw [List.eq_of_mem_replicate hx];exact EO,λl hl=>?_,λH3 s3 q E9 EH cur hq q3 A3 R3=>?_⟩
  ·rw [xc]
   by_cases z:root∈l
   ·rw [if_pos z];omega
   ·rw [if_neg z]
    have:=Gh l ((js Fz).mpr ⟨hl,z⟩);omega
  ·rw [DD] at R3
   exact k H3 (FN.trans s3) q E9 EH cur (FN.free hq) q3 A3 R3
def oY:Sp:=λvs H Q _=>∃(v pa ra:Addr) (ps:List Str) (rs:List (Addr×Row)),vs=[.ref v]/\bA H v pa ra ps rs/\rs.length<=100/\∀q,H q=none->Q (.ref q) (upd H q (.lst ((E4 rs).map V.str)))
theorem zA:aH ["web"] ["web"] (aC (top 17)):=⟨rfl,rfl,rfl,by decide +kernel,rfl,by decide +kernel,by decide +kernel⟩
theorem rG (F:EW K "tie_names" "tie_names" (top 17) f fd):aD P w K mg base EU 1 f fd ["web"] oY:=by
 refine F.ok zA (λvs H Q E h=>?_) (λ_ _ _ _ H vs Q E hr h=>?_)
 ·obtain⟨v,pa,ra,ps,rs,rfl,_⟩:=h
  rfl
 ·obtain⟨v,pa,ra,ps,rs,rfl,W,hz,k⟩:=h
  refine⟨_,ar (aM (aZ (N:=["row"]) (ix:=[none]) ⟨rfl,rfl,rfl,by decide⟩ rfl (bC (ax aG (pv 0) am (λ_ _=>rfl))) (λ_ _ _ _=>aF 0 (by decide) rfl rfl) (λ_ _ _ _=>bz)
   (λ_ _ _ _=>ax (bD K) (pv 0) am (λ_ _=>rfl)))),?_⟩
  refine⟨_,rfl,ay (j:=1) (.inr (EG.of W.tp)) rfl rfl ⟨ra,rfl,⟨_,EG.of W.rl⟩,gu (xs:=aj rs) (fits (by simp;omega)) (λi ys σ H1=>ys=((rs.take i).map λr=>V.str r.2.1)/\H1=H/\∃x,σ=[x]) ⟨rfl,rfl,_,rfl⟩
    (λi ys σ H1 _ q=>⟨by rw [q.1];simp;omega,by rw [q.2.1];exact EG.of W.rl⟩) ?_ ?_⟩⟩
  ·rintro i x ys σ H1 hx ⟨rfl,rfl,z,rfl⟩
   obtain⟨r,EV,rfl⟩:=bY hx;have hm:=AB EV;exact⟨_,rfl,ay (j:=0) (.inr (EG.of (W.rows r hm))) rfl rfl ⟨(ig _ _ _ _ EV).symm,rfl,_,rfl⟩⟩
  ·rintro ys σ H1 ⟨rfl,rfl,z,rfl⟩ q hq
   have e:((rs.take (aj rs).length).map λr=>V.str r.2.1)=(E4 rs).map V.str:=by
    rw [take_all rs (by simp),Bf];rfl
   rw [e];exact k q hq
def my (K:zz7):Sp:=λvs H Q _=>∃(v n pa ra:Addr) (ps:List Str) (rs:List (Addr×Row)) (ss:List Str),vs=[.ref v,.ref n]/\bA H v pa ra ps rs/\rs.length<=100/\Sq K H n (ss.map V.str) /\
 ∀q,H q=none->Q (.ref q) (upd H q (.lst (aj (rs.filter λr=>decide (r.2.1∈ss)))))
theorem zW:aH ["web","names"] ["web","names"] (aC (top 18)):=⟨rfl,rfl,rfl,by decide +kernel,rfl,by decide +kernel,by decide +kernel⟩
theorem sE (F:EW K "rows_of" "rows_of" (top 18) f fd):aD P w K mg base EU 1 f fd ["web","names"] (my K):=by
 refine F.ok zW (λvs H Q E h=>?_) (λ_ _ _ _ H vs Q E hr h=>?_)
 ·obtain⟨v,n,pa,ra,ps,rs,ss,rfl,_⟩:=h
  rfl
 ·obtain⟨v,n,pa,ra,ps,rs,ss,rfl,W,hz,hn,k⟩:=h
  refine⟨_,ar (aM (aZ (N:=["row","names"]) (ix:=[none,some 1]) ⟨rfl,rfl,rfl,by decide⟩ rfl (bC (ax aG (pv 0) am (λ_ _=>rfl))) (λ_ _ _ _=>aF 0 (by decide) rfl rfl)
   (λ_ _ _ _=>bL (aB (cO K) (ax (bD K) (pv 0) am (λ_ _=>rfl)) (pv 1) (by with_unfolding_all rfl))) (λ_ _ _ _=>pv 0))),?_⟩
  refine⟨_,rfl,ay (j:=1) (.inr (EG.of W.tp)) rfl rfl ⟨ra,rfl,⟨_,EG.of W.rl⟩,cE (xs:=aj rs) (fits (by simp;omega)) (λi ys σ H1=>ys=aj ((rs.take i).filter λr=>decide (r.2.1∈ss))/\H1=H/\∃x,σ=[x,some (.ref n)]) ⟨rfl,rfl,_,rfl⟩
    (λi ys σ H1 _ q=>⟨by rw [q.1];simp only [aj,Av];exact AV (AL _ _) (by simp;omega),by rw [q.2.1];exact EG.of W.rl⟩) ?_ ?_⟩⟩
  ·rintro i x ys σ H1 hx ⟨rfl,rfl,z,rfl⟩
   obtain⟨r,EV,rfl⟩:=bY hx;have hm:=AB EV;refine⟨_,rfl,ay (j:=0) (.inr (EG.of (W.rows r hm))) rfl rfl ⟨_,rfl,n,ss.map V.str,rfl,hn,rfl,aW ss,_,rfl,?_⟩⟩;show if FL (.str r.2.1) (ss.map V.str)=true then _ else _;rw [aX];have tf:=bH (λr:Addr×Row=>decide (r.2.1∈ss)) rs i r EV;refine aU (λc=>⟨_,rfl,?_,rfl,_,rfl⟩) (λc=>⟨?_,rfl,_,rfl⟩)
   ·rw [tf,c];simp [aj]
   ·rw [tf];simp at c;simp [aj,c]
  ·rintro ys σ H1 ⟨rfl,rfl,z,rfl⟩ q hq
   rw [take_all rs (by simp)];exact k q hq
structure Tree (root:Str) (ps:List Str) (R:List Row):Prop where
 nd:(root::R.map (·.2.2)).Nodup
 all:∀x∈ps,x∈root::R.map (·.2.2)
 rk:∃d:Str->Nat,d root=0/\∀r∈R,d r.2.2=d r.2.1 + 1
abbrev bj (rs:List (Addr×Row)) (ss:List Str):List (Addr×Row):=rs.filter λr=>decide (r.2.1∈ss)
structure eW (root:Str) (ps:List Str) (rs:List (Addr×Row)) (ss:List Str):Prop where
 so:ss.Pairwise FU
 nm:∀x∈ss,x∈E4 rs
 tr:Tree root ps ((bj rs ss).map (·.2))
inductive Walk (R:List Row) (a:Str):Nat->Str->Prop
 | nil:Walk R a 0 a
 | snoc {n:Nat}{r:Row}:Walk R a n r.2.1->r∈R->Walk R a (n + 1) r.2.2
def bx (R:List Row) (a:Str) (n:Nat) (x:Str):Prop:=Walk R a n x/\∀m,Walk R a m x->n<=m
section
variable {R:List Row}{a x:Str}{n m:Nat}
theorem bx.uniq (h:bx R a n x) (h':bx R a m x):n=m:=DS (h.2 m h'.1) (h'.2 n h.1)
theorem bx.zero:bx R a 0 a:=⟨.nil,λ_ _=>Be _⟩
theorem Walk.z (h:Walk R a 0 x):x=a:=by cases h;rfl
theorem Walk.dist:∀{n:Nat}{x:Str},Walk R a n x->∃m,m<=n/\bx R a m x:=by
 intro n
 induction n using Nat.strongRecOn with
 | ind n ih =>
  intro x h
  by_cases c:∃m,m < n/\Walk R a m x
  ·obtain⟨m,h1,h2⟩:=c
   obtain⟨k,h3,h4⟩:=ih m h1 h2;exact⟨k,by omega,h4⟩
  ·refine⟨n,AF _,h,λm hm=>?_⟩
   rcases CM m n with q | q
   ·exact absurd ⟨m,q,hm⟩ c
   ·exact q
theorem bx.pred (h:bx R a (n + 1) x):∃r∈R,r.2.2=x/\bx R a n r.2.1:=by
 obtain⟨hw,hm⟩:=h;generalize hn:n + 1=k at hw hm;cases hw with
 | nil=>omega
 | @snoc n' r Zt hr =>
  have e:n'=n:=by omega
  subst e;refine⟨r,hr,rfl,Zt,λm h=>?_⟩;have:=hm (m + 1) (.snoc h hr);omega
theorem bx.step {r:Row} (h:bx R a n r.2.1) (hr:r∈R) (hn:∀m,m<=n->¬ bx R a m r.2.2):bx R a (n + 1) r.2.2:=by
 refine⟨.snoc h.1 hr,λm hm=>?_⟩;obtain⟨k,h1,h2⟩:=hm.dist
 rcases CM n k with q | q
 ·omega
 ·exact absurd h2 (hn k q)
end
def FT (a x:Str) (tk:List T) (r:T):List T:=if r.2.2.1=x/\r.2.2.2∉a::tk.map (·.2.2.2) then tk++[r] else tk
def FA (rs:List T) (a:Str):Nat->List T
 | 0=>[]
 | k + 1=>match (a::(FA rs a k).map (·.2.2.2))[k]? with
  | some x=>rs.foldl (FT a x) (FA rs a k)
  | none=>FA rs a k
structure GY (rs:List T) (a:Str) (fd:List (Str×Nat)) (tk:List T) (q:Nat):Prop where
 fst:fd.map (·.1)=a::tk.map (·.2.2.2)
 dist:∀p∈fd,bx (rs.map (·.2)) a p.2 p.1
 nd:(fd.map (·.1)).Nodup
 so:fd.Pairwise (λp p'=>p.2<=p'.2)
 sub:∀t∈tk,t∈rs
 par:∀t∈tk,t.2.2.1∈fd.map (·.1)/\∃n,bx (rs.map (·.2)) a n t.2.2.1/\bx (rs.map (·.2)) a (n + 1) t.2.2.2
 done:∀i p,i < q->fd[i]?=some p->∀r∈rs,r.2.2.1=p.1->r.2.2.2∈fd.map (·.1)
 near:∀p,fd[q]?=some p->(∀p'∈fd,p'.2<=p.2 + 1)/\∀z m,bx (rs.map (·.2)) a m z->m<=p.2->z∈fd.map (·.1)
 ql:q<=fd.length
theorem GY.start (rs:List T) (a:Str):GY rs a [(a,0)] [] 0 where
 fst:=rfl
 dist:=λp hp=>by have e:p=(a,0):=(by simpa using hp);subst e;exact bx.zero
 nd:=by simp
 so:=by simp
 sub:=by simp
 par:=by simp
 done:=λi p hi=>absurd hi (C0 _)
 near:=λp hp=>by
  have e:p=(a,0):=by simpa using hp.symm
  subst e;refine⟨by simp,λz m h hm=>?_⟩;have e:m=0:=Nat.le_zero.mp hm;subst e;simpa using h.1.z
 ql:=Be _
theorem fe {α:Type}{l:List α}{x:α} (h:l.Nodup) (hx:x∉l):(l++[x]).Nodup:=by
 rw [BF];refine⟨h,by simp,λa ha b hb=>?_⟩;have e:b=x:=by simpa using hb
 subst e;exact λz=>hx (z ▸ ha)
section
variable {rs:List T}{a:Str}{fd:List (Str×Nat)}{tk:List T}{q:Nat}
theorem GY.row (B:GY rs a fd tk q) {x:Str}{n:Nat} (hq:fd[q]?=some (x,n)) {r:T} (hr:r∈rs) :
  ∃more,fd <+: fd++more/\GY rs a (fd++more) (FT a x tk r) q/\(r.2.2.1=x->r.2.2.2∈(fd++more).map (·.1)):=by
 have LC:q < fd.length:=(AE.mp hq).1;have V7:(x,n)∈fd:=AB hq
 by_cases c:r.2.2.1=x/\r.2.2.2∉a::tk.map (·.2.2.2)
 ·have hy:r.2.2.2∉fd.map (·.1):=by rw [B.fst];exact c.2
  obtain⟨n1,n2⟩:=B.near _ hq;have hd:bx (rs.map (·.2)) a n r.2.2.1:=by rw [c.1];exact B.dist _ V7
  have Pf:bx (rs.map (·.2)) a (n + 1) r.2.2.2:=hd.step (AC hr) λm hm h=>hy (n2 _ m h hm);have e:FT a x tk r=tk++[r]:=by unfold FT;rw [if_pos c]
  rw [e];refine⟨[(r.2.2.2,n + 1)],List.prefix_append _ _,⟨?_,?_,?_,?_,?_,?_,?_,?_,?_⟩,λ_=>by simp⟩
  ·simp [B.fst]
  ·intro p hp
   rcases AO.mp hp with z | z
   ·exact B.dist p z
   ·have e:p=(r.2.2.2,n + 1):=by simpa using z
    subst e;exact Pf
  ·rw [AU];exact fe B.nd hy
  ·rw [List.pairwise_append]
   refine⟨B.so,by simp,λp hp p' Gv=>?_⟩;have e:p'=(r.2.2.2,n + 1):=by simpa using Gv
   subst e;exact n1 p hp
  ·intro t ht
   rcases AO.mp ht with z | z
   ·exact B.sub t z
   ·have e:t=r:=by simpa using z
    subst e;exact hr
  ·intro t ht
   rcases AO.mp ht with z | z
   ·obtain⟨y1,y2⟩:=B.par t z
    exact⟨by rw [AU];exact AZ _ y1,y2⟩
   ·have e:t=r:=by simpa using z
    subst e;exact⟨by rw [AU];exact AZ _ (by rw [c.1];exact AC (f:=(·.1)) V7),n,hd,Pf⟩
  ·intro i p hi hp r' EV e
   rw [By (by omega)] at hp;rw [AU];exact AZ _ (B.done i p hi hp r' EV e)
  ·intro p hp
   rw [By LC,hq] at hp;cases hp;refine⟨λp' Gv=>?_,λz m h hm=>by rw [AU];exact AZ _ (n2 z m h hm)⟩
   rcases AO.mp Gv with z | z
   ·exact n1 p' z
   ·have e:p'=(r.2.2.2,n + 1):=by simpa using z
    subst e;exact AF _
  ·have:=B.ql;simp;omega
 ·have e:FT a x tk r=tk:=by unfold FT;rw [if_neg c]
  rw [e];refine⟨[],by simp,by simpa using B,λh=>?_⟩;rw [De,B.fst];exact Decidable.byContradiction λz=>c ⟨h,z⟩
theorem GY.rows {x:Str}{n:Nat}:∀(FC:List T) (fd:List (Str×Nat)) (tk:List T),(∀r∈FC,r∈rs)->GY rs a fd tk q->fd[q]?=some (x,n) ->
  ∃more,GY rs a (fd++more) (FC.foldl (FT a x) tk) q/\∀r∈FC,r.2.2.1=x->r.2.2.2∈(fd++more).map (·.1)
 | [],fd,tk,_,B,_=>⟨[],by simpa using B,by simp⟩
 | r::FC,fd,tk,hs,B,hq=>by
  obtain⟨m1,_,B1,h1⟩:=B.row hq (hs r AJ);have LC:q < fd.length:=(AE.mp hq).1;obtain⟨m2,B2,h2⟩:=GY.rows FC (fd++m1) _ (λr' EV=>hs r' (AN _ EV)) B1 (by rw [By LC];exact hq);refine⟨m1++m2,by rw [<- Ci];exact B2,λr' EV e=>?_⟩;rw [<- Ci]
  rcases AI.mp EV with z | z
  ·subst z
   rw [AU];exact AZ _ (h1 e)
  ·exact h2 r' z e
theorem GY.next (B:GY rs a fd tk q) {x:Str}{n:Nat} (hq:fd[q]?=some (x,n)):∃Up,GY rs a Up (rs.foldl (FT a x) tk) (q + 1):=by
 obtain⟨more,B',h⟩:=GY.rows rs fd tk (λ_ z=>z) B hq;have LC:q < fd.length:=(AE.mp hq).1;have HF:(fd++more)[q]?=some (x,n):=by rw [By LC];exact hq
 refine⟨fd++more,B'.fst,B'.dist,B'.nd,B'.so,B'.sub,B'.par,λi p hi hp r hr e=>?_,λp hp=>?_,by simp;omega⟩
 ·rcases CM i q with z | z
  ·exact B'.done i p z hp r hr e
  ·have ei:i=q:=by omega
   subst ei;rw [HF] at hp;cases hp;exact h r hr e
 ·obtain⟨n1,n2⟩:=B'.near _ HF
  have E8:=AB hp;obtain⟨l1,g1⟩:=AE.mp HF;obtain⟨l2,g2⟩:=AE.mp hp;have Gq:n<=p.2:=by
   have:=Bb.mp B'.so q (q + 1) l1 l2 (by omega);rw [g1,g2] at this;exact this
  have Tb:=n1 p E8
  dsimp only at Tb n1
  refine⟨λp' Gv=>by have:=n1 p' Gv;omega,λz m hz hm=>?_⟩
  rcases CM n m with y | y
  ·have em:m=n + 1:=by omega
   subst em;obtain⟨r,hr,rfl,hd⟩:=hz.pred;obtain⟨t,ht,rfl⟩:=AG.mp hr;have hf:=n2 _ n hd (AF _);obtain⟨p0,JU,e0⟩:=AG.mp hf;have en:p0.2=n:=(B'.dist p0 JU).uniq (by rw [e0];exact hd);obtain⟨i,hi⟩:=BS JU;obtain⟨l3,g3⟩:=AE.mp hi;have hiq:i < q + 1:=by
    rcases CM i (q + 1) with w | w
    ·exact w
    ·exfalso
     rcases CM (q + 1) i with v | v
     ·have:=Bb.mp B'.so (q + 1) i l2 l3 v
      rw [g2,g3] at this;omega
     ·have ei:i=q + 1:=by omega
      subst ei;rw [hp] at hi;cases hi;omega
   rcases CM i q with w | w
   ·exact B'.done i p0 w hi t ht e0.symm
   ·have ei:i=q:=by omega
    subst ei;rw [HF] at hi;cases hi;exact h t ht e0.symm
  ·exact n2 z m hz y
end
theorem fK {α:Type}:∀{l m:List α},l.Nodup->(∀x∈l,x∈m)->l.length<=m.length
 | [],_,_,_=>Be _
 | x::l,m,h,hs=>by
  obtain⟨h1,h2⟩:=Bc.mp h;obtain⟨u,v,rfl⟩:=List.append_of_mem (hs x AJ);have:=fK (m:=u++v) h2 λy hy=>by
   have q:=hs y (AN _ hy)
   rcases AO.mp q with z | z
   ·exact AZ _ z
   ·rcases AI.mp z with e | z
    ·subst e;exact absurd hy h1
    ·exact AK _ z
  simp at this ⊢;omega
abbrev Ga (a:Str) (tk:List T):List Str:=a::tk.map (·.2.2.2)
structure gZ (rs:List T) (a:Str) (tk:List T):Prop where
 mem:∀z∈Ga a tk,∃n,bx (rs.map (·.2)) a n z
 nd:(Ga a tk).Nodup
 sub:∀t∈tk,t∈rs
 par:∀t∈tk,t.2.2.1∈Ga a tk/\∃n,bx (rs.map (·.2)) a n t.2.2.1/\bx (rs.map (·.2)) a (n + 1) t.2.2.2
 cl:∀n z,Walk (rs.map (·.2)) a n z->z∈Ga a tk
theorem GY.full {rs:List T}{a:Str}{fd:List (Str×Nat)}{tk:List T}{q:Nat} (B:GY rs a fd tk q) (hq:fd.length<=q):gZ rs a tk:=by
 have hf:Ga a tk=fd.map (·.1):=B.fst.symm;refine⟨λz hz=>?_,by rw [hf];exact B.nd,B.sub,λt ht=>by rw [hf];exact B.par t ht,λn z h=>?_⟩
 ·rw [hf] at hz
  obtain⟨p,hp,rfl⟩:=AG.mp hz;exact⟨_,B.dist p hp⟩
 ·rw [hf]
  induction h with
  | nil=>rw [<- hf];exact AJ
  | @snoc n r h hr ih =>
   obtain⟨p,hp,e⟩:=AG.mp ih;obtain⟨i,hi⟩:=BS hp;obtain⟨t,ht,rfl⟩:=AG.mp hr;exact B.done i p (Bk (AE.mp hi).1 hq) hi t ht e.symm
theorem iN {R:List Row}{a:Str}{ps:List Str} (ha:a∈ps) (h:∀r∈R,r.2.2∈ps):∀{n:Nat}{z:Str},Walk R a n z->z∈ps:=by
 intro n z hw;cases hw with
 | nil=>exact ha
 | snoc _ hr=>exact h _ hr
theorem GY.bound {rs:List T}{a:Str}{fd:List (Str×Nat)}{tk:List T}{q:Nat} (B:GY rs a fd tk q) {ps:List Str} (ha:a∈ps) (h:∀r∈rs,r.2.2.2∈ps):fd.length<=ps.length:=by
 have:=fK B.nd (m:=ps) λz hz=>by
  obtain⟨p,hp,rfl⟩:=AG.mp hz;exact iN ha (λr hr=>by obtain⟨t,ht,rfl⟩:=AG.mp hr;exact h t ht) (B.dist p hp).1
 simpa using this
theorem lw {rs:List T}{a:Str}{k:Nat} (h:(FA rs a k).length + 1<=k):∀j,FA rs a (k + j)=FA rs a k
 | 0=>rfl
 | j + 1=>by
  have ih:=lw h j;show (match (a::(FA rs a (k + j)).map (·.2.2.2))[k + j]? with | some x=>rs.foldl (FT a x) (FA rs a (k + j)) | none=>FA rs a (k + j))=_;rw [ih];have e:(a::(FA rs a k).map (·.2.2.2))[k + j]?=none:=by
   rw [List.getElem?_eq_none_iff];simp;omega
  rw [e]
theorem nF:∃f:List T->Str->List T,∀rs a,f rs a=FA rs a 200:=⟨_,λ_ _=>rfl⟩
def first (rs:List T) (a:Str):List T:=Classical.choose nF rs a
theorem u5 (rs:List T) (a:Str):first rs a=FA rs a 200:=Classical.choose_spec nF rs a
theorem uR {rs:List T}{a:Str}{k:Nat} (h:(FA rs a k).length + 1<=k) (hk:k<=200):FA rs a k=first rs a:=by
 have:=lw h (200 - k);rw [show k + (200 - k)=200 by omega] at this;rw [u5];exact this.symm
def Aa (tk:List T) (a:Str):Nat->Str->List T
 | 0,_=>[]
 | f + 1,x=>if x=a then [] else match tk.find? (λt=>decide (t.2.2.2=x)) with
  | some t=>Aa tk a f t.2.2.1++[t]
  | none=>[]
def lst (a:Str) (w:List T):Str:=(a::w.map (·.2.2.2)).getLast (by simp)
structure Aq (rs:List T) (a:Str) (w:List T) (x:Str):Prop where
 at':∀i t,w[i]?=some t->t∈rs/\t.2.2.1=lst a (w.take i)/\bx (rs.map (·.2)) a (i + 1) t.2.2.2
 last:lst a w=x
theorem w6 {R:List Row}{a:Str}{ps:List Str} (ha:a∈ps) (h:∀r∈R,r.2.2∈ps):∀{n:Nat}{z:Str},bx R a n z->n < ps.length:=by
 have key:∀(n:Nat) (z:Str),bx R a n z->∃l:List Str,l.length=n + 1/\l.Nodup/\(∀y∈l,y∈ps)/\∀y∈l,∃m,m<=n/\bx R a m y:=by
  intro n
  induction n with
  | zero=>intro z hz;exact⟨[z],rfl,by simp,by simpa using iN ha h hz.1,by simpa using hz⟩
  | succ n ih =>
   intro z hz;obtain⟨r,hr,rfl,hd⟩:=hz.pred;obtain⟨l,h1,h2,h3,h4⟩:=ih _ hd;refine⟨r.2.2::l,by simp [h1],Bc.mpr ⟨λhm=>?_,h2⟩,λy hy=>?_,λy hy=>?_⟩
   ·obtain⟨m,h5,h6⟩:=h4 _ hm
    exact absurd (h6.uniq hz) (by omega)
   ·rcases AI.mp hy with e | hy
    ·subst e;exact h _ hr
    ·exact h3 y hy
   ·rcases AI.mp hy with e | hy
    ·subst e;exact⟨_,AF _,hz⟩
    ·obtain⟨m,h5,h6⟩:=h4 y hy
     exact⟨m,by omega,h6⟩
 intro n z hz;obtain⟨l,h1,h2,h3,_⟩:=key n z hz;have:=fK h2 h3;omega
theorem v9 (a x:Str) (r:T) (tk:List T):∃more,FT a x tk r=tk++more/\more.length<=1:=by
 unfold FT;split
 ·exact⟨[r],rfl,by simp⟩
 ·exact⟨[],by simp,by simp⟩
theorem mj (a x:Str):∀(rs tk:List T),∃more,rs.foldl (FT a x) tk=tk++more/\more.length<=rs.length
 | [],tk=>⟨[],by simp,by simp⟩
 | r::rs,tk=>by
  obtain⟨m1,e1,h1⟩:=v9 a x r tk;obtain⟨m2,e2,h2⟩:=mj a x rs (FT a x tk r);refine⟨m1++m2,?_,by simp;omega⟩;rw [List.foldl_cons,e2,e1,Ci]
theorem tR {a x:Str}{rs tk:List T}{i:Nat}{r:T} (h:rs[i]?=some r):(rs.take (i + 1)).foldl (FT a x) tk=FT a x ((rs.take i).foldl (FT a x) tk) r:=by
 rw [Bg,h,List.foldl_append];rfl
structure fv (H:Hp) (rs:List T):Prop where
 e:∀r∈rs,b7 H r.1 r.2
theorem fv.same {H H':Hp}{rs:List T} (h:fv H rs) (s:af H H'):fv H' rs:=⟨λr hr=>s _ _ (h.e r hr)⟩
def oA:Sp:=λvs H Q _=>∃(ra:Addr) (a:Str) (rs:List T) (ps:List Str),vs=[.ref ra,.str a]/\H ra=some (.lst (aj rs))/\fv H rs/\a∈ps/\(∀r∈rs,r.2.2.2∈ps)/\ps.length<=100/\rs.length<=60 /\
 ∀(q:Addr) (H':Hp),af H H'->H q=none->H' q=some (.lst (aj (first rs a)))->gZ rs a (first rs a)->Q (.ref q) H'
abbrev N25:List Str:=["rows","start","found","taken","done","row"]
theorem gk:aH N25 ["rows","start"] (aC (top 25)):=⟨rfl,rfl,rfl,by decide +kernel,rfl,by decide +kernel,by decide +kernel⟩
theorem qO (F:EW K "first_rows" "first_rows" (top 25) f fd) (B:Bl mg):aD P w K mg base EU 1 f fd ["rows","start"] oA:=by
 refine F.ok gk (λvs H Q E h=>?_) (λ_ _ _ _ H vs Q E hr h=>?_)
 ·obtain⟨ra,a,rs,ps,rfl,_⟩:=h
  rfl
 ·obtain⟨ra,a,rs,ps,rfl,GV,GU,KI,Ib,hz,Hr,k⟩:=h
  refine⟨_,ak (aA (i:=2) gk.nd rfl (Or.inl rfl) (bw (aa (pv 1) ae)))
   (ak (aA (i:=3) gk.nd rfl (Or.inl rfl) (bw ae))
   (ak (aA (i:=4) gk.nd rfl (Or.inl rfl) am)
   (ak (jR Bm (aB jc (pv 4) (au bb rfl B.len AY (aa (pv 2) ae)) (aT _))
    (ak (bZ Bm rfl (bv (pv 0)) (bc (i:=5) gk.nd rfl (Or.inl rfl))
     (ar (aS (PW.pt (gH (aB dG (ax aG (pv 5) am (λ_ _=>rfl)) (ax aG (pv 2) (pv 4) (λ_ _=>rfl)) (aT _))
       (gA (aB fA (ax aG (pv 5) am (λ_ _=>rfl)) (pv 2) (by with_unfolding_all rfl)))))
      (ak (bg (cH Bo BB BC dj (pv 2) (aa (ax aG (pv 5) am (λ_ _=>rfl)) ae)))
      (ar (bg (cH Bo BB BC dj (pv 3) (aa (pv 5) ae))))) aV)))
    (ar (yx (i:=4) gk.nd rfl (Or.inl rfl) am yg))))
   (ar (aM (pv 3)))))),?_⟩
  refine⟨_,rfl,by show 1<=sizeLine;decide,λfo FF=>?_⟩;have s1:=ai (o:=.lst [.str a]) (af.refl H) FF;have f1:upd H fo (.lst [.str a]) fo=some (.lst ((Ga a []).map V.str)):=ag;generalize upd H fo (.lst [.str a])=H1 at s1 f1 ⊢;refine⟨Be _,λtk GI=>?_⟩;have G7:=s1.free GI;have Mm:fo≠tk:=aR f1 GI;have s2:=ai (o:=.lst []) s1 GI;have f2:upd H1 tk (.lst []) fo=some (.lst ((Ga a []).map V.str)):=by rw [ao Mm];exact f1
  have t2:upd H1 tk (.lst []) tk=some (.lst (aj [])):=ag;generalize upd H1 tk (.lst [])=H2 at s2 f2 t2 ⊢
  refine⟨λm σ H3=>∃(q:Nat) (fd:List (Str×Nat)) (g:Option V),σ=[some (.ref ra),some (.str a),some (.ref fo),some (.ref tk),some (.int q),g]/\m=200 - q/\GY rs a fd (FA rs a q) q/\af H H3/\H3 fo=some (.lst ((Ga a (FA rs a q)).map V.str))/\H3 tk=some (.lst (aj (FA rs a q))),
   ⟨_,0,_,none,rfl,rfl,GY.start rs a,s2,f2,t2⟩,?_⟩
  rintro m σ H3 ⟨q,fd,g,rfl,rfl,Bq,s3,f3,t3⟩;have GQ:(Ga a (FA rs a q)).length=fd.length:=by
   have:=congrArg List.length Bq.fst;rw [Av] at this;exact this.symm
  have hfb:=Bq.bound KI Ib;have LC:=Bq.ql;refine⟨_,rfl,_,rfl,fo,_,rfl,.inl (EF.of f3),_,_,rfl,rfl,_,rfl,aU (λc=>?_) (λc=>?_)⟩
  ·have EM:q < fd.length:=by
    have:=of_decide_eq_true c;rw [Av,GQ] at this;omega
   have VZ:fd[q]?=some (fd[q].1,fd[q].2):=AD EM;obtain⟨Up,B'⟩:=Bq.next VZ;have hx:(Ga a (FA rs a q))[q]?=some fd[q].1:=by
    show (a::(FA rs a q).map (·.2.2.2))[q]?=_;rw [<- Bq.fst,AH,VZ];rfl
   have eb:FA rs a (q + 1)=rs.foldl (FT a fd[q].1) (FA rs a q):=by
    show (match (a::(FA rs a q).map (·.2.2.2))[q]? with | some x=>rs.foldl (FT a x) (FA rs a q) | none=>FA rs a q)=_;rw [show (a::(FA rs a q).map (·.2.2.2))[q]?=some fd[q].1 from hx]
   rw [<- eb] at B';generalize fd[q].1=x at hx eb;refine⟨λσ' H'=>∃m',m' < 200 - q/\∃(q:Nat) (fd:List (Str×Nat)) (g:Option V),σ'=[some (.ref ra),some (.str a),some (.ref fo),some (.ref tk),some (.int q),g]/\m'=200 - q/\GY rs a fd (FA rs a q) q/\af H H'/\H' fo=some (.lst ((Ga a (FA rs a q)).map V.str))/\H' tk=some (.lst (aj (FA rs a q))),λσ' H' q=>q,?_⟩
   refine⟨_,rfl,ra,rfl,⟨_,EF.of (s3 _ _ GV)⟩,eB (K:=K) (a:=ra) (xs:=aj rs) (λi σ H4=>∃g,σ=[some (.ref ra),some (.str a),some (.ref fo),some (.ref tk),some (.int q),g]/\af H H4/\H4 fo=some (.lst ((Ga a ((rs.take i).foldl (FT a x) (FA rs a q))).map V.str))/\H4 tk=some (.lst (aj ((rs.take i).foldl (FT a x) (FA rs a q)))))
    ⟨_,rfl,s3,f3,t3⟩ (λi σ H4 _ p=>by obtain⟨_,_,s4,_⟩:=p;exact EF.of (s4 _ _ GV)) ?_ ?_⟩
   ·rintro i y σ H4 hy ⟨g,rfl,s4,f4,t4⟩
    obtain⟨r,FS,rfl⟩:=bY hy;have Gx:i < rs.length:=(AE.mp FS).1;have FE:=s4 _ _ (GU.e r (AB FS));obtain⟨more,em,V8⟩:=mj a x (rs.take i) (FA rs a q);have EJ:((rs.take i).foldl (FT a x) (FA rs a q)).length<=160:=by
     rw [em,Ba];have h1:(FA rs a q).length + 1=fd.length:=by simpa using GQ
     have h2:(rs.take i).length<=60:=by rw [AW];omega
     omega
    have VN:(Ga a ((rs.take i).foldl (FT a x) (FA rs a q)))[q]?=some x:=by
     rw [em];show (a::(FA rs a q++more).map (·.2.2.2))[q]?=_
     rw [AU,<- List.cons_append,By (by
      have:=GQ;simp at this ⊢;omega)]
     exact hx
    have tf:=tR (a:=a) (x:=x) (tk:=FA rs a q) FS;rw [tf];generalize (rs.take i).foldl (FT a x) (FA rs a q)=tl at f4 t4 EJ VN ⊢;have R1:((Ga a tl).map V.str)[q]?=some (.str x):=by rw [AH,VN];rfl
    refine⟨_,rfl,ay (j:=1) (.inr (EG.of FE)) rfl rfl ⟨_,rfl,_,rfl,ay (j:=q) (.inl (EF.of f4)) rfl R1 ⟨rfl,_,rfl,?_⟩⟩⟩
    by_cases c1:r.2.2.1=x
    ·rw [decide_eq_true (show V.str r.2.2.1=V.str x by rw [c1])]
     refine bK ⟨_,rfl,ay (j:=2) (.inr (EG.of FE)) rfl rfl ⟨_,rfl,fo,_,rfl,.inl (EF.of f4),rfl,aW _,_,rfl,?_⟩⟩;rw [aX]
     by_cases c2:r.2.2.2∈Ga a tl
     ·have es:FT a x tl r=tl:=by unfold FT;rw [if_neg (λz=>z.2 c2)]
      rw [es];show if (!decide (r.2.2.2∈Ga a tl))=true then _ else _;exact fY c2 ⟨_,rfl,s4,f4,t4⟩
     ·have es:FT a x tl r=tl++[r]:=by unfold FT;rw [if_pos ⟨c1,c2⟩]
      rw [es];show if (!decide (r.2.2.2∈Ga a tl))=true then _ else _;refine pU c2 ?_;refine⟨_,rfl,.inl ⟨rfl,_,EF.of f4⟩,_,rfl,ay (j:=2) (.inr (EG.of FE)) rfl rfl ⟨fo,_,_,rfl,rfl,f4,fits (by simp;omega),?_⟩⟩;have s5:=af.upd0 s4 (o:=.lst ((Ga a tl).map V.str++[.str r.2.2.2])) (q:=fo) FF;have f5:upd H4 fo (.lst ((Ga a tl).map V.str++[.str r.2.2.2])) fo=some (.lst ((Ga a (tl++[r])).map V.str)):=by rw [ag];simp
      have t5:upd H4 fo (.lst ((Ga a tl).map V.str++[.str r.2.2.2])) tk=some (.lst (aj tl)):=by rw [ao Mm.symm];exact t4
      generalize upd H4 fo (.lst ((Ga a tl).map V.str++[.str r.2.2.2]))=H5 at s5 f5 t5 ⊢;refine⟨_,rfl,.inl ⟨rfl,_,EF.of t5⟩,_,rfl,tk,_,_,rfl,rfl,t5,fits (by simp;omega),_,rfl,af.upd0 s5 G7,by rw [ao Mm];exact f5,by rw [ag];simp [aj]⟩
    ·have es:FT a x tl r=tl:=by unfold FT;rw [if_neg (λz=>c1 z.1)]
     rw [es,decide_eq_false (λz=>c1 (V.str.inj z))];exact aN (aN ⟨_,rfl,s4,f4,t4⟩)
   ·rintro σ H4 ⟨g,rfl,s4,f4,t4⟩
    have et:rs.take (aj rs).length=rs:=take_all rs (by simp);rw [et,<- eb] at f4 t4;exact⟨_,rfl,_,_,rfl,rfl,_,by omega,q + 1,Up,_,rfl,rfl,B',s4,f4,t4⟩
  ·have NA:fd.length<=q:=by
    have:=of_decide_eq_false (Bool.eq_false_iff.mpr c);rw [Av,GQ] at this;omega
   have e1:FA rs a q=first rs a:=uR (by have:=GQ;simp at this;omega) (by omega);have Fu:=Bq.full NA;rw [e1] at t3 Fu;exact⟨_,rfl,k tk H3 s3 G7 t3 Fu⟩
theorem fP {α:Type} (p:α->Bool):∀(l:List α),(l.filter p)[0]?=l.find? p
 | []=>rfl
 | x::l=>by
  by_cases h:p x=true
  ·simp [h]
  ·simp [h,fP p l]
def oZ:Sp:=λvs H Q _=>∃(ra:Addr) (a:Str) (rs:List T) (ps:List Str),vs=[.ref ra,.str a]/\H ra=some (.lst (aj rs))/\fv H rs/\a∈ps/\(∀r∈rs,r.2.2.2∈ps)/\ps.length<=100/\rs.length<=60 /\
 ∀(q:Addr) (H':Hp),af H H'->H q=none->H' q=some (.lst ((Ga a (first rs a)).map V.str))->gZ rs a (first rs a)->Q (.ref q) H'
theorem jJ {rs tk:List T}{a:Str}{ps:List Str} (F:gZ rs a tk) (ha:a∈ps) (h:∀r∈rs,r.2.2.2∈ps):tk.length + 1<=ps.length:=by
 have:=fK F.nd (m:=ps) λz hz=>by
  obtain⟨n,hd⟩:=F.mem z hz;exact iN ha (λr hr=>by obtain⟨t,ht,rfl⟩:=AG.mp hr;exact h t ht) hd.1
 simpa using this
theorem z9:aH ["rows","start"] ["rows","start"] (aC (top 26)):=⟨rfl,rfl,rfl,by decide +kernel,rfl,by decide +kernel,by decide +kernel⟩
theorem sO (F:EW K "come_to" "come_to" (top 26) f fd) (F1:Fn P w K mg base 1 "first_rows" ["rows","start"] oA):aD P w K mg base EU 2 f fd ["rows","start"] oZ:=by
 refine F.ok z9 (λvs H Q E h=>?_) (λ_ _ _ _ H vs Q E hr h=>?_)
 ·obtain⟨ra,a,rs,ps,rfl,_⟩:=h
  rfl
 ·obtain⟨ra,a,rs,ps,rfl,GV,GU,KI,Ib,hz,Hr,k⟩:=h
  refine⟨_,ar (aM (ba dF (bw (aa (pv 1) ae)) (aZ (N:=["row"]) (ix:=[none]) ⟨rfl,rfl,rfl,by decide⟩ rfl (bv (aq F1 hr (aa (pv 0) (aa (pv 1) ae)))) (λ_ _ _ _=>aF 0 (by decide) rfl rfl) (λ_ _ _ _=>bz)
   (λ_ _ _ _=>ax (bD K) (pv 0) am (λ_ _=>rfl))))),?_⟩
  refine⟨_,rfl,by show 1<=sizeLine;decide,λl hl=>?_⟩;have s1:=ai (o:=.lst [.str a]) (af.refl H) hl;have l1:upd H l (.lst [.str a]) l=some (.lst [.str a]):=ag;generalize upd H l (.lst [.str a])=H1 at s1 l1 ⊢;refine⟨_,rfl,_,rfl,ra,a,rs,ps,rfl,s1 _ _ GV,GU.same s1,KI,Ib,hz,Hr,λq H2 s2 Gf q2 Fu=>?_⟩;have EJ:=jJ Fu KI Ib;have r2:fv H2 (first rs a):=⟨λr hr=>s2 _ _ (s1 _ _ (GU.e r (Fu.sub r hr)))⟩
  refine⟨q,rfl,⟨_,EF.of q2⟩,c9 (xs:=aj (first rs a)) (fits (by simp;omega)) (λi ys σ H3=>ys=((first rs a).take i).map (λt=>V.str t.2.2.2)/\af H2 H3/\∃v,σ=[v]) ⟨rfl,af.refl _,_,rfl⟩
   (λi ys σ H3 _ p=>⟨by rw [p.1];simp;omega,EF.of (p.2.1 _ _ q2)⟩) ?_ ?_⟩
  ·rintro i x ys σ H3 hx ⟨rfl,s3,v,rfl⟩
   obtain⟨r,FS,rfl⟩:=bY hx;exact⟨_,rfl,ay (j:=2) (.inr (EG.of (s3 _ _ (r2.e r (AB FS))))) rfl rfl ⟨(ig _ _ _ _ FS).symm,s3,_,rfl⟩⟩
  ·rintro ys σ H3 ⟨rfl,s3,v,rfl⟩ c hc
   rw [take_all (first rs a) (by simp)];have s4:=ai (o:=.lst ((first rs a).map λt=>V.str t.2.2.2)) s3 hc;have c4:upd H3 c (.lst ((first rs a).map λt=>V.str t.2.2.2)) c=some (.lst ((first rs a).map λt=>V.str t.2.2.2)):=ag;generalize upd H3 c (.lst ((first rs a).map λt=>V.str t.2.2.2))=H4 at s4 c4 ⊢;have GB:=s1.trans (s2.trans s4);refine⟨l,c,_,_,rfl,rfl,s4 _ _ (s2 _ _ l1),c4,BH (fits (by simp;omega)),λp hp=>k p _ (ai GB hp) (GB.free hp) (by rw [ag];simp [Bf]) Fu⟩
structure cu (root:Str) (ps:List Str) (tk:List T):Prop where
 tr:Tree root ps (tk.map (·.2))
 st:∀t∈tk,t.2.2.1∈ps/\t.2.2.2∈ps
 rt:root∈ps
section
variable {root:Str}{ps:List Str}{tk:List T}
theorem cu.goals (W:cu root ps tk):(tk.map (·.2.2.2)).Nodup:=by
 have:=W.tr.nd;rw [Bf] at this;exact (Bc.mp this).2
theorem cu.nroot (W:cu root ps tk) {t:T} (h:t∈tk):t.2.2.2≠root:=by
 have:=W.tr.nd;rw [Bf] at this;exact λe=>(Bc.mp this).1 (e ▸ AC (f:=λt:T=>t.2.2.2) h)
theorem cu.inn (W:cu root ps tk) {x:Str} (h:x∈ps):x∈Ga root tk:=by
 have:=W.tr.all x h;rw [Bf] at this;exact this
theorem cu.out (W:cu root ps tk) {x:Str} (h:x∈Ga root tk):x∈ps:=by
 rcases AI.mp h with e | h
 ·rw [e];exact W.rt
 ·obtain⟨t,ht,rfl⟩:=AG.mp h
  exact (W.st t ht).2
theorem uB {d:Str->Nat} (hd:∀r∈tk.map (·.2),d r.2.2=d r.2.1 + 1) {a x:Str}{n:Nat} (h:Walk (tk.map (·.2)) a n x):d x=d a + n:=by
 induction h with
 | nil=>rfl
 | @snoc n r h hr ih=>rw [hd r hr,ih];omega
theorem cu.walk (W:cu root ps tk) {d:Str->Nat} (h0:d root=0) (hd:∀r∈tk.map (·.2),d r.2.2=d r.2.1 + 1):∀(k:Nat) (x:Str),d x<=k->x∈ps->Walk (tk.map (·.2)) root (d x) x:=by
 intro k
 induction k with
 | zero =>
  intro x hx hp
  rcases AI.mp (W.inn hp) with e | h
  ·subst e;rw [h0];exact .nil
  ·obtain⟨t,ht,rfl⟩:=AG.mp h
   have:=hd t.2 (AC ht);omega
 | succ k ih =>
  intro x hx hp
  rcases AI.mp (W.inn hp) with e | h
  ·subst e;rw [h0];exact .nil
  ·obtain⟨t,ht,rfl⟩:=AG.mp h
   have e:=hd t.2 (AC ht);have:=ih t.2.2.1 (by omega) (W.st t ht).1;rw [e];exact .snoc this (AC ht)
theorem cu.dist (W:cu root ps tk):∃d:Str->Nat,d root=0/\(∀r∈tk.map (·.2),d r.2.2=d r.2.1 + 1)/\∀x∈ps,bx (tk.map (·.2)) root (d x) x/\d x < ps.length:=by
 obtain⟨d,h0,hd⟩:=W.tr.rk;have D:∀x∈ps,bx (tk.map (·.2)) root (d x) x:=λx hx=>⟨W.walk h0 hd _ x (AF _) hx,λm hm=>by have:=uB hd hm;omega⟩
 exact⟨d,h0,hd,λx hx=>⟨D x hx,w6 W.rt (λr hr=>by obtain⟨t,ht,rfl⟩:=AG.mp hr;exact (W.st t ht).2) (D x hx)⟩⟩
theorem cu.full (W:cu root ps tk):gZ tk root tk:=by
 obtain⟨d,h0,hd,D⟩:=W.dist;refine⟨λz hz=>⟨_,(D z (W.out hz)).1⟩,?_,λt h=>h,λt ht=>⟨W.inn (W.st t ht).1,d t.2.2.1,(D _ (W.st t ht).1).1,?_⟩,λn z h=>W.inn (iN W.rt (λr hr=>by obtain⟨t,ht,rfl⟩:=AG.mp hr;exact (W.st t ht).2) h)⟩
 ·have:=W.tr.nd
  rw [Bf] at this;exact this
 ·rw [<- hd t.2 (AC ht)];exact (D _ (W.st t ht).2).1
end
structure TP (H:Hp) (v pa ra th:Addr) (ps:List Str) (rs:List T) (root:Str) (ss:List Str):Prop where
 W:bA H v pa ra ps rs
 G:Good ps (rs.map (·.2))
 pz:ps.length<=8
 rz:rs.length<=40
 rt:root∈ps
 th:H th=some (.tup (ss.map V.str))
 tr:eW root ps rs ss
theorem TP.same {H H':Hp}{v pa ra th:Addr}{ps:List Str}{rs:List T}{root:Str}{ss:List Str} (t:TP H v pa ra th ps rs root ss) (s:af H H'):TP H' v pa ra th ps rs root ss:=⟨t.W.same s,t.G,t.pz,t.rz,t.rt,s _ _ t.th,t.tr⟩
theorem eW.treeW {ps:List Str}{rs:List T}{root:Str}{ss:List Str} (t:eW root ps rs ss) (G:Good ps (rs.map (·.2))) (rt:root∈ps):cu root ps (bj rs ss) :=
 ⟨t.tr,λr hr=>by have:=G.rn r.2 (AC (AM.mp hr).1);exact⟨this.2.1,this.2.2.1⟩,rt⟩
theorem Good.names {ps:List Str}{rs:List T} (G:Good ps (rs.map (·.2))):(E4 rs).Pairwise FU:=by
 have:=G.rso;rw [Bf] at this;exact this
theorem eW.names {ps:List Str}{rs:List T}{root:Str}{ss:List Str} (t:eW root ps rs ss) (G:Good ps (rs.map (·.2))):(bj rs ss).map (·.2.1)=ss:=by
 refine gn (G.names.sublist (Bi.map _)) t.so λx=>⟨λh=>?_,λh=>?_⟩
 ·obtain⟨r,hr,rfl⟩:=AG.mp h
  exact of_decide_eq_true (AM.mp hr).2
 ·obtain⟨r,hr,e⟩:=AG.mp (t.nm x h)
  exact AG.mpr ⟨r,AM.mpr ⟨hr,decide_eq_true (by rw [e];exact h)⟩,e⟩
theorem eW.nameP {ps:List Str}{rs:List T}{root:Str}{ss:List Str} (t:eW root ps rs ss) (G:Good ps (rs.map (·.2))):∀x∈ss,aE x:=λx hx=>by
 obtain⟨r,hr,e⟩:=AG.mp (t.nm x hx);have:=(G.rn r.2 (AC hr)).1;rw [<- e];exact this
theorem cu.len {root:Str}{ps:List Str}{tk:List T} (W:cu root ps tk):tk.length + 1<=ps.length:=by
 have:=jJ W.full W.rt (λr hr=>(W.st r hr).2);exact this
theorem cu.len2 {root:Str}{ps:List Str}{tk:List T} (W:cu root ps tk) (nd:ps.Nodup):tk.length + 1=ps.length:=by
 refine DS W.len ?_;have:=fK nd (m:=Ga root tk) λx hx=>W.inn hx;simpa using this
theorem cu.others {root:Str}{ps ss:List Str}{tk:List T} (W:cu root ps tk) (so:ps.Pairwise FU) (hp:ss.Perm (tk.map (·.2.2.2))) (hs:PyProof.Rows.sortedS ss=true):ss=ps.filter λy=>!decide (y=root):=by
 refine gn (ez hs (hp.nodup_iff.mpr W.goals)) (so.sublist Bi) λx=>?_;rw [hp.mem_iff,AM];constructor
 ·intro h
  obtain⟨t,ht,rfl⟩:=AG.mp h;exact⟨(W.st t ht).2,by simpa using W.nroot ht⟩
 ·rintro⟨h1,h2⟩
  exact (AI.mp (W.inn h1)).resolve_left (by simpa using h2)
def nR (r:V):Sp:=λvs H Q _=>∃(v pa ra th:Addr) (ps:List Str) (rs:List T) (root:Str) (ss:List Str),vs=[.ref v,.str root,.ref th]/\TP H v pa ra th ps rs root ss/\∀H',af H H'->Q r H'
abbrev N29:List Str:=["web","root","thing","rows","others"]
theorem kQ:aH N29 ["web","root","thing"] (aC (top 29)):=⟨rfl,rfl,rfl,by decide +kernel,rfl,by decide +kernel,by decide +kernel⟩
theorem vP (F:EW K "spans" "spans" (top 29) f fd) (B:Bl mg) (F1:Fn P w K mg base 2 "is_sorted_names" ["thing"] iA) (F2:Fn P w K mg base 1 "rows_of" ["web","names"] (my K)) (F3:Fn P w K mg base 2 "come_to" ["rows","start"] oZ):aD P w K mg base EU 3 f fd ["web","root","thing"] (nR (.bl true)):=by
 refine F.ok kQ (λvs H Q E h=>?_) (λ_ _ _ _ H vs Q E hr h=>?_)
 ·obtain⟨v,pa,ra,th,ps,rs,root,ss,rfl,_⟩:=h
  rfl
 ·obtain⟨v,pa,ra,th,ps,rs,root,ss,rfl,t,k⟩:=h
  have E7:aQ 1 _:=hr.mono (by decide)
  refine⟨_,ak (aS (bS (bM (aq F1 hr (aa (pv 2) ae)))) bT aV)
   (ak (aA (i:=3) kQ.nd rfl (Or.inl rfl) (aq F2 E7 (aa (pv 0) (aa (pv 2) ae))))
   (ak (aS (aB cj (au bb rfl B.len AY (aa (pv 3) ae)) (au bb rfl B.len AY (aa (pv 2) ae)) (aT _)) bT aV)
   (ak (dB (i:=4) (N:=["place","root"]) (ix:=[none,some 1]) kQ.nd rfl (Or.inl rfl) ⟨rfl,rfl,rfl,by decide⟩ rfl (bC (ax aG (pv 0) am (λ_ _=>rfl))) (λ_ _ _ _=>aF 0 (by decide) rfl rfl) (λ_ _ _ _=>bL (aB cj (pv 0) (pv 1) (aT _))) (λ_ _ _ _=>pv 0))
   (ak (aS (aB (fV hr) (au eP rfl B.sorted da (aa (aZ (N:=["row"]) (ix:=[none]) ⟨rfl,rfl,rfl,by decide⟩ rfl (bv (pv 3)) (λ_ _ _ _=>aF 0 (by decide) rfl rfl) (λ_ _ _ _=>bz) (λ_ _ _ _=>ax (bD K) (pv 0) am (λ_ _=>rfl))) ae)) (pv 4) (aT _)) bT aV)
   (ar (aM (cS dG (au bb rfl B.len AY (aa (aq F3 hr (aa (pv 3) (aa (pv 1) ae))) ae)) (au bb rfl B.len AY (aa (ax aG (pv 0) am (λ_ _=>rfl)) ae)) (aT _)))))))),?_⟩
  have TW:=t.tr.treeW t.G t.rt;have E2:=t.tr.names t.G;have Sv:ss.length=(bj rs ss).length:=by rw [<- E2,Av];rw [E2]
  have FY:=TW.len;have OG:=t.pz;refine⟨_,rfl,th,ss,rfl,t.th,t.tr.nameP t.G,t.tr.so,by omega,λH1 s1=>⟨true,rfl,aN ?_⟩⟩;have t1:=t.same s1;refine⟨_,rfl,_,rfl,v,th,pa,ra,ps,rs,ss,rfl,t1.W,by have:=t.rz;omega,.inr (EG.of t1.th),λq hq=>?_⟩;have s2:=ai (o:=.lst (aj (bj rs ss))) s1 hq;have q2:upd H1 q (.lst (aj (bj rs ss))) q=some (.lst (aj (bj rs ss))):=ag
  have MC:fv (upd H1 q (.lst (aj (bj rs ss)))) (bj rs ss):=⟨λr hr=>by
   have:=t.W.rows r (AM.mp hr).1
   exact s2 _ _ this⟩
  have t2:=t.same s2;show gh _ _ _ _ (upd H1 q (.lst (aj (bj rs ss))));generalize upd H1 q (.lst (aj (bj rs ss)))=H2 at s2 q2 t2 MC ⊢;generalize GI:bj rs ss=tk at *;refine⟨_,rfl,q,_,rfl,.inl (EF.of q2),_,rfl,th,_,rfl,.inr (EG.of t2.th),rfl,_,rfl,?_⟩;have en:(!decide (V.int ((aj tk).length:Int)=V.int ((ss.map V.str).length:Int)))=false:=by
   rw [Av,Av,Sv];simp
  rw [en];refine aN ?_
  refine⟨_,rfl,ay (j:=0) (.inr (EG.of t2.W.tp)) rfl rfl ⟨pa,rfl,⟨_,EG.of t2.W.pl⟩,cE (xs:=ps.map V.str) (fits (by simp;omega)) (λi ys σ H3=>ys=((ps.take i).filter λy=>!decide (y=root)).map V.str/\H3=H2/\∃v,σ=[v,some (.str root)]) ⟨rfl,rfl,_,rfl⟩
   (λi ys σ H3 _ q=>⟨by rw [q.1,Av];exact AV (AL _ _) (by simp;omega),by rw [q.2.1];exact EG.of t2.W.pl⟩) ?_ ?_⟩⟩
  ·rintro i y ys σ H3 hy ⟨rfl,rfl,v,rfl⟩
   rw [AH] at hy;cases hc:ps[i]? with
   | none=>rw [hc] at hy;cases hy
   | some z =>
    rw [hc] at hy;cases hy;have tf:=bH (λz:Str=>!decide (z=root)) ps i z hc;refine⟨_,rfl,_,rfl,rfl,_,rfl,?_⟩;have e:(!decide (V.str z=V.str root))=!decide (z=root):=by simp
    rw [e];refine aU (λc=>⟨_,rfl,?_,rfl,_,rfl⟩) (λc=>⟨?_,rfl,_,rfl⟩)
    ·rw [tf,c];simp
    ·rw [tf];simp only [BA] at c;rw [c];simp
  rintro ys σ H3 ⟨rfl,rfl,v,rfl⟩ l hl;rw [take_all ps (by simp)];have s4:=ai (o:=.lst ((ps.filter λy=>!decide (y=root)).map V.str)) (af.refl H3) hl;have l4:upd H3 l (.lst ((ps.filter λy=>!decide (y=root)).map V.str)) l=some (.lst ((ps.filter λy=>!decide (y=root)).map V.str)):=ag;generalize upd H3 l (.lst ((ps.filter λy=>!decide (y=root)).map V.str))=H4 at s4 l4 ⊢
  refine⟨_,rfl,q,rfl,⟨_,EF.of (s4 _ _ q2)⟩,c9 (xs:=aj tk) (fits (by simp;omega)) (λi ys σ H5=>ys=(tk.take i).map (λt=>V.str t.2.2.2)/\H5=H4/\∃v,σ=[v]) ⟨rfl,rfl,_,rfl⟩
   (λi ys σ H5 _ p=>⟨by rw [p.1];simp;omega,by rw [p.2.1];exact EF.of (s4 _ _ q2)⟩) ?_ ?_⟩
  ·rintro i x ys σ H5 hx ⟨rfl,rfl,v,rfl⟩
   obtain⟨r,FS,rfl⟩:=bY hx;exact⟨_,rfl,ay (j:=2) (.inr (EG.of (s4 _ _ (MC.e r (AB FS))))) rfl rfl ⟨(ig _ _ _ _ FS).symm,rfl,_,rfl⟩⟩
  rintro ys σ H5 ⟨rfl,rfl,v,rfl⟩ c hc;rw [take_all tk (by simp)];have ec:(tk.map λt=>V.str t.2.2.2)=(tk.map (·.2.2.2)).map V.str:=by rw [Bf];rfl
  rw [ec];have s6:=ai (o:=.lst ((tk.map (·.2.2.2)).map V.str)) s4 hc;refine⟨c,_,rfl,EF.of ag,by simp;omega,λso q' E8 GJ HF=>?_⟩;have s7:=ai (o:=.lst (so.map V.str)) s6 HF;have q7:upd (upd H5 c (.lst ((tk.map (·.2.2.2)).map V.str))) q' (.lst (so.map V.str)) q'=some (.lst (so.map V.str)):=ag;have l7:upd (upd H5 c (.lst ((tk.map (·.2.2.2)).map V.str))) q' (.lst (so.map V.str)) l=some (.lst ((ps.filter λy=>!decide (y=root)).map V.str)):=by rw [ao (λz=>by rw [<- z,ao (aR l4 hc),l4] at HF;cases HF),ao (aR l4 hc)];exact l4
  generalize upd (upd H5 c (.lst ((tk.map (·.2.2.2)).map V.str))) q' (.lst (so.map V.str))=H7 at s7 q7 l7 ⊢;have eo:=TW.others t.G.so E8 GJ;rw [<- eo] at l7;have Ot:∀x∈so,aE x:=λx hx=>t.G.nm x (by rw [eo] at hx;exact (AM.mp hx).1);refine⟨_,rfl,.list (so.map PyData.str),.list (so.map PyData.str),.lst q7 (Gi.strs so),.lst l7 (Gi.strs so),(dM Ot).1,(dM Ot).1,_,rfl,?_⟩;have ev:PyData.eqv (.list (so.map PyData.str)) (.list (so.map PyData.str))=true:=(fD so so).trans (by simp);rw [ev];refine aN ?_;have Md:=s2.trans s7;have t7:=t.same Md;refine⟨_,rfl,_,rfl,q,root,tk,ps,rfl,s7 _ _ q2,MC.same s7,t.rt,λr hr=>(TW.st r hr).2,by omega,by omega,λq8 H8 s8 hq8 XX Fu=>?_⟩;have t8:=t.same (Md.trans s8);refine⟨q8,_,rfl,.inl (EF.of XX),_,rfl,ay (j:=0) (.inr (EG.of t8.W.tp)) rfl rfl ⟨pa,_,rfl,.inr (EG.of t8.W.pl),rfl,?_⟩⟩;have EJ:(Ga root (first tk root)).length=ps.length:=by
   refine DS ?_ ?_
   ·have:=jJ Fu t.rt λr hr=>(TW.st r hr).2
    simpa using this
   ·obtain⟨d,h0,hd,D⟩:=TW.dist
    exact fK (bU t.G.so) λx hx=>Fu.cl _ _ (D x hx).1.1
  have e8:decide (V.int (((Ga root (first tk root)).map V.str).length:Int)=V.int ((ps.map V.str).length:Int))=true:=by
   rw [Av,Av,EJ];simp
  rw [e8];exact k H8 (Md.trans s8)
def fu (r:V):Sp:=λvs H Q _=>∃(v l pa ra:Addr) (ps ls:List Str) (rs:List (Addr×Row)),vs=[.ref v,.ref l]/\bA H v pa ra ps rs/\H l=some (.tup (ls.map V.str))/\cB ps ls/\∀H',af H H'->Q r H'
theorem y9:aH ["web","thing"] ["web","thing"] (aC (top 22)):=⟨rfl,rfl,rfl,by decide +kernel,rfl,by decide +kernel,by decide +kernel⟩
theorem uy (F:EW K "is_lot" "is_lot" (top 22) f fd) (B:Bl mg) (F1:Fn P w K mg base 2 "is_sorted_names" ["thing"] iA):aD P w K mg base EU 3 f fd ["web","thing"] (fu (.bl true)):=by
 refine F.ok y9 (λvs H Q E h=>?_) (λ_ _ _ _ H vs Q E hr h=>?_)
 ·obtain⟨v,l,pa,ra,ps,ls,rs,rfl,_⟩:=h
  rfl
 ·obtain⟨v,l,pa,ra,ps,ls,rs,rfl,W,hl,L,k⟩:=h
  refine⟨_,ak (aS (PW.pt (cq (bS (bM (aq F1 hr (aa (pv 1) ae)))) (cw (aB dG (au bb rfl B.len AY (aa (pv 1) ae)) am (aT _))))) (ar (aM eM)) aV)
   (ar (aM (au (eU rfl) rfl B.all eZ (aa (aZ (N:=["place","web"]) (ix:=[none,some 0]) ⟨rfl,rfl,rfl,by decide⟩ rfl (bC (pv 1)) (λ_ _ _ _=>aF 0 (by decide) rfl rfl) (λ_ _ _ _=>bz)
    (λ_ _ _ _=>cS (cO K) (pv 0) (ax (bD K) (pv 1) am (λ_ _=>rfl)) (by with_unfolding_all rfl))) ae)))),?_⟩
  refine⟨_,rfl,l,ls,rfl,hl,L.nm,L.so,by have:=L.z;omega,λH1 s1=>⟨true,rfl,aN ⟨_,rfl,l,_,rfl,.inr (EG.of (s1 _ _ hl)),rfl,_,rfl,kz ?_ ?_⟩⟩⟩
  ·intro z
   have z':((ls.map V.str).length:Int)=0:=V.int.inj z;have:ls.length≠0:=λq=>L.ne (CB.mp q);rw [Av] at z';omega
  refine⟨_,rfl,l,rfl,⟨_,EG.of (s1 _ _ hl)⟩,gu (xs:=ls.map V.str) (fits (by have:=L.z;simp;omega)) (λi ys σ H2=>ys=List.replicate i (.bl true)/\af H H2/\∃x,σ=[x,some (.ref v)]) ⟨rfl,s1,_,rfl⟩
   (λi ys σ H2 _ q=>⟨by rw [q.1];simp,EG.of (q.2.1 _ _ hl)⟩) ?_ ?_⟩
  ·rintro i x ys σ H2 hx ⟨rfl,s2,y,rfl⟩
   obtain⟨z,hz,rfl⟩:=AG.mp (AB hx);refine⟨_,rfl,_,rfl,ay (j:=0) (.inr (EG.of (s2 _ _ W.tp))) rfl rfl ⟨pa,ps.map V.str,rfl,.inr (EG.of (s2 _ _ W.pl)),rfl,aW ps,?_,s2,_,rfl⟩⟩;show _++[V.bl (FL (.str z) (ps.map V.str))]=_;rw [aX,decide_eq_true (L.sub z hz),Cg]
  ·rintro ys σ H2 ⟨rfl,s2,y,rfl⟩ q Kr
   refine⟨q,List.replicate _ true,rfl,EF.of (by rw [ag,Cs]),?_⟩;have e:∀n:Nat,(List.replicate n true).all id=true:=by simp
   rw [e];exact k _ (ai s2 Kr)
theorem zF:aH ["web","thing"] ["web","thing"] (aC (top 23)):=⟨rfl,rfl,rfl,by decide +kernel,rfl,by decide +kernel,by decide +kernel⟩
theorem rU (F:EW K "need_lot" "need_lot" (top 23) f fd) (F1:Fn P w K mg base 3 "is_lot" ["web","thing"] (fu (.bl true))):aD P w K mg base EU 4 f fd ["web","thing"] (fu .non):=by
 refine F.ok zF (λvs H Q E h=>?_) (λ_ _ _ _ H vs Q E hr h=>?_)
 ·obtain⟨v,l,pa,ra,ps,ls,rs,rfl,_⟩:=h
  rfl
 ·obtain⟨v,l,pa,ra,ps,ls,rs,rfl,W,hl,L,k⟩:=h
  refine⟨_,ar (aS (bS (bM (aq F1 hr (aa (pv 0) (aa (pv 1) ae))))) bT aV),?_⟩;exact⟨_,rfl,_,rfl,v,l,pa,ra,ps,ls,rs,rfl,W,hl,L,λH1 s1=>⟨true,rfl,aN (k H1 s1)⟩⟩
def iY:Sp:=λvs H Q _=>∃(v l pa ra:Addr) (ps ls:List Str) (rs:List (Addr×Row)),vs=[.ref v,.ref l]/\bA H v pa ra ps rs/\Good ps (rs.map (·.2))/\H l=some (.tup (ls.map V.str))/\cB ps ls /\
 ∀q H',af H H'->H q=none->H' q=some (.lst ((E4 (rs.filter (lead ls))).map V.str))->Q (.ref q) H'
theorem y4:aH ["web","lot"] ["web","lot"] (aC (top 27)):=⟨rfl,rfl,rfl,by decide +kernel,rfl,by decide +kernel,by decide +kernel⟩
theorem sR (F:EW K "leading_in" "leading_in" (top 27) f fd) (F1:Fn P w K mg base 4 "need_web" ["thing"] (eK .non)) (F2:Fn P w K mg base 4 "need_lot" ["web","thing"] (fu .non)) (F3:Fn P w K mg base 1 "leads_into" ["row","lot"] iX) :
  aD P w K mg base EU 5 f fd ["web","lot"] iY:=by
 refine F.ok y4 (λvs H Q E h=>?_) (λ_ _ _ _ H vs Q E hr h=>?_)
 ·obtain⟨v,l,pa,ra,ps,ls,rs,rfl,_⟩:=h
  rfl
 ·obtain⟨v,l,pa,ra,ps,ls,rs,rfl,W,G,hl,L,k⟩:=h
  have E7:aQ 1 _:=hr.mono (by decide);have hz:rs.length<=60:=by have:=G.rz;simpa using this
  refine⟨_,ak (bg (aq F1 hr (aa (pv 0) ae))) (ak (bg (aq F2 hr (aa (pv 0) (aa (pv 1) ae))))
   (ar (aM (aZ (N:=["row","lot"]) (ix:=[none,some 1]) ⟨rfl,rfl,rfl,by decide⟩ rfl (bC (ax aG (pv 0) am (λ_ _=>rfl))) (λ_ _ _ _=>aF 0 (by decide) rfl rfl)
    (λ_ _ _ _=>bL (bM (aq F3 E7 (aa (pv 0) (aa (pv 1) ae)))))
    (λ_ _ _ _=>ax (bD K) (pv 0) am (λ_ _=>rfl)))))),?_⟩
  refine⟨_,rfl,v,pa,ra,ps,rs,rfl,W,G,λH1 s1=>⟨_,rfl,_,rfl,v,l,pa,ra,ps,ls,rs,rfl,W.same s1,s1 _ _ hl,L,λH2 s2=>?_⟩⟩;have Gr:=s1.trans s2;have W2:=W.same Gr
  refine⟨_,rfl,ay (j:=1) (.inr (EG.of W2.tp)) rfl rfl ⟨ra,rfl,⟨_,EG.of W2.rl⟩,cE (xs:=aj rs) (fits (by simp;omega)) (λi ys σ H3=>ys=(E4 ((rs.take i).filter (lead ls))).map V.str/\H3=H2/\∃x,σ=[x,some (.ref l)]) ⟨rfl,rfl,_,rfl⟩
    (λi ys σ H3 _ q=>⟨by rw [q.1];simp only [E4,Av];exact AV (AL _ _) (by simp;omega),by rw [q.2.1];exact EG.of W2.rl⟩) ?_ ?_⟩⟩
  ·rintro i x ys σ H3 hx ⟨rfl,rfl,z,rfl⟩
   obtain⟨r,EV,rfl⟩:=bY hx;have hm:=AB EV;have ER:=W2.rows r hm;have tf:=bH (lead ls) rs i r EV;refine⟨_,rfl,_,rfl,l,r,ls,rfl,ER,Gr _ _ hl,_,rfl,?_⟩;refine aU (λd=>⟨_,rfl,ay (j:=0) (.inr (EG.of ER)) rfl rfl ⟨?_,rfl,_,rfl⟩⟩) (λd=>⟨?_,rfl,_,rfl⟩)
   ·rw [tf,d];simp [E4]
   ·rw [tf];simp only [BA] at d;rw [d];simp [E4]
  ·rintro ys σ H3 ⟨rfl,rfl,z,rfl⟩ q hq
   rw [take_all rs (by simp)];exact k q _ (ai Gr hq) (Gr.free hq) ag
theorem nQ {κ:Type} [DecidableEq κ]:∀{kvs:List (κ×V)}{k:κ}{v:V},(kvs.map (·.1)).Nodup->(k,v)∈kvs->bf kvs k=some v
 | p::r,k,v,hn,h=>by
  have IS:=Bc.mp hn
  rcases AI.mp h with e | h
  ·rw [<- e];exact cR rfl
  ·rw [cM (λe=>IS.1 (by show p.1∈r.map (·.1);rw [e];exact AC (f:=(·.1)) h))]
   exact nQ IS.2 h
theorem ve {K:zz7}{D:Addr}{j:Nat}{tk tv:TE}{σ':St}{fin:Hp->Prop}{H1:Hp}{a:Addr}{xs:List V} (Pv:Nat->St->Hp->Prop) (h0:Pv 0 σ' H1) (hl:∀i σ H,i<=xs.length->Pv i σ H->EG K H a xs)
  (hs:∀i x σ H,xs[i]?=some x->Pv i σ H->tk (σ.set j (some x)) H (λy H4=>tv (σ.set j (some x)) H4 λv H5=>∃H6,ja H5 D y v H6/\Pv (i + 1) (σ.set j (some x)) H6))
  (hd:∀σ H,Pv xs.length σ H->fin H):kO D (KQ K a) (cm j) cG tk tv σ' fin H1:=by
 refine⟨λi m σ H=>m=xs.length - i/\i<=xs.length/\Pv i σ H,⟨xs.length,by simp,Be _,h0⟩,?_⟩;rintro i m σ H ⟨rfl,hi,p⟩;have q1:=hl i σ H hi p
 by_cases h:i < xs.length
 ·refine .inr ⟨⟨xs,xs[i],q1,AD h⟩,λσ' H'=>Pv (i + 1) σ' H',λσ' H' z=>⟨xs.length - (i + 1),by omega,rfl,h,z⟩,?_⟩
  rintro v H' ⟨rfl,y⟩;unfold cG cm;exact bK (hs i v σ _ (y xs q1) p)
 ·have e:i=xs.length:=by omega
  subst e;exact .inl ⟨⟨xs,q1,AF _⟩,hd σ H p⟩
def sb (ls:List Str) (nm x:Str):Str:=if x∈ls then nm else x
def shr (ls:List Str) (nm:Str) (r:Row):Row:=(r.1,sb ls nm r.2.1,sb ls nm r.2.2)
def G4 (r:Row):Bool:=!decide (r.2.1=r.2.2)
def br (ls:List Str) (nm:Str) (rows:List Row):List Row:=(rows.map (shr ls nm)).filter G4
def GT (ls:List Str) (nm:Str) (r:Row):Row:=(r.1,if r.2.1∈ls then r.2.1 else nm,r.2.2)
def bo (ls:List Str) (nm:Str) (rows:List Row):List Row:=(rows.filter λr=>decide (r.2.2∈ls)).map (GT ls nm)
def outs (ps ls:List Str):List Str:=ps.filter λx=>!decide (x∈ls)
theorem iu {ls:List Str}{nm:Str}{rows:List Row}{i:Nat}{r:Row} (h:rows[i]?=some r):br ls nm (rows.take (i + 1))=br ls nm (rows.take i)++(if G4 (shr ls nm r) then [shr ls nm r] else []):=by
 unfold br;rw [Bg,h,AU,Dl];simp [CY]
theorem iq {ls:List Str}{nm:Str}{rows:List Row}{i:Nat}{r:Row} (h:rows[i]?=some r):bo ls nm (rows.take (i + 1))=bo ls nm (rows.take i)++(if decide (r.2.2∈ls) then [GT ls nm r] else []):=by
 unfold bo;rw [bH _ _ _ _ h,AU];split <;> simp
def nG (K:zz7):Sp:=λvs H Q _=>∃(v pa ra l:Addr) (ps ls:List Str) (rs:List (Addr×Row)),vs=[.ref v,.ref l]/\bA H v pa ra ps rs/\Sq K H l (ls.map V.str)/\ps.length<=1000 /\
 ∀q H',af H H'->H q=none->H' q=some (.tup ((outs ps ls).map V.str))->Q (.ref q) H'
theorem zf:aH ["web","found"] ["web","found"] (aC (top 31)):=⟨rfl,rfl,rfl,by decide +kernel,rfl,by decide +kernel,by decide +kernel⟩
theorem tM (F:EW K "places_beyond" "places_beyond" (top 31) f fd) (B:Bl mg):aD P w K mg base EU 1 f fd ["web","found"] (nG K):=by
 refine F.ok zf (λvs H Q E h=>?_) (λ_ _ _ _ H vs Q E hr h=>?_)
 ·obtain⟨v,pa,ra,l,ps,ls,rs,rfl,_⟩:=h
  rfl
 ·obtain⟨v,pa,ra,l,ps,ls,rs,rfl,W,hl,hz,k⟩:=h
  refine⟨_,ar (aM (bP c8 rfl B.tuple cv (aa (aZ (N:=["place","found"]) (ix:=[none,some 1]) ⟨rfl,rfl,rfl,by decide⟩ rfl (bC (ax aG (pv 0) am (λ_ _=>rfl))) (λ_ _ _ _=>aF 0 (by decide) rfl rfl)
   (λ_ _ _ _=>bL (aB (eu K) (pv 0) (pv 1) (by with_unfolding_all rfl))) (λ_ _ _ _=>pv 0)) ae))),?_⟩
  refine⟨_,rfl,ay (j:=0) (.inr (EG.of W.tp)) rfl rfl ⟨pa,rfl,⟨_,EG.of W.pl⟩,cE (xs:=ps.map V.str) (fits (by simp;omega)) (λi ys σ H2=>ys=(outs (ps.take i) ls).map V.str/\H2=H/\∃x,σ=[x,some (.ref l)]) ⟨rfl,rfl,_,rfl⟩
   (λi ys σ H2 hi q=>⟨by rw [q.1,Av];exact AV (AL _ _) (by simp;omega),by rw [q.2.1];exact EG.of W.pl⟩) ?_ ?_⟩⟩
  ·rintro i y ys σ H2 hy ⟨rfl,rfl,x,rfl⟩
   rw [AH] at hy;cases hc:ps[i]? with
   | none=>rw [hc] at hy;cases hy
   | some z =>
    rw [hc] at hy;cases hy;have tf:=bH (λz:Str=>!decide (z∈ls)) ps i z hc;refine⟨_,rfl,_,rfl,l,_,rfl,hl,rfl,aW ls,_,rfl,?_⟩;rw [aX];show if (!decide (z∈ls))=true then _ else _;refine aU (λc=>⟨_,rfl,?_,rfl,_,rfl⟩) (λc=>⟨?_,rfl,_,rfl⟩)
    ·unfold outs;rw [tf,c];simp
    ·unfold outs;rw [tf];simp only [BA] at c;rw [c];simp
  ·rintro ys σ H2 ⟨rfl,rfl,x,rfl⟩ p hp
   rw [take_all ps (by simp)];have s1:=ai (o:=.lst ((outs ps ls).map V.str)) (af.refl H2) hp;exact⟨p,_,rfl,.inl ⟨EF.of ag,λq hq=>k q _ (ai s1 hq) (s1.free hq) ag⟩⟩
def jG (K:zz7):Sp:=λvs H Q _=>∃(l:Addr) (ss:List Str) (x:Str),vs=[.ref l,.str x]/\Sq K H l (ss.map V.str)/\aE x/\x∉ss/\∀H',af H H'->Q .non H'
theorem zH:aH ["places","thing"] ["places","thing"] (aC (top 45)):=⟨rfl,rfl,rfl,by decide +kernel,rfl,by decide +kernel,by decide +kernel⟩
theorem ud (F:EW K "need_name_beside" "need_name_beside" (top 45) f fd) (F1:Fn P w K mg base 1 "is_name" ["thing"] gJ):aD P w K mg base EU 2 f fd ["places","thing"] (jG K):=by
 refine F.ok zH (λvs H Q E h=>?_) (λ_ _ _ _ H vs Q E hr h=>?_)
 ·obtain⟨l,ss,x,rfl,_⟩:=h
  rfl
 ·obtain⟨l,ss,x,rfl,hl,hx,hn,k⟩:=h
  refine⟨_,ar (aS (PW.pt (cq (bS (bM (aq F1 hr (aa (pv 1) ae)))) (cw (aB cW (pv 1) (pv 0) (by with_unfolding_all rfl))))) bT aV),?_⟩;refine⟨_,rfl,x,rfl,hx,λH1 s1=>⟨true,rfl,aN ⟨_,rfl,_,rfl,l,_,rfl,hl.same s1,rfl,aW ss,_,rfl,?_⟩⟩⟩;rw [aX];show if decide (x∈ss)=true then _ else _;exact kz hn (k H1 s1)
def kc:Sp:=λvs H Q _=>∃(pl rl:Addr) (ss:List Str) (rs:List (Addr×Row)),vs=[.ref pl,.ref rl]/\H pl=some (.lst (ss.map V.str))/\H rl=some (.lst (aj rs))/\(∀r∈rs,b7 H r.1 r.2)/\ss.length < 64/\ss.Nodup /\
 ∀(v pa ra:Addr) (ps:List Str) (H':Hp),af H H'->H v=none->ps.Perm ss->ps.Pairwise FU->bA H' v pa ra ps rs->Q (.ref v) H'
theorem zc:aH ["places","rows"] ["places","rows"] (aC (top 46)):=⟨rfl,rfl,rfl,by decide +kernel,rfl,by decide +kernel,by decide +kernel⟩
theorem tP (F:EW K "web_of" "web_of" (top 46) f fd) (B:Bl mg):aD P w K mg base EU 1 f fd ["places","rows"] kc:=by
 refine F.ok zc (λvs H Q E h=>?_) (λ_ _ _ _ H vs Q E hr h=>?_)
 ·obtain⟨pl,rl,ss,rs,rfl,_⟩:=h
  rfl
 ·obtain⟨pl,rl,ss,rs,rfl,Gu,FV,GU,J1,Fz,k⟩:=h
  refine⟨_,ar (aM (cf (aa (bP c8 rfl B.tuple cv (aa (au eP rfl B.sorted da (aa (pv 0) ae)) ae)) (aa (bP c8 rfl B.tuple cv (aa (pv 1) ae)) ae)))),?_⟩;refine⟨_,rfl,pl,ss,rfl,EF.of Gu,J1,λps q E8 GJ hq=>?_⟩;have s1:=ai (o:=.lst (ps.map V.str)) (af.refl H) hq;refine⟨q,_,rfl,.inl ⟨EF.of ag,λpa Ny=>?_⟩⟩;have s2:=ai (o:=.tup (ps.map V.str)) s1 Ny;have a2:upd (upd H q (.lst (ps.map V.str))) pa (.tup (ps.map V.str)) pa=some (.tup (ps.map V.str)):=ag;generalize upd (upd H q (.lst (ps.map V.str))) pa (.tup (ps.map V.str))=H2 at s2 a2 ⊢;refine⟨_,rfl,rl,_,rfl,.inl ⟨EF.of (s2 _ _ FV),λra GV=>?_⟩⟩;have s3:=ai (o:=.tup (aj rs)) (af.refl H2) GV;have a3:upd H2 ra (.tup (aj rs)) ra=some (.tup (aj rs)):=ag;generalize upd H2 ra (.tup (aj rs))=H3 at s3 a3 ⊢;refine⟨by show 2<=sizeLine;decide,λv hv=>?_⟩;have s4:=ai (o:=.tup [.ref pa,.ref ra]) (af.refl H3) hv;have GB:=s2.trans (s3.trans s4);exact k v pa ra ps _ GB ((s2.trans s3).free hv) E8 (ez GJ (E8.nodup_iff.mpr Fz)) ⟨ag,s4 _ _ (s3 _ _ a2),s4 _ _ a3,λr hr=>GB _ _ (GU r hr)⟩
theorem bF {ps ls:List Str}{x:Str}:x∈outs ps ls ↔ x∈ps/\x∉ls:=by unfold outs;simp
theorem lC {ps ls:List Str} (h:ps.Nodup):(outs ps ls).Nodup:=h.filter _
abbrev Jm (ls:List Str) (nm:Str) (ps:List Str):List (Key×V):=ps.map λx=>((Sum.inr x:Key),V.str (sb ls nm x))
theorem vS (ls:List Str) (nm:Str) {ps:List Str} (h:ps.Nodup):((Jm ls nm ps).map (·.1)).Nodup:=by
 have:((Jm ls nm ps).map (·.1))=ps.map Sum.inr:=by rw [Bf];rfl
 rw [this];exact List.Pairwise.map _ (λa b He e=>He (D2 e)) h
theorem vF {ls:List Str}{nm:Str}{ps:List Str}{x:Str} (h:x∉ps):bf (Jm ls nm ps) (Sum.inr x)=none:=by
 cases e:bf (Jm ls nm ps) (Sum.inr x) with
 | none=>rfl
 | some v =>
  have:=wX e;rw [Bf] at this;obtain⟨y,hy,e2⟩:=AG.mp this;exact absurd (D2 e2 ▸ hy) h
theorem mL {ls:List Str}{nm:Str}{ps:List Str}{x:Str} (hn:ps.Nodup) (h:x∈ps):bf (Jm ls nm ps) (Sum.inr x)=some (.str (sb ls nm x)) :=
 nQ (vS ls nm hn) (AC (f:=λx=>((Sum.inr x:Key),V.str (sb ls nm x))) h)
def gx:Sp:=λvs H Q _=>∃(v pa ra l:Addr) (ps ls:List Str) (nm:Str) (rs:List (Addr×Row)),vs=[.ref v,.ref l,.str nm]/\bA H v pa ra ps rs/\Good ps (rs.map (·.2))/\H l=some (.tup (ls.map V.str))/\cB ps ls/\aE nm/\nm∉outs ps ls/\ps.length<=60 /\
 ∀(v' Gp Gn:Addr) (ps':List Str) (FC:List (Addr×Row)) (H':Hp),af H H'->H v'=none->bA H' v' Gp Gn ps' FC->FC.map (·.2)=br ls nm (rs.map (·.2))->ps'.Perm (outs ps ls++[nm])->ps'.Pairwise FU->Q (.ref v') H'
abbrev N47:List Str:=["web","lot","name","outside","new","rows"]
theorem jh:aH N47 ["web","lot","name"] (aC (top 47)):=⟨rfl,rfl,rfl,by decide +kernel,rfl,by decide +kernel,by decide +kernel⟩
theorem ub (F:EW K "shrunk" "shrunk" (top 47) f fd) (B:Bl mg) (F1:Fn P w K mg base 4 "need_web" ["thing"] (eK .non)) (F2:Fn P w K mg base 4 "need_lot" ["web","thing"] (fu .non)) (F3:Fn P w K mg base 1 "places_beyond" ["web","found"] (nG K))
  (F4:Fn P w K mg base 2 "need_name_beside" ["places","thing"] (jG K)) (F5:Fn P w K mg base 1 "web_of" ["places","rows"] kc):aD P w K mg base EU 5 f fd ["web","lot","name"] gx:=by
 refine F.ok jh (λvs H Q E h=>?_) (λ_ _ _ _ H vs Q E hr h=>?_)
 ·obtain⟨v,pa,ra,l,ps,ls,nm,rs,rfl,_⟩:=h
  rfl
 ·obtain⟨v,pa,ra,l,ps,ls,nm,rs,rfl,W,G,hl,L,E2,Fo,hz,k⟩:=h
  have E7:aQ 1 _:=hr.mono (by decide);have Ge:aQ 2 _:=hr.mono (by decide)
  refine⟨_,ak (bg (aq F1 hr (aa (pv 0) ae))) (ak (bg (aq F2 hr (aa (pv 0) (aa (pv 1) ae))))
   (ak (aA (i:=3) jh.nd rfl (Or.inl rfl) (aq F3 E7 (aa (pv 0) (aa (pv 1) ae)))) (ak (bg (aq F4 Ge (aa (pv 3) (aa (pv 2) ae))))
   (ak (aA (i:=4) jh.nd rfl (Or.inr rfl) (xM (N:=["place","lot","name"]) (ix:=[none,some 1,some 2]) ⟨rfl,rfl,rfl,by decide⟩ rfl (bC (ax aG (pv 0) am (λ_ _=>rfl))) (λ_ _ _ _=>aF 0 (by decide) rfl rfl) (λ_ _ _ _=>bz)
    (λ_ _ _ _=>pv 0) (λ_ _ _ _=>nh (aB (cO K) (pv 0) (pv 1) (by with_unfolding_all rfl)) (pv 2) (pv 0))))
   (ak (dB (i:=5) (N:=["tie","start","end","new"]) (ix:=[none,none,none,some 4]) jh.nd rfl (Or.inl rfl) ⟨rfl,rfl,rfl,by decide⟩ rfl (bC (ax aG (pv 0) am (λ_ _=>rfl)))
    (λ_ _ _ _=>jU K rfl (n:=3) (bG (aF 0 (by decide) rfl rfl) (bG (aF 1 (by decide) rfl rfl) (bG (aF 2 (by decide) rfl rfl) dq))))
    (λ_ _ _ _=>bL (aB cj (fi (dH hr) (pv 3) (pv 1) (λ_ _=>rfl)) (fi (dH hr) (pv 3) (pv 2) (λ_ _=>rfl)) (aT _)))
    (λ_ _ _ _=>cf (aa (pv 0) (aa (fi (dH hr) (pv 3) (pv 1) (λ_ _=>rfl)) (aa (fi (dH hr) (pv 3) (pv 2) (λ_ _=>rfl)) ae)))))
   (ar (aM (aq F5 E7 (aa (ba dF (bP fC rfl B.list eX (aa (pv 3) ae)) (bw (aa (pv 2) ae))) (aa (pv 5) ae)))))))))),?_⟩
  have GM:ps.Nodup:=bU G.so;refine⟨_,rfl,v,pa,ra,ps,rs,rfl,W,G,λH1 s1=>?_⟩;have W1:=W.same s1;refine⟨_,rfl,_,rfl,v,l,pa,ra,ps,ls,rs,rfl,W1,s1 _ _ hl,L,λH2 s2=>?_⟩;have FN:=s1.trans s2;have W2:=W.same FN;have l2:=FN _ _ hl;refine⟨_,rfl,_,rfl,v,pa,ra,l,ps,ls,rs,rfl,W2,.inr (EG.of l2),by omega,λo H3 s3 ho0 o3=>?_⟩;refine⟨_,rfl,_,rfl,o,outs ps ls,nm,rfl,.inr (EG.of o3),E2,Fo,λH4 s4=>?_⟩;have GB:=FN.trans (s3.trans s4);have W4:=W.same GB;have l4:=GB _ _ hl;have o4:=s4 _ _ o3;refine⟨_,rfl,ay (j:=0) (.inr (EG.of W4.tp)) rfl rfl ⟨pa,rfl,⟨_,EG.of W4.pl⟩,λD hD=>?_⟩⟩;have s5:=ai (o:=.dK []) (af.refl H4) hD;have d5:upd H4 D (.dK []) D=some (.dK (Jm ls nm (ps.take 0))):=ag;generalize upd H4 D (.dK [])=H5 at s5 d5 ⊢;refine ve (K:=K) (xs:=ps.map V.str) (λi σ H6=>af H4 H6/\H6 D=some (.dK (Jm ls nm (ps.take i)))/\∃x,σ=[x,some (.ref l),some (.str nm)]) ⟨s5,d5,_,rfl⟩ (λi σ H6 _ q=>EG.of (q.1 _ _ W4.pl)) ?_ ?_
  ·rintro i y σ H6 hy ⟨s6,d6,x,rfl⟩
   rw [AH] at hy;cases hc:ps[i]? with
   | none=>rw [hc] at hy;cases hy
   | some z =>
    rw [hc] at hy;cases hy;have Gx:i < ps.length:=(AE.mp hc).1;have Zi:z∉ps.take i:=λhm=>by
     obtain⟨j,hj⟩:=BS hm;have QE:j < i:=by
      have:=(AE.mp hj).1;rw [AW] at this;omega
     rw [Ey QE] at hj;obtain⟨l1,g1⟩:=AE.mp hj;obtain⟨l2,g2⟩:=AE.mp hc;exact Bb.mp GM j i l1 l2 QE (g1.trans g2.symm)
    have SJ:putK (Jm ls nm (ps.take i)) (Sum.inr z) (.str (sb ls nm z))=Jm ls nm (ps.take (i + 1)):=by
     rw [jN _ (vF Zi),Bg,hc];simp [Jm]
    refine⟨_,rfl,_,rfl,_,rfl,l,_,rfl,.inr (EG.of (s6 _ _ l4)),rfl,aW ls,_,rfl,?_⟩;rw [aX];show if decide (z∈ls)=true then _ else _;have fin:∀u,u=sb ls nm z->∃H7,ja H6 D (.str z) (.str u) H7/\af H4 H7/\H7 D=some (.dK (Jm ls nm (ps.take (i + 1))))/\∃x,([some (.str z),some (.ref l),some (.str nm)]:St)=[x,some (.ref l),some (.str nm)]:=λu hu=>by
     subst hu;exact⟨_,⟨_,Sum.inr z,d6,rfl,fits (by simp;omega),rfl⟩,af.upd0 s6 hD,by rw [ag,SJ],_,rfl⟩
    by_cases c:z∈ls
    ·rw [decide_eq_true c]
     exact bK ⟨_,rfl,fin nm (by unfold sb;rw [if_pos c])⟩
    ·rw [decide_eq_false c]
     exact aN ⟨_,rfl,fin z (by unfold sb;rw [if_neg c])⟩
  rintro σ H6 ⟨s6,d6,x,rfl⟩;rw [take_all ps (by simp)] at d6;have HL:=GB.trans s6;have W6:=W.same HL;have o6:=s6 _ _ o4;have Hr:rs.length<=60:=by have:=G.rz;simpa using this
  refine⟨_,rfl,ay (j:=1) (.inr (EG.of W6.tp)) rfl rfl ⟨ra,rfl,⟨_,EG.of W6.rl⟩,?_⟩⟩;refine gE (K:=K) (a:=ra) (xs:=aj rs) (fits (by simp;omega)) (λi ys σ H7=>(∃rr:List (Addr×Row),ys=aj rr/\rr.map (·.2)=br ls nm ((rs.map (·.2)).take i)/\∀r∈rr,b7 H7 r.1 r.2)/\af H6 H7/\∃x1 x2 x3,σ=[x1,x2,x3,some (.ref D)])
   ⟨⟨[],rfl,rfl,by simp⟩,af.refl _,_,_,_,rfl⟩ (λi ys σ H7 hi q=>?_) ?_ ?_
  ·obtain⟨⟨rr,rfl,e,_⟩,s7,_⟩:=q
   have:=congrArg List.length e;rw [Av] at this;refine⟨?_,EG.of (s7 _ _ W6.rl)⟩;show (rr.map _).length<=i;rw [Av,this];unfold br;refine AV (AL _ _) ?_;rw [Av,AW];omega
  ·rintro i y ys σ H7 hy ⟨⟨rr,rfl,e,FE⟩,s7,x1,x2,x3,rfl⟩
   obtain⟨r,FS,rfl⟩:=bY hy;have GO:=AB FS;have ER:=s7 _ _ (W6.rows r GO);obtain⟨_,g2,g3,g4⟩:=G.rn r.2 (AC GO);have Hs:(rs.map (·.2))[i]?=some r.2:=by rw [AH,FS];rfl
   have d7:=s7 _ _ d6;have ga:b8 H7 D (.str r.2.2.1) (some (.str (sb ls nm r.2.2.1))):=by rw [<- mL GM g2];exact b8.k (k:=Sum.inr r.2.2.1) d7
   have gb:b8 H7 D (.str r.2.2.2) (some (.str (sb ls nm r.2.2.2))):=by rw [<- mL GM g3];exact b8.k (k:=Sum.inr r.2.2.2) d7
   refine⟨r.1,_,rfl,EG.of ER,rfl,_,_,rfl,_,_,rfl,_,_,rfl,rfl,?_⟩;refine⟨_,rfl,_,rfl,D,_,rfl,ga,_,rfl,_,rfl,D,_,rfl,gb,rfl,_,rfl,?_⟩;have en:(!decide (V.str (sb ls nm r.2.2.1)=V.str (sb ls nm r.2.2.2)))=G4 (shr ls nm r.2):=by unfold G4 shr;simp
   rw [en];refine aU (λc=>?_) (λc=>?_)
   ·refine⟨_,rfl,_,rfl,_,rfl,D,_,rfl,ga,_,rfl,_,rfl,D,_,rfl,gb,by show 3<=sizeLine;decide,λn hn=>?_⟩
    have s8:=ai (o:=.tup [.str r.2.1,.str (sb ls nm r.2.2.1),.str (sb ls nm r.2.2.2)]) (af.refl H7) hn;refine⟨⟨rr++[(n,shr ls nm r.2)],by simp [aj],?_,λq hq=>?_⟩,s7.trans s8,_,_,_,rfl⟩
    ·rw [AU,e,iu Hs,c];rfl
    ·rcases AO.mp hq with z | z
     ·exact s8 _ _ (FE q z)
     ·have e':q=(n,shr ls nm r.2):=by simpa using z
      subst e';exact ag
   ·refine⟨⟨rr,rfl,?_,FE⟩,s7,_,_,_,rfl⟩
    rw [e,iu Hs];simp only [BA] at c;rw [c];simp
  rintro ys σ H7 ⟨⟨rr,rfl,e,FE⟩,s7,x1,x2,x3,rfl⟩ rl FV;rw [show (aj rs).length=(rs.map (·.2)).length by simp,B6] at e;have s8:=ai (o:=.lst (aj rr)) (af.refl H7) FV;have r8:upd H7 rl (.lst (aj rr)) rl=some (.lst (aj rr)):=ag;generalize upd H7 rl (.lst (aj rr))=H8 at s8 r8 ⊢;have IM:=HL.trans (s7.trans s8);have o8:=s8 _ _ (s7 _ _ o6);refine⟨_,rfl,o,_,rfl,.inr (EG.of o8),λl9 KD=>?_⟩;have s9:=ai (o:=.lst ((outs ps ls).map V.str)) (af.refl H8) KD;have a9:upd H8 l9 (.lst ((outs ps ls).map V.str)) l9=some (.lst ((outs ps ls).map V.str)):=ag;generalize upd H8 l9 (.lst ((outs ps ls).map V.str))=H9 at s9 a9 ⊢;refine⟨_,rfl,by show 1<=sizeLine;decide,λm9 MS=>?_⟩;have E3:=ai (o:=.lst [.str nm]) (af.refl H9) MS;have IJ:upd H9 m9 (.lst [.str nm]) m9=some (.lst [.str nm]):=ag;generalize upd H9 m9 (.lst [.str nm])=E5 at E3 IJ ⊢;have IR:(outs ps ls).length<=60:=AV (AL _ _) hz;refine⟨l9,m9,_,_,rfl,rfl,E3 _ _ a9,IJ,BH (fits (by simp;omega)),λp9 Kw=>?_⟩;have Fy:=ai (o:=.lst ((outs ps ls).map V.str++[.str nm])) (af.refl E5) Kw;have II:upd E5 p9 (.lst ((outs ps ls).map V.str++[.str nm])) p9=some (.lst ((outs ps ls++[nm]).map V.str)):=by rw [ag];simp
  generalize upd E5 p9 (.lst ((outs ps ls).map V.str++[.str nm]))=FI at Fy II ⊢;have Kf:=s9.trans (E3.trans Fy);refine⟨_,rfl,p9,rl,outs ps ls++[nm],rr,rfl,II,Kf _ _ r8,λr hr=>Kf _ _ (s8 _ _ (FE r hr)),by simp;omega,fe (lC GM) Fo,λv' Gp Gn ps' H' s' HY E8 Ks W'=>?_⟩;exact k v' Gp Gn ps' rr H' (IM.trans (Kf.trans s')) ((IM.trans Kf).free HY) W' e E8 Ks
def gz:Sp:=λvs H Q _=>∃(v pa ra l:Addr) (ps ls:List Str) (nm:Str) (rs:List (Addr×Row)),vs=[.ref v,.ref l,.str nm]/\bA H v pa ra ps rs/\Good ps (rs.map (·.2))/\H l=some (.tup (ls.map V.str))/\cB ps ls/\aE nm/\nm∉ls/\ls.length<=60 /\
 ∀(v' Gp Gn:Addr) (ps':List Str) (FC:List (Addr×Row)) (H':Hp),af H H'->H v'=none->bA H' v' Gp Gn ps' FC->FC.map (·.2)=bo ls nm (rs.map (·.2))->ps'.Perm (ls++[nm])->ps'.Pairwise FU->Q (.ref v') H'
abbrev N48:List Str:=["web","lot","name","rows"]
theorem qq:aH N48 ["web","lot","name"] (aC (top 48)):=⟨rfl,rfl,rfl,by decide +kernel,rfl,by decide +kernel,by decide +kernel⟩
theorem tZ (F:EW K "within" "within" (top 48) f fd) (B:Bl mg) (F1:Fn P w K mg base 4 "need_web" ["thing"] (eK .non)) (F2:Fn P w K mg base 4 "need_lot" ["web","thing"] (fu .non))
  (F4:Fn P w K mg base 2 "need_name_beside" ["places","thing"] (jG K)) (F5:Fn P w K mg base 1 "web_of" ["places","rows"] kc):aD P w K mg base EU 5 f fd ["web","lot","name"] gz:=by
 refine F.ok qq (λvs H Q E h=>?_) (λ_ _ _ _ H vs Q E hr h=>?_)
 ·obtain⟨v,pa,ra,l,ps,ls,nm,rs,rfl,_⟩:=h
  rfl
 ·obtain⟨v,pa,ra,l,ps,ls,nm,rs,rfl,W,G,hl,L,E2,Fo,hz,k⟩:=h
  have E7:aQ 1 _:=hr.mono (by decide);have Ge:aQ 2 _:=hr.mono (by decide)
  refine⟨_,ak (bg (aq F1 hr (aa (pv 0) ae))) (ak (bg (aq F2 hr (aa (pv 0) (aa (pv 1) ae))))
   (ak (bg (aq F4 Ge (aa (pv 1) (aa (pv 2) ae))))
   (ak (dB (i:=3) (N:=["tie","start","end","lot","name"]) (ix:=[none,none,none,some 1,some 2]) qq.nd rfl (Or.inl rfl) ⟨rfl,rfl,rfl,by decide⟩ rfl (bC (ax aG (pv 0) am (λ_ _=>rfl)))
    (λ_ _ _ _=>jU K rfl (n:=3) (bG (aF 0 (by decide) rfl rfl) (bG (aF 1 (by decide) rfl rfl) (bG (aF 2 (by decide) rfl rfl) dq))))
    (λ_ _ _ _=>bL (aB (cO K) (pv 2) (pv 3) (by with_unfolding_all rfl)))
    (λ_ _ _ _=>cf (aa (pv 0) (aa (nh (aB (cO K) (pv 1) (pv 3) (by with_unfolding_all rfl)) (pv 1) (pv 4)) (aa (pv 2) ae)))))
   (ar (aM (aq F5 E7 (aa (ba dF (bP fC rfl B.list eX (aa (pv 1) ae)) (bw (aa (pv 2) ae))) (aa (pv 3) ae)))))))),?_⟩
  refine⟨_,rfl,v,pa,ra,ps,rs,rfl,W,G,λH1 s1=>?_⟩;have W1:=W.same s1;refine⟨_,rfl,_,rfl,v,l,pa,ra,ps,ls,rs,rfl,W1,s1 _ _ hl,L,λH2 s2=>?_⟩;have FN:=s1.trans s2;refine⟨_,rfl,_,rfl,l,ls,nm,rfl,.inr (EG.of (FN _ _ hl)),E2,Fo,λH6 XI=>?_⟩;have HL:=FN.trans XI;have W6:=W.same HL;have l6:=HL _ _ hl;have Hr:rs.length<=60:=by have:=G.rz;simpa using this
  refine⟨_,rfl,ay (j:=1) (.inr (EG.of W6.tp)) rfl rfl ⟨ra,rfl,⟨_,EG.of W6.rl⟩,?_⟩⟩;refine gE (K:=K) (a:=ra) (xs:=aj rs) (fits (by simp;omega)) (λi ys σ H7=>(∃rr:List (Addr×Row),ys=aj rr/\rr.map (·.2)=bo ls nm ((rs.map (·.2)).take i)/\∀r∈rr,b7 H7 r.1 r.2)/\af H6 H7/\∃x1 x2 x3,σ=[x1,x2,x3,some (.ref l),some (.str nm)])
   ⟨⟨[],rfl,rfl,by simp⟩,af.refl _,_,_,_,rfl⟩ (λi ys σ H7 hi q=>?_) ?_ ?_
  ·obtain⟨⟨rr,rfl,e,_⟩,s7,_⟩:=q
   have:=congrArg List.length e;rw [Av] at this;refine⟨?_,EG.of (s7 _ _ W6.rl)⟩;show (rr.map _).length<=i;rw [Av,this];unfold bo;rw [Av];refine AV (AL _ _) ?_;rw [AW];omega
  ·rintro i y ys σ H7 hy ⟨⟨rr,rfl,e,FE⟩,s7,x1,x2,x3,rfl⟩
   obtain⟨r,FS,rfl⟩:=bY hy;have GO:=AB FS;have ER:=s7 _ _ (W6.rows r GO);have Hs:(rs.map (·.2))[i]?=some r.2:=by rw [AH,FS];rfl
   have l7:=s7 _ _ l6;refine⟨r.1,_,rfl,EG.of ER,rfl,_,_,rfl,_,_,rfl,_,_,rfl,rfl,?_⟩;refine⟨_,rfl,_,rfl,l,_,rfl,.inr (EG.of l7),rfl,aW ls,_,rfl,?_⟩;rw [aX];show if decide (r.2.2.2∈ls)=true then _ else _;refine aU (λc=>?_) (λc=>?_)
   ·refine⟨_,rfl,_,rfl,_,rfl,l,_,rfl,.inr (EG.of l7),rfl,aW ls,_,rfl,?_⟩
    rw [aX];show if decide (r.2.2.1∈ls)=true then _ else _;have fin:∀(u:Str) (n:Addr),H7 n=none->GT ls nm r.2=(r.2.1,u,r.2.2.2)->(∃Ri:List (Addr×Row),aj rr++[V.ref n]=aj Ri/\Ri.map (·.2)=bo ls nm ((rs.map (·.2)).take (i + 1))/\∀r'∈Ri,b7 (upd H7 n (.tup [.str r.2.1,.str u,.str r.2.2.2])) r'.1 r'.2)/\af H6 (upd H7 n (.tup [.str r.2.1,.str u,.str r.2.2.2])):=λu n hn hw=>by
     have s8:=ai (o:=.tup [.str r.2.1,.str u,.str r.2.2.2]) (af.refl H7) hn;refine⟨⟨rr++[(n,(r.2.1,u,r.2.2.2))],by simp [aj],?_,λq hq=>?_⟩,s7.trans s8⟩
     ·rw [AU,e,iq Hs,c,hw];rfl
     ·rcases AO.mp hq with z | z
      ·exact s8 _ _ (FE q z)
      ·have e':q=(n,(r.2.1,u,r.2.2.2)):=by simpa using z
       subst e';exact ag
    by_cases c2:r.2.2.1∈ls
    ·rw [decide_eq_true c2]
     refine bK ⟨_,rfl,_,rfl,by show 3<=sizeLine;decide,λn hn=>?_⟩;obtain⟨f1,f2⟩:=fin r.2.2.1 n hn (by unfold GT;rw [if_pos c2]);exact⟨f1,f2,_,_,_,rfl⟩
    ·rw [decide_eq_false c2]
     refine aN ⟨_,rfl,_,rfl,by show 3<=sizeLine;decide,λn hn=>?_⟩;obtain⟨f1,f2⟩:=fin nm n hn (by unfold GT;rw [if_neg c2]);exact⟨f1,f2,_,_,_,rfl⟩
   ·refine⟨⟨rr,rfl,?_,FE⟩,s7,_,_,_,rfl⟩
    rw [e,iq Hs];simp only [BA] at c;rw [c];simp
  rintro ys σ H7 ⟨⟨rr,rfl,e,FE⟩,s7,x1,x2,x3,rfl⟩ rl FV;rw [show (aj rs).length=(rs.map (·.2)).length by simp,B6] at e;have s8:=ai (o:=.lst (aj rr)) (af.refl H7) FV;have r8:upd H7 rl (.lst (aj rr)) rl=some (.lst (aj rr)):=ag;generalize upd H7 rl (.lst (aj rr))=H8 at s8 r8 ⊢;have IM:=HL.trans (s7.trans s8);have l8:=IM _ _ hl;refine⟨_,rfl,l,_,rfl,.inr (EG.of l8),λl9 KD=>?_⟩;have s9:=ai (o:=.lst (ls.map V.str)) (af.refl H8) KD;have a9:upd H8 l9 (.lst (ls.map V.str)) l9=some (.lst (ls.map V.str)):=ag;generalize upd H8 l9 (.lst (ls.map V.str))=H9 at s9 a9 ⊢;refine⟨_,rfl,by show 1<=sizeLine;decide,λm9 MS=>?_⟩;have E3:=ai (o:=.lst [.str nm]) (af.refl H9) MS;have IJ:upd H9 m9 (.lst [.str nm]) m9=some (.lst [.str nm]):=ag;generalize upd H9 m9 (.lst [.str nm])=E5 at E3 IJ ⊢;refine⟨l9,m9,_,_,rfl,rfl,E3 _ _ a9,IJ,BH (fits (by simp;omega)),λp9 Kw=>?_⟩;have Fy:=ai (o:=.lst (ls.map V.str++[.str nm])) (af.refl E5) Kw;have II:upd E5 p9 (.lst (ls.map V.str++[.str nm])) p9=some (.lst ((ls++[nm]).map V.str)):=by rw [ag];simp
  generalize upd E5 p9 (.lst (ls.map V.str++[.str nm]))=FI at Fy II ⊢;have Kf:=s9.trans (E3.trans Fy);refine⟨_,rfl,p9,rl,ls++[nm],rr,rfl,II,Kf _ _ r8,λr hr=>Kf _ _ (s8 _ _ (FE r hr)),by simp;omega,fe (bU L.so) Fo,λv' Gp Gn ps' H' s' HY E8 Ks W'=>?_⟩;exact k v' Gp Gn ps' rr H' (IM.trans (Kf.trans s')) ((IM.trans Kf).free HY) W' e E8 Ks
theorem dP {α β:Type}{f:α->β}{R:List α} (hn:(R.map f).Nodup):∀{r r':α},r∈R->r'∈R->f r=f r'->r=r':=by
 induction R with
 | nil=>intro r r' h;cases h
 | cons x t ih =>
  rw [Bj,Bc] at hn;intro r r' h h' e
  rcases AI.mp h with h1 | h1 <;> rcases AI.mp h' with h2 | h2
  ·rw [h1,h2]
  ·rw [h1] at e;exact absurd (e ▸ AC (f:=f) h2) hn.1
  ·rw [h2] at e;exact absurd (e ▸ AC (f:=f) h1) hn.1
  ·exact ih hn.2 h1 h2 e
theorem Tree.of_walk {root:Str}{ps:List Str}{R:List Row} (nd:(root::R.map (·.2.2)).Nodup) (all:∀x∈ps,x∈root::R.map (·.2.2)) (hw:∀r∈R,∃n,Walk R root n r.2.2):Tree root ps R:=by
 refine⟨nd,all,?_⟩;have Yi:=(Bc.mp nd).2;have SW:=(Bc.mp nd).1;have key:∀x,∃n,(∃m,bx R root m x)->bx R root n x:=λx=>by
  by_cases c:∃m,bx R root m x
  ·obtain⟨m,hm⟩:=c
   exact⟨m,λ_=>hm⟩
  ·exact⟨0,λz=>absurd z c⟩
 obtain⟨d,hd⟩:=Classical.axiomOfChoice key;refine⟨d,(hd root ⟨0,bx.zero⟩).uniq bx.zero,λr hr=>?_⟩;obtain⟨n,hn⟩:=hw r hr;obtain⟨m,_,hm⟩:=hn.dist;cases m with
 | zero=>exact absurd (hm.1.z ▸ AC (f:=λz:Row=>z.2.2) hr) SW
 | succ k =>
  obtain⟨r',EV,e,hk⟩:=hm.pred;have:=dP (f:=λz:Row=>z.2.2) Yi EV hr e;subst this;rw [(hd _ ⟨_,hm⟩).uniq hm,(hd _ ⟨_,hk⟩).uniq hk]
theorem Tree.walk {root:Str}{ps:List Str}{R:List Row} (t:Tree root ps R) (st:∀r∈R,r.2.1∈ps):∀x∈ps,∃n,Walk R root n x:=by
 obtain⟨d,d0,hd⟩:=t.rk;have go:∀(k:Nat) (x:Str),d x<=k->x∈ps->∃n,Walk R root n x:=by
  intro k
  induction k with
  | zero =>
   intro x hx hp
   rcases AI.mp (t.all x hp) with rfl | h
   ·exact⟨0,.nil⟩
   ·obtain⟨r,hr,rfl⟩:=AG.mp h
    have:=hd r hr;omega
  | succ k ih =>
   intro x hx hp
   rcases AI.mp (t.all x hp) with rfl | h
   ·exact⟨0,.nil⟩
   ·obtain⟨r,hr,rfl⟩:=AG.mp h
    have:=hd r hr;obtain⟨n,hn⟩:=ih r.2.1 (by omega) (st r hr);exact⟨n + 1,.snoc hn hr⟩
 exact λx hx=>go (d x) x (AF _) hx
def bp (R:List Row) (ss:List Str):List Row:=R.filter λr=>decide (r.1∈ss)
theorem b9 {R:List Row}{ss:List Str}{r:Row}:r∈bp R ss ↔ r∈R/\r.1∈ss:=by
 unfold bp;rw [AM,decide_eq_true_iff]
structure eJ (root:Str) (ps:List Str) (R:List Row) (ss:List Str):Prop where
 so:ss.Pairwise FU
 nm:∀x∈ss,x∈R.map (·.1)
 tr:Tree root ps (bp R ss)
theorem tw (rs:List (Addr×Row)) (ss:List Str):(bj rs ss).map (·.2)=bp (rs.map (·.2)) ss:=by
 unfold bj bp;rw [Cm];rfl
theorem eJ.of {root:Str}{ps:List Str}{rs:List (Addr×Row)}{ss:List Str} (t:eJ root ps (rs.map (·.2)) ss):eW root ps rs ss :=
 ⟨t.so,λx hx=>by have:=t.nm x hx;rw [Bf] at this;exact this,by rw [tw];exact t.tr⟩
structure ce (ps:List Str) (R:List Row):Prop where
 st:∀r∈R,r.2.1∈ps/\r.2.2∈ps/\r.2.1≠r.2.2
 nd:(R.map (·.1)).Nodup
theorem Good.rowsOk {ps:List Str}{R:List Row} (G:Good ps R):ce ps R:=⟨λr hr=>(G.rn r hr).2,bU G.rso⟩
def bq (ls:List Str) (r:Row):Bool:=decide (r.2.2∈ls) && !decide (r.2.1∈ls)
theorem cL {ls:List Str}{r:Row}:bq ls r=true ↔ r.2.2∈ls/\r.2.1∉ls:=by
 unfold bq;simp
theorem cP {ls:List Str}{nm x:Str} (h:x∈ls):sb ls nm x=nm:=if_pos h
theorem cg {ls:List Str}{nm x:Str} (h:x∉ls):sb ls nm x=x:=if_neg h
theorem gN {ls:List Str}{nm:Str}{r:Row}:G4 (shr ls nm r)=true ↔ sb ls nm r.2.1≠sb ls nm r.2.2:=by
 show (!decide (sb ls nm r.2.1=sb ls nm r.2.2))=true ↔ _;rw [Du,decide_eq_false_iff_not]
theorem dn {ls:List Str}{nm:Str}{R:List Row}{q:Row}:q∈br ls nm R ↔ ∃r∈R,q=shr ls nm r/\sb ls nm r.2.1≠sb ls nm r.2.2:=by
 unfold br;rw [AM];constructor
 ·rintro⟨h,hn⟩
  obtain⟨r,hr,rfl⟩:=AG.mp h;exact⟨r,hr,rfl,gN.mp hn⟩
 ·rintro⟨r,hr,rfl,hn⟩
  refine⟨AC hr,?_⟩;unfold G4;show (!decide (sb ls nm r.2.1=sb ls nm r.2.2))=true;rw [decide_eq_false hn];rfl
theorem dm {ls:List Str}{nm:Str}{R:List Row}{q:Row}:q∈bo ls nm R ↔ ∃r∈R,r.2.2∈ls/\q=GT ls nm r:=by
 unfold bo;constructor
 ·intro h
  obtain⟨r,hr,rfl⟩:=AG.mp h;obtain⟨h1,h2⟩:=AM.mp hr;exact⟨r,h1,of_decide_eq_true h2,rfl⟩
 ·rintro⟨r,hr,h,rfl⟩
  exact AC (AM.mpr ⟨hr,decide_eq_true h⟩)
theorem stays {ps ls:List Str}{nm:Str}{R:List Row} (ok:ce ps R) (E2:nm∉outs ps ls) {r:Row} (hr:r∈R):sb ls nm r.2.1≠sb ls nm r.2.2 ↔ ¬ (r.2.1∈ls/\r.2.2∈ls):=by
 obtain⟨h1,h2,h3⟩:=ok.st r hr;have o:∀x,x∈ps->x∉ls->x≠nm:=λx hx hl e=>E2 (bF.mpr ⟨e ▸ hx,e ▸ hl⟩)
 by_cases a:r.2.1∈ls <;> by_cases b:r.2.2∈ls
 ·rw [cP a,cP b];simp [a,b]
 ·rw [cP a,cg b]
  exact⟨λ_ z=>b z.2,λ_ z=>o _ h2 b z.symm⟩
 ·rw [cg a,cP b]
  exact⟨λ_ z=>a z.1,λ_ z=>o _ h1 a z⟩
 ·rw [cg a,cg b]
  exact⟨λ_ z=>a z.1,λ_=>h3⟩
def e9 (ls:List Str) (nm:Str) (R:List Row) (ss:List Str):List Str:=ss.filter λx=>decide (x∈(br ls nm R).map (·.1))
def Lr (ls:List Str) (nm:Str) (R:List Row) (ss:List Str):List Str:=ss.filter λx=>decide (x∈(bo ls nm R).map (·.1))
theorem fB {α:Type}{p q:α->Bool}:∀{l:List α},(∀x∈l,p x=q x)->l.filter p=l.filter q
 | [],_=>rfl
 | x::t,h=>by
  have ih:=fB (l:=t) λy hy=>h y (AN _ hy);rw [CY,CY,h x AJ,ih]
theorem uU {ls:List Str}{nm:Str}{R:List Row}{ss:List Str}:bp (br ls nm R) (e9 ls nm R ss)=br ls nm (bp R ss):=by
 have e1:bp (br ls nm R) (e9 ls nm R ss)=bp (br ls nm R) ss:=by
  refine fB λr hr=>decide_eq_decide.mpr ?_;unfold e9;rw [AM,decide_eq_true_iff];exact⟨λh=>h.1,λh=>⟨h,AC hr⟩⟩
 rw [e1];unfold bp br;rw [CN,Cm,Cm,CN]
 congr 1
 refine fB λr _=>?_;show (decide ((shr ls nm r).1∈ss) && G4 (shr ls nm r))=(G4 (shr ls nm r) && decide (r.1∈ss));rw [Ei];rfl
theorem tL {ls:List Str}{nm:Str}{R:List Row}{ss:List Str}:bp (bo ls nm R) (Lr ls nm R ss)=bo ls nm (bp R ss):=by
 have e1:bp (bo ls nm R) (Lr ls nm R ss)=bp (bo ls nm R) ss:=by
  refine fB λr hr=>decide_eq_decide.mpr ?_;unfold Lr;rw [AM,decide_eq_true_iff];exact⟨λh=>h.1,λh=>⟨h,AC hr⟩⟩
 rw [e1];unfold bp bo;rw [Cm,CN,CN]
 congr 1
 refine fB λr _=>?_;show (decide ((GT ls nm r).1∈ss) && decide (r.2.2∈ls))=(decide (r.2.2∈ls) && decide (r.1∈ss));rw [Ei];rfl
section
variable {root:Str}{ps ls:List Str}{A:List Row}
theorem vG {nm:Str}{B:List Row} (hB:∀r∈A,sb ls nm r.2.1=sb ls nm r.2.2\/shr ls nm r∈B) (hr:root∉ls):∀{n:Nat}{x:Str},Walk A root n x->∃m,Walk B root m (sb ls nm x):=by
 intro n x h
 induction h with
 | nil=>rw [cg hr];exact⟨0,.nil⟩
 | @snoc n r h hm ih =>
  obtain⟨m,hw⟩:=ih
  rcases hB r hm with e | e
  ·rw [<- e];exact⟨m,hw⟩
  ·exact⟨m + 1,Walk.snoc (r:=shr ls nm r) hw e⟩
theorem vH {nm:Str} (ok:ce ps A) (t:Tree root ps A) (EO:root∈ps) (hr:root∉ls) (E2:nm∉outs ps ls) {e:Row} (he:e∈A) (EY:bq ls e=true) (OQ:∀r∈A,bq ls r=true->r=e) {ps':List Str} (hp:∀x∈ps',x∈outs ps ls\/x=nm):Tree root ps' (br ls nm A):=by
 have nd:=(Bc.mp t.nd).2;have SW:=(Bc.mp t.nd).1;have rn:root≠nm:=λz=>E2 (bF.mpr ⟨z ▸ EO,z ▸ hr⟩);have mem:∀{r:Row},r∈A->(shr ls nm r∈br ls nm A ↔ ¬ (r.2.1∈ls/\r.2.2∈ls))\/True:=λ_=>.inr trivial;have HQ:∀r∈A,¬ (r.2.1∈ls/\r.2.2∈ls)->shr ls nm r∈br ls nm A:=λr Ht h=>dn.mpr ⟨r,Ht,rfl,(stays ok E2 Ht).mpr h⟩;obtain⟨TN,LL⟩:=cL.mp EY;refine Tree.of_walk ?_ (λx hx=>?_) (λq hq=>?_)
 ·rw [Bc]
  constructor
  ·intro h
   obtain⟨q,hq,e1⟩:=AG.mp h;obtain⟨r,Ht,rfl,EZ⟩:=dn.mp hq;have Nc:sb ls nm r.2.2=root:=e1
   by_cases c:r.2.2∈ls
   ·rw [cP c] at Nc;exact rn Nc.symm
   ·rw [cg c] at Nc;exact SW (Nc ▸ AC (f:=λz:Row=>z.2.2) Ht)
  ·unfold br List.Nodup
   rw [Ca];have pw:A.Pairwise λa b=>a.2.2≠b.2.2:=by
    have:=nd;unfold List.Nodup at this;rw [Ca] at this;exact this
   have XZ:(A.map (shr ls nm)).Pairwise λa b=>G4 a=true->G4 b=true->a.2.2≠b.2.2:=by
    rw [Ca];refine pw.imp_of_mem λ{a b} ha hb He na nb z=>?_;have z':sb ls nm a.2.2=sb ls nm b.2.2:=z;have Ym:¬ (a.2.1∈ls/\a.2.2∈ls):=(stays ok E2 ha).mp (gN.mp na);have Yk:¬ (b.2.1∈ls/\b.2.2∈ls):=(stays ok E2 hb).mp (gN.mp nb)
    by_cases ca:a.2.2∈ls <;> by_cases cb:b.2.2∈ls
    ·have ea:=OQ a ha (cL.mpr ⟨ca,λq=>Ym ⟨q,ca⟩⟩)
     have eb:=OQ b hb (cL.mpr ⟨cb,λq=>Yk ⟨q,cb⟩⟩);exact He (by rw [ea,eb])
    ·rw [cP ca,cg cb] at z'
     exact E2 (bF.mpr ⟨z' ▸ (ok.st b hb).2.1,z' ▸ cb⟩)
    ·rw [cg ca,cP cb] at z'
     exact E2 (bF.mpr ⟨z' ▸ (ok.st a ha).2.1,z' ▸ ca⟩)
    ·rw [cg ca,cg cb] at z'
     exact He z'
   exact (XZ.filter _).imp_of_mem λ{a b} ha hb h=>h (AM.mp ha).2 (AM.mp hb).2
 ·rcases hp x hx with h | rfl
  ·obtain⟨h1,h2⟩:=bF.mp h
   rcases AI.mp (t.all x h1) with rfl | h3
   ·exact AJ
   ·obtain⟨r,Ht,rfl⟩:=AG.mp h3
    refine AN _ (AG.mpr ⟨_,HQ r Ht λz=>h2 z.2,?_⟩);exact cg h2
  ·refine AN _ (AG.mpr ⟨_,HQ e he λz=>LL z.1,?_⟩)
   exact cP TN
 ·obtain⟨r,Ht,rfl,EZ⟩:=dn.mp hq
  obtain⟨n,hn⟩:=t.walk (λr hr=>(ok.st r hr).1) r.2.2 (ok.st r Ht).2.1
  exact vG (λr' EV=>by
   by_cases c:sb ls nm r'.2.1=sb ls nm r'.2.2
   ·exact .inl c
   ·exact .inr (dn.mpr ⟨r',EV,rfl,c⟩)) hr hn
theorem uL {nm:Str} (ok:ce ps A) (t:Tree root ps A) (hr:root∉ls) (E2:nm∉ls) {ps':List Str} (Fq:∀x∈ls,x∈ps) (hp:∀x∈ps',x∈ls\/x=nm):Tree nm ps' (bo ls nm A):=by
 have nd:=(Bc.mp t.nd).2;have heads:(bo ls nm A).map (·.2.2)=(A.filter λr=>decide (r.2.2∈ls)).map (·.2.2):=by
  unfold bo;rw [Bf];rfl
 refine Tree.of_walk ?_ (λx hx=>?_) (λq hq=>?_)
 ·rw [heads,Bc]
  refine⟨λh=>?_,nd.sublist (Bi.map _)⟩;obtain⟨r,Ht,e⟩:=AG.mp h;have:=of_decide_eq_true (AM.mp Ht).2;exact E2 (e ▸ this)
 ·rcases hp x hx with h | rfl
  ·rw [heads]
   rcases AI.mp (t.all x (Fq x h)) with rfl | h3
   ·exact absurd h hr
   ·obtain⟨r,Ht,rfl⟩:=AG.mp h3
    exact AN _ (AC (AM.mpr ⟨Ht,decide_eq_true h⟩))
  ·exact AJ
 ·obtain⟨r,Ht,hl,rfl⟩:=dm.mp hq
  have go:∀{n:Nat}{x:Str},Walk A root n x->x∈ls->∃m,Walk (bo ls nm A) nm m x:=by
   intro n x h
   induction h with
   | nil=>exact λz=>absurd z hr
   | @snoc n r h hm ih =>
    intro hx
    by_cases c:r.2.1∈ls
    ·obtain⟨m,hw⟩:=ih c
     have e:(GT ls nm r).2.1=r.2.1:=if_pos c;exact⟨m + 1,Walk.snoc (r:=GT ls nm r) (by rw [e];exact hw) (dm.mpr ⟨r,hm,hx,rfl⟩)⟩
    ·have e:(GT ls nm r).2.1=nm:=if_neg c
     exact⟨0 + 1,Walk.snoc (r:=GT ls nm r) (by rw [e];exact .nil) (dm.mpr ⟨r,hm,hx,rfl⟩)⟩
  obtain⟨n,hn⟩:=t.walk (λr hr=>(ok.st r hr).1) r.2.2 (ok.st r Ht).2.1;exact go hn hl
theorem rM (ok:ce ps A) (t:Tree root ps A) (hr:root∉ls) {x:Str} (hx:x∈ls) (hp:x∈ps):∃e∈A,bq ls e=true:=by
 obtain⟨n,hn⟩:=t.walk (λr hr=>(ok.st r hr).1) x hp;have go:∀{n:Nat}{x:Str},Walk A root n x->x∈ls->∃e∈A,bq ls e=true:=by
  intro n x h
  induction h with
  | nil=>exact λz=>absurd z hr
  | @snoc n r h hm ih =>
   intro hx
   by_cases c:r.2.1∈ls
   ·exact ih c
   ·exact⟨r,hm,cL.mpr ⟨hx,c⟩⟩
 exact go hn hx
end
structure FP (root:Str) (ps:List Str) (R:List Row) (tl:List (List Str)):Prop where
 tr:∀ss∈tl,eJ root ps R ss
 nd:tl.flatten.Nodup
theorem ce.sub {ps:List Str}{R:List Row} (ok:ce ps R) (ss:List Str):ce ps (bp R ss) :=
 ⟨λr hr=>ok.st r (b9.mp hr).1,ok.nd.sublist (Bi.map _)⟩
theorem mS {α:Type}{f:α->Nat}:∀{l:List α},(∀x∈l,1<=f x)->l.length<=(l.map f).sum/\((l.map f).sum<=l.length->∀x∈l,f x=1)
 | [],_=>⟨AF _,λ_ x hx=>nomatch hx⟩
 | a::t,h=>by
  obtain⟨i1,i2⟩:=mS (f:=f) (l:=t) λx hx=>h x (AN _ hx);have ha:=h a AJ;rw [Bj,Eh,Bv];refine⟨by omega,λhs x hx=>?_⟩
  rcases AI.mp hx with rfl | hx
  ·omega
  ·exact i2 (by omega) x hx
theorem ij {p:Str->Bool}:∀tl:List (List Str),(tl.map λss=>ss.filter p).flatten=tl.flatten.filter p
 | []=>rfl
 | s::t=>by rw [Bj,BO,BO,Dl,ij t]
theorem mC:∀tl:List (List Str),tl.flatten.length=(tl.map List.length).sum
 | []=>rfl
 | s::t=>by rw [BO,Ba,mC t,Bj,Eh]
theorem nv {tl:List (List Str)}{E:List Str} (nd:tl.flatten.Nodup) (hE:E.Nodup) (hl:E.length=tl.length) (h:∀ss∈tl,∃x∈ss,x∈E) :
  (∀ss∈tl,∀x∈ss,∀y∈ss,x∈E->y∈E->x=y)/\∀x∈E,∃ss∈tl,x∈ss:=by
 have Vi:(tl.flatten.filter λx=>decide (x∈E)).Nodup:=nd.filter _;have le:=cF Vi (b:=E) λx hx=>of_decide_eq_true (AM.mp hx).2;have es:(tl.flatten.filter λx=>decide (x∈E)).length=(tl.map λss=>(ss.filter λx=>decide (x∈E)).length).sum:=by
  rw [<- ij,mC,Bf];rfl
 obtain⟨g1,g2⟩:=mS (f:=λss:List Str=>(ss.filter λx=>decide (x∈E)).length) (l:=tl) λss hs=>by
  obtain⟨x,hx,R7⟩:=h ss hs;exact List.length_pos_of_mem (AM.mpr ⟨hx,decide_eq_true R7⟩)
 have g3:=g2 (by omega);refine⟨λss hs x hx y hy R7 Zl=>?_,λx hx=>?_⟩
 ·have q:=g3 ss hs
  have Fm:x∈ss.filter λx=>decide (x∈E):=AM.mpr ⟨hx,decide_eq_true R7⟩;have VJ:y∈ss.filter λx=>decide (x∈E):=AM.mpr ⟨hy,decide_eq_true Zl⟩;have q':(ss.filter λx=>decide (x∈E)).length=1:=q;obtain⟨z,hz⟩:=List.length_eq_one_iff.mp q';rw [hz] at Fm VJ;rw [Bd.mp Fm,Bd.mp VJ]
 ·have:=yf Vi (λx hx=>of_decide_eq_true (AM.mp hx).2) hE (by omega) x hx
  obtain⟨ss,hs,R1⟩:=DC.mp (AM.mp this).1;exact⟨ss,hs,R1⟩
abbrev bu (ls:List Str) (R:List Row):List Str:=(R.filter (bq ls)).map (·.1)
theorem nT {ps ls:List Str}{R:List Row} (ok:ce ps R):(bu ls R).Nodup:=ok.nd.sublist (Bi.map _)
theorem eC {ls:List Str}{R:List Row}{x:Str}:x∈bu ls R ↔ ∃r∈R,bq ls r=true/\r.1=x:=by
 constructor
 ·intro h
  obtain⟨r,hr,e⟩:=AG.mp h;exact⟨r,(AM.mp hr).1,(AM.mp hr).2,e⟩
 ·rintro⟨r,h1,h2,rfl⟩
  exact AC (AM.mpr ⟨h1,h2⟩)
section
variable {root:Str}{ps ls:List Str}{R:List Row}{tl:List (List Str)}
theorem FP.enter (S:FP root ps R tl) (ok:ce ps R) (hl:cB ps ls) (hr:root∉ls) (hm:(bu ls R).length=tl.length) :
  (∀ss∈tl,∃e∈R,bq ls e=true/\e.1∈ss/\∀r∈R,bq ls r=true->r.1∈ss->r=e)/\∀x∈bu ls R,∃ss∈tl,x∈ss:=by
 have EZ:∃x,x∈ls:=by
  cases e:ls with
  | nil=>exact absurd e hl.ne
  | cons x t=>exact⟨x,AJ⟩
 obtain⟨x,hx⟩:=EZ;have has:∀ss∈tl,∃e∈R,bq ls e=true/\e.1∈ss:=λss hs=>by
  obtain⟨e,he,EY⟩:=rM (ok.sub ss) (S.tr ss hs).tr hr hx (hl.sub x hx);obtain⟨h1,h2⟩:=b9.mp he;exact⟨e,h1,EY,h2⟩
 obtain⟨g1,g2⟩:=nv S.nd (nT (ls:=ls) ok) hm λss hs=>by
  obtain⟨e,he,EY,h⟩:=has ss hs;exact⟨e.1,h,eC.mpr ⟨e,he,EY,rfl⟩⟩
 refine⟨λss hs=>?_,g2⟩;obtain⟨e,he,EY,h⟩:=has ss hs;exact⟨e,he,EY,h,λr E6 OE LB=>dP (f:=λz:Row=>z.1) ok.nd E6 he (g1 ss hs r.1 LB e.1 h (eC.mpr ⟨r,E6,OE,rfl⟩) (eC.mpr ⟨e,he,EY,rfl⟩))⟩
theorem FP.outer (S:FP root ps R tl) (ok:ce ps R) (EO:root∈ps) (hl:cB ps ls) (hr:root∉ls) (hm:(bu ls R).length=tl.length) {nm:Str} (E2:nm∉outs ps ls) {ps':List Str} (hp:∀x∈ps',x∈outs ps ls\/x=nm):FP root ps' (br ls nm R) (tl.map (e9 ls nm R)):=by
 obtain⟨g,_⟩:=S.enter ok hl hr hm;refine⟨λss hs=>?_,?_⟩
 ·obtain⟨s0,Nw,rfl⟩:=AG.mp hs
  obtain⟨e,he,EY,h,Oy⟩:=g s0 Nw;have T:=S.tr s0 Nw;refine⟨T.so.sublist Bi,λx hx=>of_decide_eq_true (AM.mp hx).2,?_⟩;rw [uU];exact vH (ok.sub s0) T.tr EO hr E2 (b9.mpr ⟨he,h⟩) EY (λr Ht Hw=>Oy r (b9.mp Ht).1 Hw (b9.mp Ht).2) hp
 ·unfold e9
  rw [ij];exact S.nd.filter _
theorem FP.inner (S:FP root ps R tl) (ok:ce ps R) (hl:cB ps ls) (hr:root∉ls) {nm:Str} (E2:nm∉ls) {ps':List Str} (hp:∀x∈ps',x∈ls\/x=nm):FP nm ps' (bo ls nm R) (tl.map (Lr ls nm R)):=by
 refine⟨λss hs=>?_,?_⟩
 ·obtain⟨s0,Nw,rfl⟩:=AG.mp hs
  have T:=S.tr s0 Nw;refine⟨T.so.sublist Bi,λx hx=>of_decide_eq_true (AM.mp hx).2,?_⟩;rw [tL];exact uL (ok.sub s0) T.tr hr E2 hl.sub hp
 ·unfold Lr
  rw [ij];exact S.nd.filter _
theorem iZ (ok:ce ps R) {nm:Str} (E2:nm∉outs ps ls) {O:List Str} (hO:∀x∈O,x∈(br ls nm R).map (·.1)) {r:Row} (hr:r∈R) (h:r.1∈O):¬ (r.2.1∈ls/\r.2.2∈ls)/\shr ls nm r∈bp (br ls nm R) O:=by
 obtain⟨q,hq,e⟩:=AG.mp (hO _ h);obtain⟨r0,IA,rfl,EZ⟩:=dn.mp hq;have e0:r0=r:=dP (f:=λz:Row=>z.1) ok.nd IA hr e;subst e0;exact⟨(stays ok E2 hr).mp EZ,b9.mpr ⟨hq,h⟩⟩
theorem j6 (ok:ce ps R) {nm:Str}{I:List Str} (hI:∀x∈I,x∈(bo ls nm R).map (·.1)) {r:Row} (hr:r∈R) (h:r.1∈I):r.2.2∈ls/\GT ls nm r∈bp (bo ls nm R) I:=by
 obtain⟨q,hq,e⟩:=AG.mp (hI _ h);obtain⟨r0,IA,hl,rfl⟩:=dm.mp hq;have e0:r0=r:=dP (f:=λz:Row=>z.1) ok.nd IA hr e;subst e0;exact⟨hl,b9.mpr ⟨hq,h⟩⟩
theorem zD (ok:ce ps R) (EO:root∈ps) (hl:cB ps ls) (hr:root∉ls) {nm:Str} (E2:nm∉ps) {ps' ps'' O I J:List Str} (Gv:∀x,x∈ps' ↔ x∈outs ps ls\/x=nm) (HP:∀x,x∈ps'' ↔ x∈ls\/x=nm)
  (tO:eJ root ps' (br ls nm R) O) (tI:eJ nm ps'' (bo ls nm R) I) {e:Row} (he:e∈R) (EY:bq ls e=true) (M0:e.1∈O) (heI:e.1∈I) (uO:∀r∈R,bq ls r=true->r.1∈O->r=e) (uI:∀r∈R,bq ls r=true->r.1∈I->r=e)
  (hJs:J.Pairwise FU) (hJ:∀x,x∈J ↔ x∈O\/x∈I):eJ root ps R J:=by
 have Fo:nm∉outs ps ls:=λz=>E2 (bF.mp z).1;have JV:nm∉ls:=λz=>E2 (hl.sub nm z);obtain⟨TN,LL⟩:=cL.mp EY;have Mt:∀{r:Row},r∈R->(r.1∈O\/r.1∈I)->r∈bp R J:=λh1 h2=>b9.mpr ⟨h1,(hJ _).mpr h2⟩;have fO:=λ{r:Row} (h1:r∈R) (h2:r.1∈O)=>iZ ok Fo tO.nm h1 h2;have fI:=λ{r:Row} (h1:r∈R) (h2:r.1∈I)=>j6 ok tI.nm h1 h2;have JD:∀{r:Row},r∈R->(r.1∈O\/r.1∈I)->r.2.2∈ls->r.1∈I:=λ{r} h1 h2 h3=>by
  rcases h2 with h | h
  ·have:=uO r h1 (cL.mpr ⟨h3,λz=>(fO h1 h).1 ⟨z,h3⟩⟩) h
   rw [this];exact heI
  ·exact h
 have Hd:∀{r:Row},r∈R->(r.1∈O\/r.1∈I)->r.2.2∉ls->r.1∈O:=λ{r} h1 h2 h3=>h2.resolve_right λh=>h3 (fI h1 h).1;have GD:∀{x:Str},x∈outs ps ls->x=root\/∃r∈R,r.1∈O/\r.2.2=x:=λ{x} hx=>by
  rcases AI.mp (tO.tr.all x ((Gv x).mpr (.inl hx))) with h | h
  ·exact .inl h
  ·obtain⟨q,hq,rfl⟩:=AG.mp h
   obtain⟨FZ,Gf⟩:=b9.mp hq;obtain⟨r,E6,rfl,_⟩:=dn.mp FZ;refine .inr ⟨r,E6,Gf,?_⟩;show r.2.2=sb ls nm r.2.2
   by_cases c:r.2.2∈ls
   ·have Fm:sb ls nm r.2.2∈outs ps ls:=hx
    rw [cP c] at Fm;exact absurd Fm Fo
   ·exact (cg c).symm
 refine⟨hJs,λx hx=>?_,Tree.of_walk ?_ (λx hx=>?_) ?_⟩
 ·rcases (hJ x).mp hx with h | h
  ·obtain⟨q,hq,e1⟩:=AG.mp (tO.nm x h)
   obtain⟨r,E6,rfl,_⟩:=dn.mp hq;have e2:r.1=x:=e1;rw [<- e2];exact AC (f:=λz:Row=>z.1) E6
  ·obtain⟨q,hq,e1⟩:=AG.mp (tI.nm x h)
   obtain⟨r,E6,_,rfl⟩:=dm.mp hq;have e2:r.1=x:=e1;rw [<- e2];exact AC (f:=λz:Row=>z.1) E6
 ·rw [Bc]
  constructor
  ·intro h
   obtain⟨r,SF,e1⟩:=AG.mp h;obtain⟨h1,h2⟩:=b9.mp SF;have OO:r.2.2∉ls:=by rw [e1];exact hr
   have Ia:=Hd h1 ((hJ _).mp h2) OO;have:=AC (f:=λz:Row=>z.2.2) (fO h1 Ia).2;have e2:(shr ls nm r).2.2=root:=by
    show sb ls nm r.2.2=root;rw [cg OO];exact e1
   rw [e2] at this;exact (Bc.mp tO.tr.nd).1 this
  ·have pw:(bp R J).Pairwise λa b=>a.1≠b.1:=by
    have:=(ok.sub J).nd;unfold List.Nodup at this;rw [Ca] at this;exact this
   unfold List.Nodup;rw [Ca];refine pw.imp_of_mem λ{a b} ha hb He z=>?_;obtain⟨a1,a2⟩:=b9.mp ha;obtain⟨b1,b2⟩:=b9.mp hb;have a3:=(hJ _).mp a2;have b3:=(hJ _).mp b2
   by_cases c:a.2.2∈ls
   ·have aI:=JD a1 a3 c
    have bI:=JD b1 b3 (z ▸ c);have:=dP (f:=λz:Row=>z.2.2) (Bc.mp tI.tr.nd).2 (fI a1 aI).2 (fI b1 bI).2 z;have e3:(GT ls nm a).1=(GT ls nm b).1:=congrArg (λz:Row=>z.1) this;exact He e3
   ·have aO:=Hd a1 a3 c
    have bO:=Hd b1 b3 (z ▸ c);have hz:(shr ls nm a).2.2=(shr ls nm b).2.2:=by
     show sb ls nm a.2.2=sb ls nm b.2.2;rw [z]
    have:=dP (f:=λz:Row=>z.2.2) (Bc.mp tO.tr.nd).2 (fO a1 aO).2 (fO b1 bO).2 hz;have e3:(shr ls nm a).1=(shr ls nm b).1:=congrArg (λz:Row=>z.1) this;exact He e3
 ·by_cases c:x∈ls
  ·rcases AI.mp (tI.tr.all x ((HP x).mpr (.inl c))) with h | h
   ·exact absurd (h ▸ c) JV
   ·obtain⟨q,hq,rfl⟩:=AG.mp h
    obtain⟨FZ,Gf⟩:=b9.mp hq;obtain⟨r,E6,_,rfl⟩:=dm.mp FZ;have hB:r∈bp R J:=Mt E6 (.inr Gf);exact AN _ (AG.mpr ⟨r,hB,rfl⟩)
  ·rcases GD (bF.mpr ⟨hx,c⟩) with rfl | ⟨r,E6,Ia,rfl⟩
   ·exact AJ
   ·exact AN _ (AC (f:=λz:Row=>z.2.2) (Mt E6 (.inl Ia)))
 ·obtain⟨d,d0,hd⟩:=tO.tr.rk
  have dE:d nm=d e.2.1 + 1:=by
   have:=hd _ (fO he M0).2;have e1:(shr ls nm e).2.2=nm:=cP TN;have e2:(shr ls nm e).2.1=e.2.1:=cg LL;rw [e1,e2] at this;exact this
  have dR:∀{r:Row},r∈R->r.1∈O->r.2.2∉ls->d r.2.2=d (sb ls nm r.2.1) + 1:=λ{r} h1 h2 h3=>by
   have:=hd _ (fO h1 h2).2;have e1:(shr ls nm r).2.2=r.2.2:=cg h3;rw [e1] at this;exact this
  have w1:∀(k:Nat) (x:Str),d x<=k->k<=d e.2.1->x∈outs ps ls->∃n,Walk (bp R J) root n x:=by
   intro k
   induction k with
   | zero =>
    intro x hx _ Jn
    rcases GD Jn with rfl | ⟨r,E6,Ia,rfl⟩
    ·exact⟨0,.nil⟩
    ·have:=dR E6 Ia (bF.mp Jn).2
     omega
   | succ k ih =>
    intro x hx hk Jn
    rcases GD Jn with rfl | ⟨r,E6,Ia,rfl⟩
    ·exact⟨0,.nil⟩
    ·have q:=dR E6 Ia (bF.mp Jn).2
     by_cases c:r.2.1∈ls
     ·rw [cP c] at q;omega
     ·rw [cg c] at q
      obtain⟨n,hn⟩:=ih r.2.1 (by omega) (by omega) (bF.mpr ⟨(ok.st r E6).1,c⟩);exact⟨n + 1,.snoc hn (Mt E6 (.inl Ia))⟩
  obtain⟨ns,ws⟩:=w1 _ e.2.1 (AF _) (AF _) (bF.mpr ⟨(ok.st e he).1,LL⟩);have we:∃n,Walk (bp R J) root n e.2.2:=⟨ns + 1,.snoc ws (Mt he (.inl M0))⟩
  have go:∀{n:Nat}{x:Str},Walk (bp (bo ls nm R) I) nm n x->x=nm\/∃n,Walk (bp R J) root n x:=by
   intro n x h
   induction h with
   | nil=>exact .inl rfl
   | @snoc n q h hm ih =>
    obtain⟨FZ,Gf⟩:=b9.mp hm;obtain⟨r,E6,FV,rfl⟩:=dm.mp FZ
    by_cases c:r.2.1∈ls
    ·have e1:(GT ls nm r).2.1=r.2.1:=if_pos c
     rw [e1] at ih
     rcases ih with z | ⟨m,hw⟩
     ·exact absurd (z ▸ c) JV
     ·have hB:r∈bp R J:=Mt E6 (.inr Gf)
      exact .inr ⟨m + 1,Walk.snoc (r:=r) hw hB⟩
    ·have:r=e:=uI r E6 (cL.mpr ⟨FV,c⟩) Gf
     subst this;exact .inr we
  have wl:∀x∈ls,∃n,Walk (bp R J) root n x:=λx hx=>by
   obtain⟨n,hn⟩:=tI.tr.walk (λq hq=>by
    obtain⟨FZ,_⟩:=b9.mp hq;obtain⟨r,E6,_,rfl⟩:=dm.mp FZ;refine (HP _).mpr ?_;show (if r.2.1∈ls then r.2.1 else nm)∈ls\/(if r.2.1∈ls then r.2.1 else nm)=nm
    by_cases c:r.2.1∈ls
    ·rw [if_pos c];exact .inl c
    ·rw [if_neg c];exact .inr rfl) x ((HP x).mpr (.inl hx))
   exact (go hn).resolve_left λz=>JV (z ▸ hx)
  have w4:∀(k:Nat) (x:Str),d x<=k->x∈outs ps ls->∃n,Walk (bp R J) root n x:=by
   intro k
   induction k with
   | zero =>
    intro x hx Jn
    rcases GD Jn with rfl | ⟨r,E6,Ia,rfl⟩
    ·exact⟨0,.nil⟩
    ·have:=dR E6 Ia (bF.mp Jn).2
     omega
   | succ k ih =>
    intro x hx Jn
    rcases GD Jn with rfl | ⟨r,E6,Ia,rfl⟩
    ·exact⟨0,.nil⟩
    ·have q:=dR E6 Ia (bF.mp Jn).2
     by_cases c:r.2.1∈ls
     ·obtain⟨n,hn⟩:=wl _ c
      exact⟨n + 1,.snoc hn (Mt E6 (.inl Ia))⟩
     ·rw [cg c] at q
      obtain⟨n,hn⟩:=ih r.2.1 (by omega) (bF.mpr ⟨(ok.st r E6).1,c⟩);exact⟨n + 1,.snoc hn (Mt E6 (.inl Ia))⟩
  intro r SF;have ZG:=(ok.st r (b9.mp SF).1).2.1
  by_cases c:r.2.2∈ls
  ·exact wl _ c
  ·exact w4 _ _ (AF _) (bF.mpr ⟨ZG,c⟩)
end
def stN (ls:List Str) (R:List Row):List Str:=(R.filter λr=>!(decide (r.2.1∈ls) && decide (r.2.2∈ls))).map (·.1)
def FM (ls:List Str) (R:List Row):List Str:=(R.filter λr=>decide (r.2.2∈ls)).map (·.1)
theorem fG {ps ls:List Str}{nm:Str}{R:List Row} (ok:ce ps R) (E2:nm∉outs ps ls):(br ls nm R).map (·.1)=stN ls R:=by
 unfold br stN;rw [Cm,Bf];have e:R.filter (G4 ∘ shr ls nm)=R.filter λr=>!(decide (r.2.1∈ls) && decide (r.2.2∈ls)):=fB λr hr=>by
  rw [Cb];show G4 (shr ls nm r)=true ↔ _;rw [gN,stays ok E2 hr,Du,Bool.and_eq_false_iff,decide_eq_false_iff_not,decide_eq_false_iff_not]
  by_cases a:r.2.1∈ls <;> by_cases b:r.2.2∈ls <;> simp [a,b]
 rw [e];rfl
theorem fF {ls:List Str}{nm:Str}{R:List Row}:(bo ls nm R).map (·.1)=FM ls R:=by
 unfold bo FM;rw [Bf];rfl
def Apart (gs:List (List Str)):Prop:=gs.Pairwise λa b=>∀x∈a,x∉b
theorem jZ:∀{L:List (List Str)},(∀l∈L,l.Nodup)->Apart L->L.flatten.Nodup
 | [],_,_=>List.Pairwise.nil
 | l::L,h,hA=>by
  obtain⟨h1,h2⟩:=Ct.mp hA;rw [BO,BF];refine⟨h l AJ,jZ (λx hx=>h x (AN _ hx)) h2,λx hx y hy e=>?_⟩;obtain⟨m,hm,G6⟩:=DC.mp hy;exact h1 m hm x hx (e ▸ G6)
theorem gm:∀{L:List (List Str)},L.flatten.Nodup->Apart L
 | [],_=>List.Pairwise.nil
 | l::L,h=>by
  rw [BO,BF] at h;exact Ct.mpr ⟨λm hm x hx Fm=>h.2.2 x hx x (DC.mpr ⟨m,hm,Fm⟩) rfl,gm h.2.1⟩
theorem ll {L:List (List Str)} (h:Apart L):∀{a b:List Str}{x:Str},a∈L->b∈L->x∈a->x∈b->a=b:=by
 induction L with
 | nil=>intro a b x h;cases h
 | cons l L ih =>
  obtain⟨h1,h2⟩:=Ct.mp h;intro a b x ha hb Qy Qx
  rcases AI.mp ha with ea | ha' <;> rcases AI.mp hb with eb | hb'
  ·rw [ea,eb]
  ·rw [ea] at Qy;exact absurd Qx (h1 b hb' x Qy)
  ·rw [eb] at Qx;exact absurd Qy (h1 a ha' x Qx)
  ·exact ih h2 ha' hb' Qy Qx
structure IK (E:List Str) (HW:List (List Str)) (O J:List Str):Prop where
 ex:∃sh I,O.find? (λx=>decide (x∈E))=some sh/\HW.find? (λI=>decide (sh∈I))=some I/\∀x,x∈J ↔ x∈O\/x∈I
 so:J.Pairwise FU
theorem IK.uniq {E:List Str}{HW:List (List Str)}{O J J':List Str} (h:IK E HW O J) (h':IK E HW O J'):J=J':=by
 obtain⟨sh,I,e1,e2,m1⟩:=h.ex;obtain⟨sh',I',Nc,KN,Y3⟩:=h'.ex;rw [e1] at Nc;cases Nc;rw [e2] at KN;cases KN;exact gn h.so h'.so λx=>by rw [m1,Y3]
theorem iR {α:Type}{p:α->Bool}{l:List α}{x:α} (hx:x∈l) (h:p x=true):∃y,l.find? p=some y/\y∈l/\p y=true:=by
 cases e:l.find? p with
 | none=>exact absurd h (Ed.mp e x hx)
 | some y=>exact⟨y,rfl,BU e,DT e⟩
section
variable {root:Str}{ps ls:List Str}{R:List Row}
theorem lJ {x:Str} (h:x∈bu ls R):x∈stN ls R/\x∈FM ls R:=by
 obtain⟨r,hr,EY,rfl⟩:=eC.mp h;obtain⟨h1,h2⟩:=cL.mp EY;refine⟨AC (AM.mpr ⟨hr,?_⟩),AC (AM.mpr ⟨hr,decide_eq_true h1⟩)⟩;rw [decide_eq_false h2];rfl
theorem ue {tl:List (List Str)} (S:FP root ps R tl) (ok:ce ps R) (hl:cB ps ls) (hr:root∉ls) (hm:(bu ls R).length=tl.length) {ss:List Str} (hs:ss∈tl) :
  IK (bu ls R) (tl.map λs=>s.filter λx=>decide (x∈FM ls R)) (ss.filter λx=>decide (x∈stN ls R)) ss:=by
 obtain⟨g,_⟩:=S.enter ok hl hr hm;obtain⟨e,he,EY,TF,Oy⟩:=g ss hs;have NC:e.1∈bu ls R:=eC.mpr ⟨e,he,EY,rfl⟩;obtain⟨GE,HQ⟩:=lJ NC;have T:=S.tr ss hs;obtain⟨sh,e1,m1,p1⟩:=iR (l:=ss.filter λx=>decide (x∈stN ls R)) (p:=λx=>decide (x∈bu ls R)) (AM.mpr ⟨TF,decide_eq_true GE⟩) (decide_eq_true NC);obtain⟨I,e2,m2,p2⟩:=iR (l:=tl.map λs=>s.filter λx=>decide (x∈FM ls R)) (p:=λI=>decide (sh∈I)) (AC (f:=λs:List Str=>s.filter λx=>decide (x∈FM ls R)) hs) (decide_eq_true (AM.mpr ⟨(AM.mp m1).1,decide_eq_true (lJ (of_decide_eq_true p1)).2⟩));refine⟨⟨sh,I,e1,e2,λx=>?_⟩,T.so⟩;obtain⟨s0,Nw,rfl⟩:=AG.mp m2;have Sy:sh∈s0:=(AM.mp (of_decide_eq_true p2)).1;have e0:s0=ss:=ll (gm S.nd) Nw hs Sy (AM.mp m1).1;subst e0;rw [AM,AM,decide_eq_true_iff,decide_eq_true_iff];constructor
 ·intro hx
  obtain⟨r,E6,rfl⟩:=AG.mp (T.nm x hx)
  by_cases c:r.2.2∈ls
  ·exact .inr ⟨hx,AC (AM.mpr ⟨E6,decide_eq_true c⟩)⟩
  ·refine .inl ⟨hx,AC (AM.mpr ⟨E6,?_⟩)⟩
   rw [decide_eq_false c];simp
 ·rintro (h | h)
  ·exact h.1
  ·exact h.1
theorem FP.together (ok:ce ps R) (EO:root∈ps) (hl:cB ps ls) (hr:root∉ls) {nm:Str} (E2:nm∉ps) {ps' ps'':List Str} (Gv:∀x,x∈ps' ↔ x∈outs ps ls\/x=nm) (HP:∀x,x∈ps'' ↔ x∈ls\/x=nm)
  {Ja HW:List (List Str)} (SO:FP root ps' (br ls nm R) Ja) (SI:FP nm ps'' (bo ls nm R) HW) (mO:(bu ls R).length=Ja.length) (mI:(bu ls R).length=HW.length) :
  (∀O∈Ja,∃sh I,O.find? (λx=>decide (x∈bu ls R))=some sh/\HW.find? (λI=>decide (sh∈I))=some I/\(∀x,x∈O->x∈I->x=sh)) /\
  ∀tj:List (List Str),tj.length=Ja.length->(∀(i:Nat) (O J:List Str),Ja[i]?=some O->tj[i]?=some J->IK (bu ls R) HW O J)->FP root ps R tj:=by
 have Fo:nm∉outs ps ls:=λz=>E2 (bF.mp z).1;have JV:nm∉ls:=λz=>E2 (hl.sub nm z);have apO:=gm SO.nd;have apI:=gm SI.nd;have gO:∀O∈Ja,∃e∈R,bq ls e=true/\e.1∈O/\∀r∈R,bq ls r=true->r.1∈O->r=e:=λO hO=>by
  have T:=SO.tr O hO
  rcases AI.mp (T.tr.all nm ((Gv nm).mpr (.inr rfl))) with h | h
  ·exact absurd (h ▸ EO) E2
  ·obtain⟨q,hq,e1⟩:=AG.mp h
   obtain⟨FZ,Gf⟩:=b9.mp hq;obtain⟨r,E6,rfl,EZ⟩:=dn.mp FZ;have FV:r.2.2∈ls:=by
    by_cases c:r.2.2∈ls
    ·exact c
    ·have e2:sb ls nm r.2.2=nm:=e1
     rw [cg c] at e2;exact absurd (e2 ▸ (ok.st r E6).2.1) E2
   have LB:=(stays ok Fo E6).mp EZ;refine⟨r,E6,cL.mpr ⟨FV,λz=>LB ⟨z,FV⟩⟩,Gf,λr' EV Hw hO'=>?_⟩;have h1:=(iZ ok Fo T.nm EV hO').2;have e3:(shr ls nm r').2.2=(shr ls nm r).2.2:=by
    show sb ls nm r'.2.2=sb ls nm r.2.2;rw [cP (cL.mp Hw).1,cP FV]
   have e4:=dP (f:=λz:Row=>z.2.2) (Bc.mp T.tr.nd).2 h1 hq e3;have e5:(shr ls nm r').1=(shr ls nm r).1:=congrArg (λz:Row=>z.1) e4;exact dP (f:=λz:Row=>z.1) ok.nd EV E6 e5
 have EZ:∃x,x∈ls:=by
  cases e:ls with
  | nil=>exact absurd e hl.ne
  | cons x t=>exact⟨x,AJ⟩
 obtain⟨x0,Nv⟩:=EZ;have T6:∀I∈HW,∃e∈R,bq ls e=true/\e.1∈I:=λI hI=>by
  have T:=SI.tr I hI
  obtain⟨n,hn⟩:=T.tr.walk (λq hq=>by
   obtain⟨FZ,_⟩:=b9.mp hq;obtain⟨r,E6,_,rfl⟩:=dm.mp FZ;refine (HP _).mpr ?_;show (if r.2.1∈ls then r.2.1 else nm)∈ls\/(if r.2.1∈ls then r.2.1 else nm)=nm
   by_cases c:r.2.1∈ls
   ·rw [if_pos c];exact .inl c
   ·rw [if_neg c];exact .inr rfl) x0 ((HP x0).mpr (.inl Nv))
  have go:∀{n:Nat}{x:Str},Walk (bp (bo ls nm R) I) nm n x->x∈ls->∃e∈R,bq ls e=true/\e.1∈I:=by
   intro n x h
   induction h with
   | nil=>exact λz=>absurd z JV
   | @snoc n q h hm ih =>
    intro hx;obtain⟨FZ,Gf⟩:=b9.mp hm;obtain⟨r,E6,FV,rfl⟩:=dm.mp FZ
    by_cases c:r.2.1∈ls
    ·have e1:(GT ls nm r).2.1=r.2.1:=if_pos c
     rw [e1] at ih;exact ih c
    ·exact⟨r,E6,cL.mpr ⟨FV,c⟩,Gf⟩
  exact go hn Nv
 obtain⟨uI,cI⟩:=nv SI.nd (nT (ls:=ls) ok) mI λI hI=>by
  obtain⟨e,he,EY,h⟩:=T6 I hI;exact⟨e.1,h,eC.mpr ⟨e,he,EY,rfl⟩⟩
 have KM:∀O∈Ja,∃e∈R,bq ls e=true/\e.1∈O/\(∀r∈R,bq ls r=true->r.1∈O->r=e)/\O.find? (λx=>decide (x∈bu ls R))=some e.1/\∃I∈HW,HW.find? (λI=>decide (e.1∈I))=some I/\e.1∈I/\(∀r∈R,bq ls r=true->r.1∈I->r=e)/\∀x,x∈O->x∈I->x=e.1:=λO hO=>by
  obtain⟨e,he,EY,M0,hu⟩:=gO O hO;have NC:e.1∈bu ls R:=eC.mpr ⟨e,he,EY,rfl⟩;obtain⟨y,f1,f2,f3⟩:=iR (p:=λx=>decide (x∈bu ls R)) M0 (decide_eq_true NC);obtain⟨r,E6,ZH,E7⟩:=eC.mp (of_decide_eq_true f3);have Ge:=hu r E6 ZH (E7 ▸ f2);subst Ge;subst E7;obtain⟨I0,Ug,Ue⟩:=cI _ NC;obtain⟨I,g1,g2,g3⟩:=iR (p:=λI=>decide (r.1∈I)) Ug (decide_eq_true Ue);have WF:r.1∈I:=of_decide_eq_true g3;have Sg:∀r'∈R,bq ls r'=true->r'.1∈I->r'=r:=λr' EV Hw hI'=>dP (f:=λz:Row=>z.1) ok.nd EV he (uI I g2 r'.1 hI' r.1 WF (eC.mpr ⟨r',EV,Hw,rfl⟩) NC);refine⟨r,he,EY,M0,hu,f1,I,g2,g1,WF,Sg,λx Lu R6=>?_⟩;obtain⟨q,hq,e1⟩:=AG.mp ((SO.tr O hO).nm x Lu);obtain⟨rx,MB,rfl,_⟩:=dn.mp hq;have e2:rx.1=x:=e1;subst e2;have h1:=(iZ ok Fo (SO.tr O hO).nm MB Lu).1;have h2:=(j6 ok (SI.tr I g2).nm MB R6).1;rw [hu rx MB (cL.mpr ⟨h2,λz=>h1 ⟨z,h2⟩⟩) Lu]
 refine⟨λO hO=>?_,λtj EJ hj=>?_⟩
 ·obtain⟨e,_,_,_,_,f1,I,_,g1,_,_,hx⟩:=KM O hO
  exact⟨e.1,I,f1,g1,hx⟩
 ·have at':∀(i:Nat) (J:List Str),tj[i]?=some J->∃O,Ja[i]?=some O/\IK (bu ls R) HW O J:=λi J hJ=>by
   have hi:i < Ja.length:=by rw [<- EJ];exact (AE.mp hJ).1
   exact⟨Ja[i],AD hi,hj i _ _ (AD hi) hJ⟩
  have tr:∀J∈tj,eJ root ps R J:=λJ hJ=>by
   obtain⟨i,hi⟩:=BS hJ;obtain⟨O,Po,P⟩:=at' i J hi;have hO:=AB Po;obtain⟨e,he,EY,M0,hu,f1,I,g2,g1,g3,Sg,_⟩:=KM O hO;obtain⟨sh,I',e1,e2,hm⟩:=P.ex;rw [f1] at e1;cases e1;rw [g1] at e2;cases e2;exact zD ok EO hl hr E2 Gv HP (SO.tr O hO) (SI.tr I g2) he EY M0 g3 hu Sg P.so hm
  refine⟨tr,jZ (λJ hJ=>bU (tr J hJ).so) ?_⟩;unfold Apart;rw [Bb];intro i j hi JY FW x Zq Ko;obtain⟨Oi,Po,Pi⟩:=at' i _ (AD hi);obtain⟨Oj,Uc,Pj⟩:=at' j _ (AD JY);have WR:∀y,y∈Oi->y∉Oj:=by
   obtain⟨Tr,IB⟩:=AE.mp Po;obtain⟨Z3,Z2⟩:=AE.mp Uc;have:=Bb.mp apO i j Tr Z3 FW;rw [IB,Z2] at this;exact this
  obtain⟨ei,O8,O4,TM,VQ,f1i,Ii,WI,g1i,g3i,Sf,Zp⟩:=KM Oi (AB Po);obtain⟨ej,hej,Wp,TL,Zw,f1j,Ij,WG,g1j,g3j,Mu,Zo⟩:=KM Oj (AB Uc);have ne:ei≠ej:=λz=>WR ei.1 TM (z ▸ TL);have RM:x∈Oi\/x∈Ii:=by
   obtain⟨sh,I',e1,e2,hm⟩:=Pi.ex;rw [f1i] at e1;cases e1;rw [g1i] at e2;cases e2;exact (hm x).mp Zq
  have RL:x∈Oj\/x∈Ij:=by
   obtain⟨sh,I',e1,e2,hm⟩:=Pj.ex;rw [f1j] at e1;cases e1;rw [g1j] at e2;cases e2;exact (hm x).mp Ko
  have LN:∀{O I:List Str},O∈Ja->I∈HW->x∈O->x∈I->∃r∈R,r.1=x/\bq ls r=true:=λ{O I} hO hI Lu R6=>by
   obtain⟨q,hq,e1⟩:=AG.mp ((SO.tr O hO).nm x Lu);obtain⟨rx,MB,rfl,_⟩:=dn.mp hq;have e2:rx.1=x:=e1;subst e2;have h1:=(iZ ok Fo (SO.tr O hO).nm MB Lu).1;have h2:=(j6 ok (SI.tr I hI).nm MB R6).1;exact⟨rx,MB,rfl,cL.mpr ⟨h2,λz=>h1 ⟨z,h2⟩⟩⟩
  rcases RM with a | a <;> rcases RL with b | b
  ·exact WR x a b
  ·obtain⟨r,E6,rfl,EY⟩:=LN (AB Po) WG a b
   have:=VQ r E6 EY a;have:=Mu r E6 EY b;exact ne (by rw [<- VQ r E6 EY a,<- Mu r E6 EY b])
  ·obtain⟨r,E6,rfl,EY⟩:=LN (AB Uc) WI b a
   exact ne (by rw [<- Zw r E6 EY b,<- Sf r E6 EY a])
  ·have e1:=ll apI WI WG a b
   subst e1;exact ne (Mu ei O8 O4 g3i)
end
end K93
namespace L2
open PySem PySem.Spec PyProof.Rows
abbrev G5 (elt tg iter FH iter2:Expr) (ifs EX:List Expr) (scope:Scope) (pos:Pos):Expr:=.ListComp elt [⟨tg,iter,ifs,0⟩,⟨FH,iter2,EX,0⟩] scope pos
theorem vo (elt tg iter FH iter2:Expr) (ifs EX:List Expr) (scope:Scope) (pos:Pos) (it EL:zz9) (env:Env):compTurn (G5 elt tg iter FH iter2 ifs EX scope pos) 1 it EL env=(do
   standAt iter2.pos
   match <- pyNext it with
   | none=>pure (.done .next)
   | some v =>
    letOwnedTupleGo FH it v
    assign FH env v
    let mut ok:=true
    for c in EX do
     if ok then ok <- isTrue c env (eval c env)
    if ok then (do let _ <- call (.builtin "list.append") [EL,<- eval elt env])
    again (.compLoop (G5 elt tg iter FH iter2 ifs EX scope pos) 1 it EL env)):=by rfl
theorem vA (elt tg iter FH iter2:Expr) (ifs EX:List Expr) (scope:Scope) (pos:Pos) (it EL:zz9) (env:Env):compTurn (G5 elt tg iter FH iter2 ifs EX scope pos) 0 it EL env=(do
   standAt iter.pos
   match <- pyNext it with
   | none=>pure (.done .next)
   | some v =>
    letOwnedTupleGo tg it v
    assign tg env v
    let mut ok:=true
    for c in ifs do
     if ok then ok <- isTrue c env (eval c env)
    if ok then
     let x <- eval iter2 env
     standAt iter2.pos
     let x <- foldedSetIterable iter2 env x
     let _ <- runOwn (.compStart (G5 elt tg iter FH iter2 ifs EX scope pos) 1 (<- holding [x] (pyIter x)) EL env) env
    again (.compLoop (G5 elt tg iter FH iter2 ifs EX scope pos) 0 it EL env)):=by rfl
section
variable {prog:Program}{w:World}{A:Around}{R:Result->zz8->Prop}{s:zz8}{elt tg iter FH iter2:Expr}{ifs EX:List Expr}{scope:Scope}{pos:Pos}{it EL:zz9}{env:Env}
theorem uf (h0:codeAny (model prog w) A (.compLoop (G5 elt tg iter FH iter2 ifs EX scope pos) 1 it EL env) R s)
  (h:wpAny (model prog w) A (pyIter it) (λRS s'=>codeAny (model prog w) A (.compLoop (G5 elt tg iter FH iter2 ifs EX scope pos) 1 RS EL env) R s') (λ_ _=>False) s) :
  codeAny (model prog w) A (.compStart (G5 elt tg iter FH iter2 ifs EX scope pos) 1 it EL env) R s:=by
 refine DN ?_;show wpAny _ _ ((compStart (G5 elt tg iter FH iter2 ifs EX scope pos) 1 it EL env).onRaise (λx=>do noteFrame x env;standAt theWindowsPlace)) _ _ s;refine wpAny_notedAt (BW (E:=λ_ _=>False) ?_ (λ_ _ q=>q) λ_ _ f=>f.elim);unfold compStart;show wpAny _ _ (ask >>= _) _ _ s;refine Aw (CG (wpAny_ite ?_));split
 ·first | exact Aw (Az (Az (And.intro rfl h0))) | exact Az (And.intro rfl h0)
 ·first
   | exact Aw (C5 (Aw (B7 (Aw (BW h (λRS s' h'=>Az (And.intro rfl h')) λ_ _ x=>x)))))
   | (refine Aw (C5 ?_);show wpAny _ _ (standAt iter2.pos >>= _) _ _ s;exact Aw (B7 (Aw (BW h (λRS s' h'=>Az (And.intro rfl h')) λ_ _ x=>x))))
theorem vL (J:Nat->zz8->Prop)
  (turn:∀n s,J n s->wpAny (model prog w) A (pyNext it) (λr s1=>match r with
   | none=>R (.ok .next) s1
   | some v=>wpAny (model prog w) A (letOwnedTupleGo FH it v) (λ_ s2=>wpAny (model prog w) A (assign FH env v) (λ_ s3 =>
     wpAny (model prog w) A (forIn EX true λc r=>if r=true then do let ok <- isTrue c env (eval c env);pure (ForInStep.yield ok) else pure (ForInStep.yield r)) (λok s4 =>
      if ok=true then wpAny (model prog w) A (eval elt env) (λx s5=>wpAny (model prog w) A (call (.builtin "list.append") [EL,x]) (λ_ s6=>∃m,m < n/\J m s6) (λ_ _=>False) s5) (λ_ _=>False) s4
      else ∃m,m < n/\J m s4) (λ_ _=>False) s3) (λ_ _=>False) s2) (λ_ _=>False) s1) (λ_ _=>False) s)
  (n:Nat) (h:J n s):codeAny (model prog w) A (.compLoop (G5 elt tg iter FH iter2 ifs EX scope pos) 1 it EL env) R s:=by
 refine Ez rfl J (λk t hJ=>?_) n h;show wpAny _ A ((compTurn (G5 elt tg iter FH iter2 ifs EX scope pos) 1 it EL env).onRaise (λx=>do noteFrame x env;theTreesLotGoes x)) _ _ t;refine wpAny_noted (BW (E:=λ_ _=>False) ?_ (λ_ _ q=>q) λ_ _ f=>f.elim);rw [vo];refine Aw (B7 (Aw (EI (turn k t hJ) λr s1 h1=>?_)));cases r with
 | none=>exact Az h1
 | some v =>
  refine Aw (EI h1 λ_ s2 h2=>Aw (EI h2 λ_ s3 h3=>Aw (EI h3 λok s4 h4=>?_)));cases ok with
  | false=>exact Az ⟨rfl,h4⟩
  | true=>exact Aw (Aw (EI h4 λx s5 h5=>Aw (EI h5 λ_ s6 h6=>Az (Az ⟨rfl,h6⟩))))
theorem vZ (hs:∀x,foldedSetIterable iter2 env x=pure x) (J:Nat->zz8->Prop)
  (turn:∀n s,J n s->wpAny (model prog w) A (pyNext it) (λr s1=>match r with
   | none=>R (.ok .next) s1
   | some v=>wpAny (model prog w) A (letOwnedTupleGo tg it v) (λ_ s2=>wpAny (model prog w) A (assign tg env v) (λ_ s3 =>
     wpAny (model prog w) A (forIn ifs true λc r=>if r=true then do let ok <- isTrue c env (eval c env);pure (ForInStep.yield ok) else pure (ForInStep.yield r)) (λok s4 =>
      if ok=true then wpAny (model prog w) A (eval iter2 env) (λx s5=>wpAny (model prog w) A (pyIter x) (λRQ s6=>codeAny (model prog w) A (.compStart (G5 elt tg iter FH iter2 ifs EX scope pos) 1 RQ EL env) (λr s7=>match r with | .ok _=>∃m,m < n/\J m s7 | .error _=>False) s6) (λ_ _=>False) s5) (λ_ _=>False) s4
      else ∃m,m < n/\J m s4) (λ_ _=>False) s3) (λ_ _=>False) s2) (λ_ _=>False) s1) (λ_ _=>False) s)
  (n:Nat) (h:J n s):codeAny (model prog w) A (.compLoop (G5 elt tg iter FH iter2 ifs EX scope pos) 0 it EL env) R s:=by
 refine Ez rfl J (λk t hJ=>?_) n h;show wpAny _ A ((compTurn (G5 elt tg iter FH iter2 ifs EX scope pos) 0 it EL env).onRaise (λx=>do noteFrame x env;theTreesLotGoes x)) _ _ t;refine wpAny_noted (BW (E:=λ_ _=>False) ?_ (λ_ _ q=>q) λ_ _ f=>f.elim);rw [vA];refine Aw (B7 (Aw (EI (turn k t hJ) λr s1 h1=>?_)));cases r with
 | none=>exact Az h1
 | some v =>
  refine Aw (EI h1 λ_ s2 h2=>Aw (EI h2 λ_ s3 h3=>Aw (EI h3 λok s4 h4=>?_)));cases ok with
  | false=>exact Az ⟨rfl,h4⟩
  | true =>
   refine Aw (EI h4 λx s5 h5=>Aw (B7 (Aw (Cv (hs x) (Aw (BJ (EI h5 λRQ s6 h6=>Aw (wpAny_runOwn ?_))))))));rw [Around.mark_none];refine CJ h6 λr s7 h7=>?_;cases r with
   | error e=>exact h7.elim
   | ok f=>exact Az ⟨rfl,h7⟩
end
def qi (J:It) (g:TG) (tt:TT) (te:TE) (Xn:List V) (σ':St) (fin:List V->St->Hp->Prop) (H1:Hp):Prop :=
 ∃W:Nat->Nat->List V->St->Hp->Prop,(∃m,W 0 m Xn σ' H1)/\∀i m ys σ H,W i m ys σ H ->
  (J.stop i H/\ys.length<=sizeLine/\fin ys σ H)\/(J.go i H/\ys.length < sizeLine/\∃Nx:List V->St->Hp->Prop,(∀FQ σ' H',Nx FQ σ' H'->∃m',m' < m/\W (i + 1) m' FQ σ' H') /\
   ∀x H',J.yld i H x H'->g x σ H' λσ2 H2=>tt σ2 H2 λb H3=>if b=true then te σ2 H3 (λv H4=>Nx (ys++[v]) σ2 H4) else Nx ys σ2 H3)
abbrev Jk (EE:List zz9) (k:Nat):Obj:={ cls:=.type "list",data:=.seq EE.toArray k }
theorem vM {Y:Cx}{D:Addr}{elt tg iter FH iter2:Expr}{ifs EX:List Expr}{scope:Scope}{pos:Pos}{g:TG}{tt:TT}{te:TE} (hc:Y.calm=true) (GR:D≠Y.env.locals) (NI:D∉Y.fs) (hDs:Y.s₀.heap.objs.size<=D) (HC:∀x c,Y.env.cells.lookup x=some c->c≠D) (pn:Y.pn=[]) (R5:Y.xe=λ_ _=>False)
  (hg:PG Y FH g) (ht:HS Y EX tt) (he:PE Y elt te) {P0:List (Addr×Obj)} (Ub:∀p∈P0,p.1≠D)
  {σ:St}{H:Hp}{s:zz8}{EE:List zz9}{k:Nat}{it:Addr}{fp:List Addr}{tn:Nat->Heap->Prop}{J:It}{ys:List V}{fin:List V->St->Hp->Prop}{R:Result->zz8->Prop}
  (I:Inv Y ((D,Jk EE k)::P0) σ H s) (rv:av ys EE) (T:Turn Y.prog Y.w Y.K FH J fp it tn) (st:tn 0 s.heap) (f2:∀b∈fp,bR Y ((D,Jk EE k)::P0) H b) (hW:qi J g tt te ys σ fin H)
  (hR:∀σ' H' s' FQ its' k',Inv Y ((D,Jk its' k')::P0) σ' H' s'->av FQ its'->FQ.length<=sizeLine->fin FQ σ' H'->R (.ok .next) s') :
  codeAny (model Y.prog Y.w) Y.A (.compLoop (G5 elt tg iter FH iter2 ifs EX scope pos) 1 (.ref it) (.ref D) Y.env) R s:=by
 obtain⟨W,⟨m0,w0⟩,turn⟩:=hW;have nD:∀b∈fp,b≠D:=λb hb z=>(f2 b hb).2.2.2.2.2 (D,Jk EE k) (AK _ AJ) z.symm;have stat:∀{H':Hp} (its':List zz9) (k':Nat),(∀b∈fp,H' b=none)->∀b∈fp,bR Y ((D,Jk its' k')::P0) H' b:=λ{H'} its' k' hn b hb=>by
  obtain⟨_,a1,a2,a3,a4,a5⟩:=f2 b hb;refine⟨hn b hb,a1,a2,a3,a4,λp hp=>?_⟩
  rcases AO.mp hp with z | z
  ·exact a5 p (AZ _ z)
  ·rcases AI.mp z with q | q
   ·rw [q];exact λz=>nD b hb z.symm
   ·exact a5 p (AK _ (AN _ q))
 refine vL (λn s'=>∃i σ' H' ys EE k,Inv Y ((D,Jk EE k)::P0) σ' H' s'/\tn i s'.heap/\(∀b∈fp,H' b=none)/\av ys EE/\W i n ys σ' H') ?_ m0 ⟨0,σ,H,ys,EE,k,I,st,λb hb=>(f2 b hb).1,rv,w0⟩;rintro n s' ⟨i,σ',H',ys,EE,k,I',Fb,Im,rv,w'⟩
 rcases turn i n ys σ' H' w' with ⟨stop,hz,qf⟩ | ⟨go,hz,Nx,hN,step⟩
 ·refine EI (T.done Y rfl rfl rfl hc i _ s' σ' H' _ I' (stat _ _ Im) Fb stop) λr s5 ⟨hr,I5⟩=>?_
  subst hr;exact hR σ' H' s5 ys EE k I5 rv hz qf
 ·refine EI (T.item Y rfl rfl rfl hc i _ s' σ' H' _ I' (stat _ _ Im) Fb go) λr s5 ⟨u,hr,h5⟩=>?_
  subst hr;refine EI h5 λ_ s6 ⟨x,H6,I6,r6,y6,GL,KL⟩=>?_;have KS:=I6.pinned (stat _ _ KL) (T.obj _ _ GL);have g1:=hg _ s6 σ' H6 x u _ KS r6 (step x H6 y6);rw [R5] at g1;refine EI g1 λ_ s7 ⟨σ7,H7,I7,q7⟩=>?_;have g2:=ht _ s7 σ7 H7 _ I7 q7;rw [R5] at g2;refine EI g2 λok s8 ⟨H8,I8,q8⟩=>?_;have back:∀{H9:Hp}{s9:zz8},Inv Y (((D,Jk EE k)::P0)++df fp s6.heap) σ7 H9 s9->tn (i + 1) s9.heap/\∀b∈fp,H9 b=none:=λ{H9 s9} I9=>by
   refine⟨T.keep _ _ _ GL λb hb o e=>(I9.pin (b,o) (AK _ (AK _ (cV hb e)))).1,λb hb=>?_⟩;obtain⟨o,e,d⟩:=T.obj _ _ GL b hb;exact (I9.pin (b,o) (AK _ (AK _ (cV hb e)))).2.1
  cases ok with
  | false =>
   rw [if_neg AX] at q8 ⊢;obtain⟨m',hm,w8⟩:=hN _ _ _ q8;obtain⟨Ke,KJ⟩:=back I8;exact⟨m',hm,i + 1,σ7,H8,ys,EE,k,I8.unpinned,Ke,KJ,rv,w8⟩
  | true =>
   rw [if_pos rfl] at q8 ⊢;have g3:=he _ s8 σ7 H8 _ I8 q8;rw [R5] at g3;refine EI g3 λy s9 ⟨v,H9,I9,r9,q9⟩=>?_;have M8:=I9.pin (D,Jk EE k) (AK _ (AZ _ AJ));obtain⟨Q2,Um⟩:=back I9;refine wpAny_list_append_plain (hsz:=by have:=rv.length;rw [AR];omega) ⟨k,M8.1⟩ λh' Gw FO=>?_;obtain⟨m',hm,w9⟩:=hN _ _ _ q9;obtain⟨k',Hi⟩:=Gw;have IP:Inv Y P0 σ7 H9 s9:=I9.pins_of λp hp=>I9.pin p (AK _ (AZ _ (AN _ hp)))
   have IV:Inv Y P0 σ7 H9 { s9 with heap:=h' }:=IP.turned (t':=s9.toks) (it:=D) (λb o hb e=>FO.extBut b o hb e) M8.2.1 GR (.inr hDs) HC (λp hp=>by
    rw [pn,DR] at hp
    exact Ub p hp)
   refine⟨m',hm,i + 1,σ7,H9,ys++[v],EE++[y],k',IV.pins_of λp hp=>?_,T.keep _ _ _ Q2 λb hb o e=>FO.extBut b o (nD b hb) e,Um,rv.append (.cons r9 .nil),w9⟩
   rcases AI.mp hp with q | q
   ·rw [q];exact⟨by show h'.get? D=_;rw [Hi];simp,M8.2.1,GR,NI,λv z=>by cases z⟩
   ·exact IV.pin p (AK _ q)
def kJ (J:It) (g:TG) (tt:TT) (KY:TI) (g2:TG) (La:TT) (te:TE) (σ':St) (fin:List V->Hp->Prop) (H1:Hp):Prop :=
 ∃W:Nat->Nat->List V->St->Hp->Prop,(∃m,W 0 m [] σ' H1)/\∀i m ys σ H,W i m ys σ H ->
  (J.stop i H/\ys.length<=sizeLine/\fin ys H)\/(J.go i H/\∃Nx:List V->St->Hp->Prop,(∀FQ σ' H',Nx FQ σ' H'->∃m',m' < m/\W (i + 1) m' FQ σ' H') /\
   ∀x H',J.yld i H x H'->g x σ H' λσ2 H2=>tt σ2 H2 λb H3=>if b=true then KY σ2 H3 (λJ2 H4=>qi J2 g2 La te ys σ2 Nx H4) else Nx ys σ2 H3)
def zK (wi:TI) (g:TG) (tt:TT) (KY:TI) (g2:TG) (La:TT) (te:TE) (ix:List (Option Nat)):TE:=λσ H Q=>wi σ H λJ H1=>kJ J g tt KY g2 La te (GW ix σ) (λys H'=>∀p,H' p=none->Q (.ref p) (upd H' p (.lst ys))) H1
section
variable {X:Cx}{scope:Scope}{N:List Str}{ix:List (Option Nat)}{tg iter FH iter2 elt:Expr}{ifs EX:List Expr}{pos:Pos}{g g2:TG}{tt La:TT}{te:TE}{wi KY:TI}
theorem wB (L:bX X scope N ix) (hc:X.calm=true) (hg:∀C s0 H0 fp,PG (aw X scope N C s0 H0 fp) tg g) (ht:∀C s0 H0 fp,HS (aw X scope N C s0 H0 fp) ifs tt) (IB:∀C s0 H0 fp,PI (aw X scope N C s0 H0 fp) FH iter2 KY) (Gs:∀C s0 H0 fp x,foldedSetIterable iter2 (aw X scope N C s0 H0 fp).env x=pure x) (Tv:∀C s0 H0 fp,PG (aw X scope N C s0 H0 fp) FH g2) (Sn:∀C s0 H0 fp,HS (aw X scope N C s0 H0 fp) EX La) (he:∀C s0 H0 fp,PE (aw X scope N C s0 H0 fp) elt te)
  {pins:List (Addr×Obj)}{σ:St}{H2:Hp}{s2:zz8}{it:Addr}{fp:List Addr}{tn:Nat->Heap->Prop}{J:It}{fin:List V->Hp->Prop}{E:zz9->zz8->Prop}{RR:zz9->Addr->Result->zz8->Prop}
  (I2:Inv X pins σ H2 s2) (T:Turn X.prog X.w X.K tg J fp it tn) (st:tn 0 s2.heap) (f2:∀b∈fp,bR X pins H2 b) (hW:kJ J g tt KY g2 La te (GW ix σ) fin H2)
  (M6:∀D C s' m ys H',s'.heap.Ns C m->s'.os=s2.os->D≠C->bR X pins (upd H' D (.lst ys)) C->(∀h',Heap.SameBut C s'.heap h'->Inv X pins σ (upd H' D (.lst ys)) { s' with heap:=h' })->H' D=none->fin ys H'->RR (.ref D) C (.ok .next) s') :
  wpAny (model X.prog X.w) X.A (newList []) (λEL s3=>wpAny (model X.prog X.w) X.A (newFunctionEnv scope X.env.globals (cy X.env scope.names []) [] X.env.qual none .none (some X.env)) (λGF s4 =>
   codeAny (model X.prog X.w) X.A (.compStart (G5 elt tg iter FH iter2 ifs EX scope pos) 0 (.ref it) EL { GF with scope:=relabel scope X.env }) (RR EL GF.locals) s4) E s3) E s2:=by
 obtain⟨W,⟨m0,w0⟩,turn⟩:=hW;have IE:∀b∈fp,b < s2.heap.objs.size:=λb hb=>by
  obtain⟨o,e,_⟩:=T.obj _ _ st b hb;exact AQ e
 refine Bp (C6 L.nocell (by intro y hy;simp at hy) (λh1 Hj Hq=>?_) L.kind)
 dsimp only at Hj Hq ⊢
 generalize hG:s2.heap.push { cls:=.type "list",dict:=none,data:=.seq ([]:List zz9).toArray }=G at Hj Hq ⊢;have JJ:G.objs.size=s2.heap.objs.size + 1:=by rw [<- hG,B0]
 generalize M7:s2.heap.objs.size=D at JJ IE;generalize IF:G.objs.size=C at JJ Hj Hq ⊢;have GR:D≠C:=by omega
 have nq:∀b:Nat,b < s2.heap.objs.size->b≠C/\b≠D:=λb h=>⟨by omega,by omega⟩
 have Mj:∀b∈fp,b≠C/\b≠D:=λb hb=>nq b (by rw [M7];exact IE b hb);have kG:∀b o,s2.heap.get? b=some o->G.get? b=some o:=λb o e=>by rw [<- hG];exact AA _ e
 have kp:∀b o,s2.heap.get? b=some o->h1.get? b=some o:=λb o e=>Hq.extBut b o (nq b (AQ e)).1 (AA _ (kG b o e));have oD:∃n,h1.get? D=some { cls:=.type "list",data:=.seq ([]:List zz9).toArray n }:=⟨_,Hq.extBut _ _ GR (AA _ (by rw [<- hG,<- M7];exact AS _ rfl))⟩
 have I4:=i7 L (tk:=s2.toks + ([]:List (Str×zz9)).length) I2 (C:=C) (by omega) f2 (by rw [M7];exact IE) kp Hj;have HK:tn 0 h1:=T.keep _ _ _ st λb _ o e=>kp b o e;have NI:D∉(aw X scope N C s2 H2 fp).fs:=λz=>by
  have z':D∈HI X.stack:=z
  rcases AI.mp (I2.stkSub D z') with q | q
  ·exact (nq _ I2.lt).2 q.symm
  ·exact I2.nofs (a:=D) (by omega) q
 have HC:∀x c,(aw X scope N C s2 H2 fp).env.cells.lookup x=some c->c≠D:=λx c e z=>by
  obtain⟨v,o,ho,_⟩:=I2.cell x c (dk e);exact (nq c (AQ ho)).2 z
 have stat:∀{H':Hp}{pl:List (Addr×Obj)},(∀b∈fp,H' b=none)->(∀p∈pl,p.1=D)->∀b∈fp,bR (aw X scope N C s2 H2 fp) pl H' b:=λ{H' pl} hn hp b hb=>by
  have EM:=IE b hb;refine⟨hn b hb,(Mj b hb).1,λz=>?_,.inl hb,λx c e=>(f2 b hb).2.2.2.2.1 x c (dk e),λp hq z=>?_⟩
  ·exact (AI.mp (I2.stkSub b z)).elim (f2 b hb).2.1 (f2 b hb).2.2.1
  ·have HF:p∈pl:=by simpa [aw] using hq
   exact (Mj b hb).2 (z.symm.trans (hp p HF))
 have Kj:∀{pl:List (Addr×Obj)}{σ':St}{H':Hp}{s':zz8}{o:Obj},Inv (aw X scope N C s2 H2 fp) pl σ' H' s'->s'.heap.get? D=some o->H' D=none->(∀v,o.data≠.cell v)->Inv (aw X scope N C s2 H2 fp) [(D,o)] σ' H' s' :=
  λ{pl σ' H' s' o} I' ho hn hd=>I'.pins_of λp hp=>by
   have e:p=(D,o):=by simpa using hp
   subst e;exact⟨ho,hn,GR,NI,hd⟩
 have loop:∀s4:zz8,s4={ s2 with heap:=h1,toks:=s2.toks + ([]:List (Str×zz9)).length } ->
   codeAny (model X.prog X.w) X.A (.compLoop (G5 elt tg iter FH iter2 ifs EX scope pos) 0 (.ref it) (.ref D) (aw X scope N C s2 H2 fp).env) (RR (.ref D) C) s4:=by
  rintro s4 rfl;refine vZ (Gs C s2 H2 fp) (λn s'=>∃i σ' H' ys EE k,Inv (aw X scope N C s2 H2 fp) [(D,{ cls:=.type "list",data:=.seq EE.toArray k })] σ' H' s'/\tn i s'.heap/\(∀b∈fp,H' b=none)/\av ys EE/\W i n ys σ' H') ?_ m0 ?_
  ·rintro n s' ⟨i,σ',H',ys,EE,k,I',Fb,Im,rv,w'⟩
   have hD':=I'.pin _ (AK _ AJ)
   rcases turn i n ys σ' H' w' with ⟨stop,hz,qf⟩ | ⟨go,Nx,hN,step⟩
   ·refine EI (T.done (aw X scope N C s2 H2 fp) rfl rfl rfl hc i _ s' σ' H' _ I' (stat Im (by simp)) Fb stop) λr s5 ⟨hr,I5⟩=>?_
    subst hr;have M9:=I5.pin _ (AK _ AJ);obtain⟨m5,KA,_⟩:=I5.loc;refine M6 D C s5 m5 ys H' KA I5.os GR (I2.fpOk (by omega) (by rw [ao (Cc GR)];exact I5.free)) (λh' FO=>?_) M9.2.1 qf;exact oV I2 f2 I5 (by omega) (by omega) GR M9.2.1 M9.1 rv hz λb o hb e=>FO.extBut b o hb e
   ·refine EI (T.item (aw X scope N C s2 H2 fp) rfl rfl rfl hc i _ s' σ' H' _ I' (stat Im (by simp)) Fb go) λr s5 ⟨u,hr,h5⟩=>?_
    subst hr;refine EI h5 λ_ s6 ⟨x,H6,I6,r6,y6,GL,KL⟩=>?_;have KS:=I6.pinned (stat KL (by simp)) (T.obj _ _ GL);refine EI (hg C s2 H2 fp _ s6 σ' H6 x u _ KS r6 (step x H6 y6)) λ_ s7 ⟨σ7,H7,I7,q7⟩=>?_;refine EI (ht C s2 H2 fp _ s7 σ7 H7 _ I7 q7) λok s8 ⟨H8,I8,q8⟩=>?_;have back:∀{H9:Hp}{s9:zz8},Inv (aw X scope N C s2 H2 fp) ([(D,{ cls:=.type "list",data:=.seq EE.toArray k })]++df fp s6.heap) σ7 H9 s9->tn (i + 1) s9.heap/\∀b∈fp,H9 b=none:=λ{H9 s9} I9=>by
     refine⟨T.keep _ _ _ GL λb hb o e=>(I9.pin (b,o) (AK _ (AK _ (cV hb e)))).1,λb hb=>?_⟩;obtain⟨o,e,d⟩:=T.obj _ _ GL b hb;exact (I9.pin (b,o) (AK _ (AK _ (cV hb e)))).2.1
    cases ok with
    | false =>
     rw [if_neg AX] at q8 ⊢;obtain⟨m',hm,w8⟩:=hN _ _ _ q8;obtain⟨Ke,KJ⟩:=back I8;exact⟨m',hm,i + 1,σ7,H8,ys,EE,k,I8.unpinned,Ke,KJ,rv,w8⟩
    | true =>
     rw [if_pos rfl] at q8 ⊢;have hD8:=I8.pin _ (AK _ (AZ _ AJ));refine EI (IB C s2 H2 fp _ s8 σ7 H8 _ I8 q8) λx2 s9 h9=>EI h9 λRQ E3 h10=>?_;obtain⟨i2,fp2,tn2,J2,E5,rfl,IV,T2,N8,f10,hW2⟩:=h10;have UG:Inv (aw X scope N C s2 H2 fp) ((D,Jk EE k)::df fp s6.heap) σ7 E5 E3:=IV;have Ub:∀p∈df fp s6.heap,p.1≠D:=λp hp=>(Mj p.1 (lM hp).1).2;have inner:∀R:Result->zz8->Prop,(∀σ' H' s' FQ its' k',Inv (aw X scope N C s2 H2 fp) ((D,Jk its' k')::df fp s6.heap) σ' H' s'->av FQ its'->FQ.length<=sizeLine->Nx FQ σ' H'->R (.ok .next) s') ->
       codeAny (model X.prog X.w) X.A (.compStart (G5 elt tg iter FH iter2 ifs EX scope pos) 1 (.ref i2) (.ref D) (aw X scope N C s2 H2 fp).env) R E3:=λR hR=>by
      have q:=vM (Y:=aw X scope N C s2 H2 fp) (iter:=iter) (tg:=tg) (ifs:=ifs) (iter2:=iter2) (scope:=scope) (pos:=pos) (R:=R) hc GR NI (by show s2.heap.objs.size<=D;omega) HC rfl rfl (Tv C s2 H2 fp) (Sn C s2 H2 fp) (he C s2 H2 fp) Ub UG rv T2 N8 f10 hW2 hR;exact uf q (T2.self _ 0 _ _ _ N8 q)
     refine inner _ λσ' H' s' FQ its' k' I' XN RX qn=>?_
     ·obtain⟨m',hm,w9⟩:=hN _ _ _ qn
      have Nk:Inv (aw X scope N C s2 H2 fp) ([(D,Jk its' k')]++df fp s6.heap) σ' H' s':=I';refine⟨m',hm,i + 1,σ',H',FQ,its',k',Nk.unpinned,?_,?_,XN,w9⟩
      ·exact T.keep _ _ _ GL λb hb o e=>(Nk.pin (b,o) (AK _ (AK _ (cV hb e)))).1
      ·intro b hb
       obtain⟨o,e,d⟩:=T.obj _ _ GL b hb;exact (Nk.pin (b,o) (AK _ (AK _ (cV hb e)))).2.1
  ·obtain⟨n,e⟩:=oD
   exact⟨0,GW ix σ,H2,[],[],n,Kj I4 e (I2.hok.fresh (by omega)) (λv z=>by cases z),HK,λb hb=>(f2 b hb).1,.nil,w0⟩
 have q:=loop _ rfl;exact codeAny_compStart_list q (T.self _ 0 _ _ _ HK q)
theorem xy (L:bX X scope N ix) (hc:X.calm=true) (hi:PI X tg iter wi) (hg:∀C s0 H0 fp,PG (aw X scope N C s0 H0 fp) tg g) (ht:∀C s0 H0 fp,HS (aw X scope N C s0 H0 fp) ifs tt)
  (IB:∀C s0 H0 fp,PI (aw X scope N C s0 H0 fp) FH iter2 KY) (Tv:∀C s0 H0 fp,PG (aw X scope N C s0 H0 fp) FH g2) (Sn:∀C s0 H0 fp,HS (aw X scope N C s0 H0 fp) EX La) (he:∀C s0 H0 fp,PE (aw X scope N C s0 H0 fp) elt te)
  (hs:∀x,foldedSetIterable iter X.env x=pure x:=by intro _;rfl) (Gs:∀C s0 H0 fp x,foldedSetIterable iter2 (aw X scope N C s0 H0 fp).env x=pure x:=by intros;rfl):PE X (G5 elt tg iter FH iter2 ifs EX scope pos) (zK wi g tt KY g2 La te ix):=by
 intro pins s σ H Q I h;show wpAny _ _ (eval (.ListComp elt [⟨tg,iter,ifs,0⟩,⟨FH,iter2,EX,0⟩] scope pos) _) _ _ _;rw [eval_ListComp];refine Cd (use:=none) rfl hs (L.clos I.ok) L.kind L.locals (EI (hi pins s σ H _ I h) λv s1 h1=>EI h1 λLq s2 h2=>?_);obtain⟨it,fp,tn,J,H2,rfl,I2,T,Gy,f2,hW⟩:=h2;refine wB (RR:=λEL C=>compPost (model X.prog X.w) X.A X.xe none (EP X pins σ Q) EL C) L hc hg ht IB Gs Tv Sn he I2 T Gy f2 hW ?_;intro D C s' m ys H' hn ho GR hC hI hD fin;exact⟨m,hn,λh' FO=>⟨.ref D,_,hI h' FO,rfl,fin D hD⟩⟩
end
structure Ao (X:Cx) (scope:Scope) (N:List Str) (ix:List (Option Nat)):Prop where
 kind:scope.kind=.function
 names:scope.names.all (λx=>((x.2 != .cell) || (scope.names.lookup x.1 == some .cell)) && ((x.2 != .local) || (scope.names.lookup x.1 == some .local)) && ((x.2 != .free) || (X.env.kindOf x.1 == some .cell) || (X.env.kindOf x.1 == some .free)))=true
 em:i8 X.N X.env.kindOf scope N ix=true
 nd:N.Nodup
section
variable {X:Cx}{scope:Scope}{N:List Str}{ix:List (Option Nat)}
variable {tg iter elt:Expr}{ifs:List Expr}{pos:Pos}{g:TG}{tt:TT}{te:TE}
variable {wi:TI}
end
end L2
namespace K93
open PySem L2
theorem iM (K:zz7) {X:Cx}{tg l:Expr}{tl:TE} (hl:PE X l tl) (h:X.K=K:=by rfl):PI X tg l (gT K tl):=by subst h;exact bC hl
theorem ut {K:zz7}{a:Addr}{EH:List (Addr×List Str)}{σ':St}{fin:List V->Hp->Prop}{H1:Hp} (hq:H1 a=some (.lst (ah EH))) (A:aJ H1 EH) (hz:∀i,((EH.take i).map (·.2)).flatten.length<=200) (hl:∀x∈EH,x.2.length<=200) {g1 g2:Option V} (hσ:σ'=[g1,g2]) (hd:fin (((EH.map (·.2)).flatten).map V.str) H1) :
  kJ (J6 K a) (cm 0) cG (gT K (jg 0)) (cm 1) cG (jg 1) σ' fin H1:=by
 subst hσ;have hsz:∀n:Nat,n<=500->n < sizeLine:=λn hn=>fits (by omega);refine⟨λi m ys σ H=>m=EH.length - i/\i<=EH.length/\ys=(((EH.take i).map (·.2)).flatten).map V.str/\H=H1/\∃x y,σ=[x,y],⟨EH.length,by simp,Be _,rfl,rfl,_,_,rfl⟩,?_⟩;rintro i m ys σ H ⟨rfl,hi,rfl,rfl,x,y,rfl⟩
 by_cases EM:i < EH.length
 ·refine .inr ⟨⟨ah EH,.ref EH[i].1,EF.of hq,by rw [AH,AD EM];rfl⟩,λFQ σ' H'=>FQ=(((EH.take (i + 1)).map (·.2)).flatten).map V.str/\H'=H/\∃x y,σ'=[x,y],λFQ σ' H' q=>⟨EH.length - (i + 1),by omega,rfl,EM,q.1,q.2.1,q.2.2⟩,λz H' yl=>?_⟩
  obtain⟨rfl,yl⟩:=yl;have Zj:=yl (ah EH) (EF.of hq);obtain⟨t,ht,rfl⟩:=cz Zj;have Gk:=AB ht;have t1:=A t Gk;unfold cm cG;refine bK ⟨_,rfl,t.1,rfl,⟨_,EG.of t1⟩,?_⟩;have VG:=hz i;have MV:=hl t Gk;refine⟨λj n ys σ H2=>n=t.2.length - j/\j<=t.2.length/\ys=(((EH.take i).map (·.2)).flatten++t.2.take j).map V.str/\H2=H'/\∃y,σ=[some (.ref t.1),y],⟨t.2.length,by simp,Be _,by simp,rfl,_,rfl⟩,?_⟩;rintro j n ys σ H2 ⟨rfl,hj,rfl,rfl,y',rfl⟩;have RY:((((EH.take i).map (·.2)).flatten++t.2.take j).map V.str).length<=500:=by rw [Av,Ba,AW];omega
  by_cases FK:j < t.2.length
  ·refine .inr ⟨⟨t.2.map V.str,.str t.2[j],EG.of t1,strAt FK⟩,hsz _ RY,λFQ σ' UH=>FQ=(((EH.take i).map (·.2)).flatten++t.2.take (j + 1)).map V.str/\UH=H2/\∃y,σ'=[some (.ref t.1),y],λFQ σ' UH q=>⟨t.2.length - (j + 1),by omega,rfl,FK,q.1,q.2.1,q.2.2⟩,λz UH yl=>?_⟩
   obtain⟨rfl,yl⟩:=yl;have VH:=yl _ (EG.of t1);rw [strAt FK] at VH;cases VH;refine bK ⟨_,rfl,?_,rfl,_,rfl⟩;have e:t.2.take (j + 1)=t.2.take j++[t.2[j]]:=by rw [Bg,AD FK];rfl
   rw [e,<- Ci,AU (l₂:=[t.2[j]])];rfl
  ·have ej:j=t.2.length:=by omega
   subst ej;refine .inl ⟨⟨_,EG.of t1,by simp⟩,BH (hsz _ RY),?_,rfl,_,_,rfl⟩;rw [Bg,ht];simp
 ·have ei:i=EH.length:=by omega
  subst ei;have VG:=hz EH.length;rw [B6] at VG ⊢;exact .inl ⟨⟨_,EF.of hq,by simp⟩,BH (hsz _ (by rw [Av];omega)),hd⟩
structure ck (H:Hp) (v pa ra th:Addr) (ps:List Str) (rs:List T) (root:Str) (EH:List (Addr×List Str)):Prop where
 W:bA H v pa ra ps rs
 G:Good ps (rs.map (·.2))
 pz:ps.length<=8
 rz:rs.length<=40
 rt:root∈ps
 th:H th=some (.lst (ah EH))
 A:aJ H EH
 n6:EH.length<=6
 S:FP root ps (rs.map (·.2)) (EH.map (·.2))
theorem ck.same {H H':Hp}{v pa ra th:Addr}{ps:List Str}{rs:List T}{root:Str}{EH:List (Addr×List Str)} (h:ck H v pa ra th ps rs root EH) (s:af H H'):ck H' v pa ra th ps rs root EH:=⟨h.W.same s,h.G,h.pz,h.rz,h.rt,s _ _ h.th,h.A.same s,h.n6,h.S⟩
theorem ck.len {H:Hp}{v pa ra th:Addr}{ps:List Str}{rs:List T}{root:Str}{EH:List (Addr×List Str)} (h:ck H v pa ra th ps rs root EH) {x:Addr×List Str} (hx:x∈EH):x.2.length<=7:=by
 have t:=(h.S.tr x.2 (AC (f:=λz:Addr×List Str=>z.2) hx)).of;have TW:=t.treeW h.G h.rt;have e:=t.names h.G;have:=TW.len;have hp:=h.pz;rw [<- e,Av];omega
theorem ck.flat {H:Hp}{v pa ra th:Addr}{ps:List Str}{rs:List T}{root:Str}{EH:List (Addr×List Str)} (h:ck H v pa ra th ps rs root EH):∀i,((EH.take i).map (·.2)).flatten.length<=42:=λi=>by
 have g:∀(n:Nat),((EH.take n).map (·.2)).flatten.length<=7 * (EH.take n).length:=λn=>by
  have hl:∀x∈EH.take n,x.2.length<=7:=λx hx=>h.len (DU hx);generalize EH.take n=l at hl
  induction l with
  | nil=>simp
  | cons x t ih =>
   have a:=hl x AJ;have b:=ih λy hy=>hl y (AN _ hy);rw [Bj,BO,Ba,Bv];omega
 have:=g i;have h6:=h.n6;have h3:(EH.take i).length<=6:=by rw [AW];omega
 omega
theorem ck.name {H:Hp}{v pa ra th:Addr}{ps:List Str}{rs:List T}{root:Str}{EH:List (Addr×List Str)} (h:ck H v pa ra th ps rs root EH) {x:Addr×List Str} (hx:x∈EH):∀y∈x.2,aE y:=(h.S.tr x.2 (AC (f:=λz:Addr×List Str=>z.2) hx)).of.nameP h.G
variable {P:Program}{w:World}{K:zz7}{mg:Str->Option zz9}{base:Heap}{f:Addr}{fd:FuncData}
def gM (r:V):Sp:=λvs H Q _=>∃(v pa ra th:Addr) (ps:List Str) (rs:List T) (root:Str) (EH:List (Addr×List Str)),vs=[.ref v,.str root,.ref th]/\ck H v pa ra th ps rs root EH/\∀H',af H H'->Q r H'
abbrev N34:List Str:=["web","root","thing","ties"]
theorem qz:aH N34 ["web","root","thing"] (aC (top 34)):=⟨rfl,rfl,rfl,by decide +kernel,rfl,by decide +kernel,by decide +kernel⟩
theorem rD (F:EW K "is_shares" "is_shares" (top 34) f fd) (B:Bl mg) (F1:Fn P w K mg base 3 "spans" ["web","root","thing"] (nR (.bl true))):aD P w K mg base EU 4 f fd ["web","root","thing"] (gM (.bl true)):=by
 refine F.ok qz (λvs H Q E h=>?_) (λ_ _ _ _ H vs Q E hr h=>?_)
 ·obtain⟨v,pa,ra,th,ps,rs,root,EH,rfl,_⟩:=h
  rfl
 ·obtain⟨v,pa,ra,th,ps,rs,root,EH,rfl,S,k⟩:=h
  refine' ⟨_,?d0,?main⟩
  case' d0=>refine' ak (aS (PW.pt (cq (bS (bM (au (dA (T:="list")) rfl B.isinstance dz (aa (pv 2) (aa (dC (v:=.ty "list") rfl B.list eX rfl) ae)))))
    (cw (bS (bM (au (eU rfl) rfl B.all eZ (aa (aZ (N:=["tree","web","root"]) (ix:=[none,some 0,some 1]) ⟨rfl,rfl,rfl,by decide⟩ rfl (bv (pv 2)) (λ_ _ _ _=>aF 0 (by decide) rfl rfl) (λ_ _ _ _=>bz)
     (λ_ _ _ _=>aq F1 hr (aa (pv 1) (aa (pv 2) (aa (pv 0) ae))))) ae))))))) bT aV) ?d1
  case' d1=>refine' ak (aA (i:=3) qz.nd rfl (Or.inr rfl) (au eP rfl B.sorted da (aa (xy (N:=["tree","tie"]) (ix:=[none,none]) ⟨rfl,rfl,rfl,by decide⟩ rfl (bv (pv 2)) (λ_ _ _ _=>aF 0 (by decide) rfl rfl) (λ_ _ _ _=>bz) (λ_ _ _ _=>iM K (pv 0)) (λ_ _ _ _=>aF 1 (by decide) rfl rfl) (λ_ _ _ _=>bz) (λ_ _ _ _=>pv 1)) ae))) ?d2
  case d2=>exact ar (aM (au (eU rfl) rfl B.all eZ (aa (aZ (N:=["at","ties"]) (ix:=[none,some 3]) ⟨rfl,rfl,rfl,by decide⟩ rfl (mi rfl B.range (aa am (aa (au bb rfl B.len AY (aa (pv 3) ae)) ae))) (λ_ _ _ _=>aF 0 (by decide) rfl rfl) (λ_ _ _ _=>bz)
   (λ_ _ _ _=>cS cj (ax (bD K) (pv 1) (ba iW (pv 0) am) (λ_ _=>rfl)) (ax (bD K) (pv 1) (pv 0) (λ_ _=>rfl)) (aT _))) ae)))
  case main =>
  have h6:=S.n6;have FY:(ah EH).length=EH.length:=by simp
  refine⟨_,rfl,_,_,true,rfl,.lst S.th,rfl,true,rfl,aN ?_⟩
  refine⟨_,rfl,th,rfl,⟨_,EF.of S.th⟩,c9 (xs:=ah EH) (fits (by omega)) (λi ys σ H1=>ys=(List.replicate i true).map V.bl/\af H H1/\∃x,σ=[x,some (.ref v),some (.str root)]) ⟨rfl,af.refl _,_,rfl⟩
   (λi ys σ H1 _ p=>⟨by rw [p.1];simp,EF.of (p.2.1 _ _ S.th)⟩) ?_ ?_⟩
  ·rintro i x ys σ H1 hx ⟨rfl,s1,g,rfl⟩
   obtain⟨y,hy,rfl⟩:=cz hx;have G6:=AB hy;have S1:=S.same s1;refine⟨_,rfl,_,rfl,_,rfl,v,pa,ra,y.1,ps,rs,root,y.2,rfl,⟨S1.W,S1.G,S1.pz,S1.rz,S1.rt,S1.A y G6,(S1.S.tr y.2 (AC (f:=λz:Addr×List Str=>z.2) G6)).of⟩,λH2 s2=>⟨?_,s1.trans s2,_,rfl⟩⟩;rw [Cg,AU];rfl
  rintro ys σ H1 ⟨rfl,s1,g,rfl⟩ al Pl;have s2:=ai (o:=.lst ((List.replicate (ah EH).length true).map V.bl)) s1 Pl;refine⟨al,List.replicate (ah EH).length true,rfl,EF.of ag,_,rfl,?_⟩;have Pu:∀n:Nat,(List.replicate n true).all id=true:=by simp
  rw [Pu];refine aN ?_;generalize upd H1 al (.lst ((List.replicate (ah EH).length true).map V.bl))=H2 at s2 ⊢;have S2:=S.same s2;refine⟨_,rfl,th,rfl,⟨_,EF.of S2.th⟩,ut S2.th S2.A (λi=>by have:=S2.flat i;omega) (λx hx=>by have:=S2.len hx;omega) rfl λfl GQ=>?_⟩;have s3:=ai (o:=.lst (((EH.map (·.2)).flatten).map V.str)) s2 GQ;have TC:((EH.map (·.2)).flatten).length<=42:=by
   have:=S2.flat EH.length
   rwa [B6] at this
  refine⟨fl,_,rfl,EF.of ag,by omega,λES q E8 GJ hq=>?_⟩;have s4:=ai (o:=.lst (ES.map V.str)) s3 hq;have q4:upd (upd H2 fl (.lst (((EH.map (·.2)).flatten).map V.str))) q (.lst (ES.map V.str)) q=some (.lst (ES.map V.str)):=ag;generalize upd (upd H2 fl (.lst (((EH.map (·.2)).flatten).map V.str))) q (.lst (ES.map V.str))=H4 at s4 q4 ⊢;have Fz:ES.Nodup:=E8.nodup_iff.mpr S.S.nd;have RX:(ES.map V.str).length<=42:=by rw [Av,E8.length_eq];exact TC
  refine⟨_,rfl,q,ES.map V.str,rfl,.inl (EF.of q4),1,_,rfl,⟨by decide,by decide,by omega,by omega⟩,eQ (fits (by omega)) (λi ys σ H1=>ys=List.replicate i (.bl true)/\H1=H4/\∃v,σ=[v,some (.ref q)])
   ⟨rfl,rfl,_,rfl⟩ (λi ys σ H1 _ q=>by rw [q.1];simp) ?_ ?_⟩
  ·rintro i ys σ H1 hi ⟨rfl,rfl,v,rfl⟩
   have hl:i + 1 < ES.length:=by rw [Av] at hi;omega
   refine⟨_,rfl,_,rfl,_,_,rfl,rfl,ay (j:=i) (.inl (EF.of q4)) (by omega) (strAt (by omega)) ⟨_,rfl,_,rfl,ay (j:=i + 1) (.inl (EF.of q4)) (by push_cast;omega) (strAt hl) ⟨rfl,?_,rfl,_,rfl⟩⟩⟩;have e:ES[i]≠ES[i + 1]:=Bb.mp Fz i (i + 1) (by omega) hl (by omega);have e2:V.str ES[i]≠V.str ES[i + 1]:=λz=>e (V.str.inj z);show _++[V.bl (!decide (V.str ES[i]=V.str ES[i + 1]))]=_;rw [decide_eq_false e2,Cg];rfl
  ·rintro ys σ H1 ⟨rfl,rfl,v,rfl⟩ q2 Kr
   refine⟨q2,List.replicate _ true,rfl,EF.of (by rw [ag,Cs]),?_⟩;rw [Pu];exact k _ (ai s4 Kr)
theorem zg:aH ["web","root","thing"] ["web","root","thing"] (aC (top 51)):=⟨rfl,rfl,rfl,by decide +kernel,rfl,by decide +kernel,by decide +kernel⟩
theorem qL (F:EW K "need_shares" "need_shares" (top 51) f fd) (F1:Fn P w K mg base 4 "is_shares" ["web","root","thing"] (gM (.bl true))):aD P w K mg base EU 5 f fd ["web","root","thing"] (gM .non):=by
 refine F.ok zg (λvs H Q E h=>?_) (λ_ _ _ _ H vs Q E hr h=>?_)
 ·obtain⟨v,pa,ra,th,ps,rs,root,EH,rfl,_⟩:=h
  rfl
 ·obtain⟨v,pa,ra,th,ps,rs,root,EH,rfl,S,k⟩:=h
  refine⟨_,ar (aS (bS (bM (aq F1 hr (aa (pv 0) (aa (pv 1) (aa (pv 2) ae)))))) bT aV),?_⟩;exact⟨_,rfl,_,rfl,_,rfl,v,pa,ra,th,ps,rs,root,EH,rfl,S,λH1 s1=>⟨true,rfl,aN (k H1 s1)⟩⟩
def km:Sp:=λvs H Q _=>∃(v l pa ra:Addr) (ps ls:List Str) (rs:List (Addr×Row)) (root:Str),vs=[.ref v,.str root,.ref l]/\bA H v pa ra ps rs/\H l=some (.tup (ls.map V.str))/\cB ps ls/\root∉ls/\∀H',af H H'->Q .non H'
theorem zI:aH ["web","root","thing"] ["web","root","thing"] (aC (top 50)):=⟨rfl,rfl,rfl,by decide +kernel,rfl,by decide +kernel,by decide +kernel⟩
theorem qJ (F:EW K "need_lot_without" "need_lot_without" (top 50) f fd) (F1:Fn P w K mg base 4 "need_lot" ["web","thing"] (fu .non)):aD P w K mg base EU 5 f fd ["web","root","thing"] km:=by
 refine F.ok zI (λvs H Q E h=>?_) (λ_ _ _ _ H vs Q E hr h=>?_)
 ·obtain⟨v,l,pa,ra,ps,ls,rs,root,rfl,_⟩:=h
  rfl
 ·obtain⟨v,l,pa,ra,ps,ls,rs,root,rfl,W,hl,L,EV,k⟩:=h
  refine⟨_,ak (bg (aq F1 hr (aa (pv 0) (aa (pv 2) ae)))) (ar (aS (aB cW (pv 1) (pv 2) (by with_unfolding_all rfl)) bT aV)),?_⟩;refine⟨_,rfl,_,rfl,v,l,pa,ra,ps,ls,rs,rfl,W,hl,L,λH1 s1=>⟨_,rfl,_,rfl,l,ls.map V.str,rfl,.inr (EG.of (s1 _ _ hl)),rfl,aW ls,_,rfl,?_⟩⟩;show if FL (.str root) (ls.map V.str)=true then _ else _;rw [aX,decide_eq_false EV];exact aN (k H1 s1)
def pL:Sp:=λvs H Q _=>∃(th na:Addr) (EH:List (Addr×List Str)) (ns:List Str),vs=[.ref th,.ref na]/\H th=some (.lst (ah EH))/\aJ H EH/\EH.length<=60/\(∀x∈EH,x.2.length<=60)/\H na=some (.lst (ns.map V.str)) /\
 ∀(q:Addr) (Gc:List (Addr×List Str)) (H':Hp),af H H'->H q=none->H' q=some (.lst (ah Gc))->aJ H' Gc->Gc.map (·.2)=EH.map (λx=>x.2.filter λy=>decide (y∈ns))->Q (.ref q) H'
theorem za:aH ["trees","names"] ["trees","names"] (aC (top 52)):=⟨rfl,rfl,rfl,by decide +kernel,rfl,by decide +kernel,by decide +kernel⟩
theorem xa (F:EW K "kept_ties" "kept_ties" (top 52) f fd) (B:Bl mg):aD P w K mg base EU 1 f fd ["trees","names"] pL:=by
 refine F.ok za (λvs H Q E h=>?_) (λ_ _ _ _ H vs Q E hr h=>?_)
 ·obtain⟨th,na,EH,ns,rfl,_⟩:=h
  rfl
 ·obtain⟨th,na,EH,ns,rfl,Kq,A0,Td,R8,JW,k⟩:=h
  refine⟨_,ar (aM (aZ (N:=["tree","names"]) (ix:=[none,some 1]) ⟨rfl,rfl,rfl,by decide⟩ rfl (bv (pv 0)) (λ_ _ _ _=>aF 0 (by decide) rfl rfl) (λ_ _ _ _=>bz)
   (λ_ _ _ _=>bP (jx K) rfl B.tuple cv (aa (aZ (N:=["tie","names"]) (ix:=[none,some 1]) ⟨rfl,rfl,rfl,by decide⟩ rfl (iM K (pv 0)) (λ_ _ _ _=>aF 0 (by decide) rfl rfl) (λ_ _ _ _=>bL (aB (cO K) (pv 0) (pv 1) (by with_unfolding_all rfl))) (λ_ _ _ _=>pv 0)) ae)))),?_⟩
  have FY:(ah EH).length=EH.length:=by simp
  refine⟨_,rfl,th,rfl,⟨_,EF.of Kq⟩,c9 (xs:=ah EH) (fits (by omega)) (λi ys σ H1=>(∃Gc:List (Addr×List Str),ys=ah Gc/\aJ H1 Gc/\Gc.map (·.2)=(EH.take i).map (λx=>x.2.filter λy=>decide (y∈ns)))/\af H H1/\∃x,σ=[x,some (.ref na)]) ⟨⟨[],rfl,(λx hx=>nomatch hx),rfl⟩,af.refl _,_,rfl⟩
   (λi ys σ H1 _ p=>⟨by
    obtain⟨⟨Gc,rfl,_,e⟩,_⟩:=p;have:=congrArg List.length e;rw [Av,Av,AW] at this
    rw [Av,this];omega,EF.of (p.2.1 _ _ Kq)⟩) ?_ ?_⟩
  ·rintro i x ys σ H1 hx ⟨⟨Gc,rfl,A1,e1⟩,s1,g,rfl⟩
   obtain⟨t,ht,rfl⟩:=cz hx;have Gk:=AB ht;have t1:=s1 _ _ (A0 t Gk)
   refine⟨_,rfl,t.1,rfl,⟨_,EG.of t1⟩,cE (xs:=t.2.map V.str) (fits (by rw [Av];have:=R8 t Gk;omega)) (λj zs σ H2=>zs=((t.2.take j).filter λy=>decide (y∈ns)).map V.str/\H2=H1/\∃g,σ=[g,some (.ref na)]) ⟨rfl,rfl,_,rfl⟩
    (λj zs σ H2 _ p=>⟨by rw [p.1,Av];exact AV (AL _ _) (by rw [AW];omega),by rw [p.2.1];exact EG.of t1⟩) ?_ ?_⟩
   ·rintro j x zs σ H2 hx ⟨rfl,rfl,g',rfl⟩
    rw [AH] at hx;cases hc:t.2[j]? with
    | none=>rw [hc] at hx;cases hx
    | some z =>
     rw [hc] at hx;cases hx;have tf:=bH (λy:Str=>decide (y∈ns)) t.2 j z hc;refine⟨_,rfl,_,rfl,na,ns.map V.str,rfl,.inl (EF.of (s1 _ _ JW)),rfl,aW ns,_,rfl,?_⟩;show if FL (.str z) (ns.map V.str)=true then _ else _;rw [aX];refine aU (λc=>⟨_,rfl,?_,rfl,_,rfl⟩) (λc=>⟨?_,rfl,_,rfl⟩)
     ·rw [tf,if_pos c];simp
     ·rw [tf,if_neg c];simp
   ·rintro zs σ H2 ⟨rfl,rfl,g',rfl⟩ l1 Gg
    rw [take_all t.2 (by simp)];have s2:=ai (o:=.lst ((t.2.filter λy=>decide (y∈ns)).map V.str)) (af.refl H2) Gg;refine⟨l1,_,rfl,.inl ⟨EF.of ag,λq hq=>?_⟩⟩;have s3:=ai (o:=.tup ((t.2.filter λy=>decide (y∈ns)).map V.str)) s2 hq;refine⟨⟨Gc++[(q,t.2.filter λy=>decide (y∈ns))],by simp [ah],λx hx=>?_,?_⟩,s1.trans s3,_,rfl⟩
    ·rcases AO.mp hx with z | z
     ·exact s3 _ _ (A1 x z)
     ·have e':x=(q,t.2.filter λy=>decide (y∈ns)):=by simpa using z
      subst e';exact ag
    ·rw [AU,e1,Bg,ht,AU];rfl
  ·rintro ys σ H1 ⟨⟨Gc,rfl,A1,e1⟩,s1,g,rfl⟩ q hq
   rw [take_all EH FY] at e1;have s2:=ai (o:=.lst (ah Gc)) (af.refl H1) hq;exact k q Gc _ (s1.trans s2) (s1.free hq) ag (A1.same s2) e1
theorem gy (ls:List Str) (rs:List T):bu ls (rs.map (·.2))=E4 (rs.filter (lead ls)):=by
 unfold bu E4;rw [Cm,Bf];rfl
theorem mV {FC:List T}{R':List Row} (h:FC.map (·.2)=R'):E4 FC=R'.map (·.1):=by
 rw [<- h,Bf];rfl
theorem Good.shrunk {ps ls ps':List Str}{nm:Str}{R:List Row} (G:Good ps R) (h8:ps.length<=60) (hN:aE nm) (E2:nm∉outs ps ls) (hp:ps'.Perm (outs ps ls++[nm])) (hs:ps'.Pairwise FU):Good ps' (br ls nm R):=by
 have ok:=G.rowsOk
 have HQ:∀x∈ps,sb ls nm x∈ps':=λx hx=>hp.mem_iff.mpr (by
  by_cases c:x∈ls
  ·rw [cP c];simp
  ·rw [cg c];exact AZ _ (bF.mpr ⟨hx,c⟩))
 refine⟨λz=>?_,λx hx=>?_,hs,λq hq=>?_,?_,?_,?_⟩
 ·have:nm∈ps':=hp.mem_iff.mpr (by simp)
  rw [z] at this;cases this
 ·rcases AO.mp (hp.mem_iff.mp hx) with h | h
  ·exact G.nm x (bF.mp h).1
  ·rw [Bd.mp h];exact hN
 ·obtain⟨r,hr,rfl,EZ⟩:=dn.mp hq
  obtain⟨h1,h2,h3,_⟩:=G.rn r hr;exact⟨h1,HQ _ h2,HQ _ h3,EZ⟩
 ·rw [fG ok E2]
  unfold stN;exact G.rso.sublist (Bi.map _)
 ·have h1:=hp.length_eq
  rw [Ba] at h1;have h2:(outs ps ls).length<=ps.length:=AL _ _;have h3:[nm].length=1:=rfl;omega
 ·have e:=congrArg List.length (fG ok E2)
  rw [Av] at e;rw [e];unfold stN;rw [Av];exact AV (AL _ _) G.rz
theorem Good.within {ps ls ps':List Str}{nm:Str}{R:List Row} (G:Good ps R) (L:cB ps ls) (h60:ls.length<=60) (hN:aE nm) (E2:nm∉ls) (hp:ps'.Perm (ls++[nm])) (hs:ps'.Pairwise FU):Good ps' (bo ls nm R):=by
 refine⟨λz=>?_,λx hx=>?_,hs,λq hq=>?_,?_,?_,?_⟩
 ·have:nm∈ps':=hp.mem_iff.mpr (by simp)
  rw [z] at this;cases this
 ·rcases AO.mp (hp.mem_iff.mp hx) with h | h
  ·exact L.nm x h
  ·rw [Bd.mp h];exact hN
 ·obtain⟨r,hr,hl,rfl⟩:=dm.mp hq
  obtain⟨h1,h2,h3,h4⟩:=G.rn r hr;refine⟨h1,hp.mem_iff.mpr ?_,hp.mem_iff.mpr (AZ _ hl),?_⟩
  ·show (if r.2.1∈ls then r.2.1 else nm)∈_
   by_cases c:r.2.1∈ls
   ·rw [if_pos c];exact AZ _ c
   ·rw [if_neg c];simp
  ·show (if r.2.1∈ls then r.2.1 else nm)≠r.2.2
   by_cases c:r.2.1∈ls
   ·rw [if_pos c];exact h4
   ·rw [if_neg c];exact λz=>E2 (z ▸ hl)
 ·rw [fF]
  unfold FM;exact G.rso.sublist (Bi.map _)
 ·have h1:=hp.length_eq
  rw [Ba] at h1;have h3:[nm].length=1:=rfl;omega
 ·have e:=congrArg List.length (fF (ls:=ls) (nm:=nm) (R:=R))
  rw [Av] at e;rw [e];unfold FM;rw [Av];exact AV (AL _ _) G.rz
def mK:Sp:=λvs H Q _=>∃(v pa ra th l:Addr) (ps ls:List Str) (rs:List T) (root:Str) (EH:List (Addr×List Str)),vs=[.ref v,.str root,.ref l,.ref th]/\ck H v pa ra th ps rs root EH/\H l=some (.tup (ls.map V.str))/\cB ps ls/\root∉ls/\(bu ls (rs.map (·.2))).length=EH.length /\
 ∀(q oa ia:Addr) (EN EE:List (Addr×List Str)) (H':Hp),af H H'->H' q=some (.tup [.ref oa,.ref ia])->H oa=none->H ia=none->oa≠ia->H' oa=some (.lst (ah EN))->aJ H' EN->EN.map (·.2)=EH.map (λx=>x.2.filter λy=>decide (y∈stN ls (rs.map (·.2))))->H' ia=some (.lst (ah EE))->aJ H' EE->EE.map (·.2)=EH.map (λx=>x.2.filter λy=>decide (y∈FM ls (rs.map (·.2))))->Q (.ref q) H'
abbrev N53:List Str:=["web","root","lot","trees","outer","inner"]
theorem kT:aH N53 ["web","root","lot","trees"] (aC (top 53)):=⟨rfl,rfl,rfl,by decide +kernel,rfl,by decide +kernel,by decide +kernel⟩
theorem tQ (F:EW K "parted" "parted" (top 53) f fd) (B:Bl mg) (F1:Fn P w K mg base 4 "need_web" ["thing"] (eK .non)) (F2:Fn P w K mg base 2 "need_place" ["web","thing"] ik) (F3:Fn P w K mg base 5 "need_lot_without" ["web","root","thing"] km) (F4:Fn P w K mg base 5 "need_shares" ["web","root","thing"] (gM .non))
  (F5:Fn P w K mg base 5 "leading_in" ["web","lot"] iY) (F6:Fn P w K mg base 1 "kept_ties" ["trees","names"] pL) (F7:Fn P w K mg base 1 "tie_names" ["web"] oY) (F8:Fn P w K mg base 5 "shrunk" ["web","lot","name"] gx) (F9:Fn P w K mg base 5 "within" ["web","lot","name"] gz):aD P w K mg base EU 6 f fd ["web","root","lot","trees"] mK:=by
 refine F.ok kT (λvs H Q E h=>?_) (λ_ _ _ _ H vs Q E hr h=>?_)
 ·obtain⟨v,pa,ra,th,l,ps,ls,rs,root,EH,rfl,_⟩:=h
  rfl
 ·obtain⟨v,pa,ra,th,l,ps,ls,rs,root,EH,rfl,S,hl,L,FV,hm,k⟩:=h
  have MF:aQ 4 _:=hr.mono (by decide);have Ge:aQ 2 _:=hr.mono (by decide);have E7:aQ 1 _:=hr.mono (by decide);refine' ⟨_,?d0,?main⟩
  case' d0=>refine' ak (bg (aq F1 MF (aa (pv 0) ae))) ?d1
  case' d1=>refine' ak (bg (aq F2 Ge (aa (pv 0) (aa (pv 1) ae)))) ?d2
  case' d2=>refine' ak (bg (aq F3 hr (aa (pv 0) (aa (pv 1) (aa (pv 2) ae))))) ?d3
  case' d3=>refine' ak (bg (aq F4 hr (aa (pv 0) (aa (pv 1) (aa (pv 3) ae))))) ?d4
  case' d4=>refine' ak (aS (aB cj (au bb rfl B.len AY (aa (aq F5 hr (aa (pv 0) (aa (pv 2) ae))) ae)) (au bb rfl B.len AY (aa (pv 3) ae)) (aT _)) bT aV) ?d5
  case' d5=>refine' ak (aA (i:=4) kT.nd rfl (Or.inl rfl) (aq F6 E7 (aa (pv 3) (aa (aq F7 E7 (aa (aq F8 hr (aa (pv 0) (aa (pv 2) (aa (ax aG (pv 2) am (λ_ _=>rfl)) ae)))) ae)) ae)))) ?d6
  case' d6=>refine' ak (aA (i:=5) kT.nd rfl (Or.inl rfl) (aq F6 E7 (aa (pv 3) (aa (aq F7 E7 (aa (aq F9 hr (aa (pv 0) (aa (pv 2) (aa (pv 1) ae)))) ae)) ae)))) ?d7
  case d7=>exact ar (aM (cf (aa (pv 4) (aa (pv 5) ae))))
  case main =>
  have OG:=S.pz;have Hr:=S.rz;have h6:=S.n6;have ok:=S.G.rowsOk;have We:ls.length<=8:=AV (cF (bU L.so) L.sub) S.pz;obtain⟨x0,xt,els⟩:∃x t,ls=x::t:=by
   cases e:ls with
   | nil=>exact absurd e L.ne
   | cons x t=>exact⟨x,t,rfl⟩
  have Nv:x0∈ls:=by rw [els];exact AJ
  refine⟨_,rfl,v,pa,ra,ps,rs,rfl,S.W,S.G,λH1 s1=>⟨_,rfl,_,rfl,v,pa,ra,ps,rs,root,rfl,S.W.same s1,S.rt,?_⟩⟩;have S1:=S.same s1;refine⟨_,rfl,_,rfl,_,rfl,v,l,pa,ra,ps,ls,rs,root,rfl,S1.W,s1 _ _ hl,L,FV,λH2 s2=>?_⟩;have FN:=s1.trans s2;refine⟨_,rfl,_,rfl,_,rfl,v,pa,ra,th,ps,rs,root,EH,rfl,S.same FN,λH3 s3=>?_⟩;have Jf:=FN.trans s3;have S3:=S.same Jf;refine⟨_,rfl,_,rfl,v,l,pa,ra,ps,ls,rs,rfl,S3.W,S3.G,Jf _ _ hl,L,λen H4 s4 Hz e4=>⟨en,_,rfl,.inl (EF.of e4),_,rfl,th,_,rfl,.inl (EF.of ((S.same (Jf.trans s4)).th)),rfl,_,rfl,?_⟩⟩;have GB:=Jf.trans s4;have S4:=S.same GB;have eq1:(!decide (V.int (((E4 (rs.filter (lead ls))).map V.str).length:Int)=V.int ((ah EH).length:Int)))=false:=by
   rw [Av,<- gy,hm,Av];simp
  rw [eq1];refine aN ?_;refine⟨_,rfl,_,rfl,_,rfl,_,rfl,ay (j:=0) (.inr (EG.of (GB _ _ hl))) rfl (show (ls.map V.str)[0]?=some (.str x0) by rw [els];rfl) ⟨v,pa,ra,l,ps,ls,x0,rs,rfl,S4.W,S4.G,GB _ _ hl,L,L.nm x0 Nv,(λz=>(bF.mp z).2 Nv),by omega,λv5 X8 XS X3 Lk H5 s5 hv5 W5 e5 hp5 ZF=>?_⟩⟩;have JT:=GB.trans s5;have WO:E4 Lk=stN ls (rs.map (·.2)):=by rw [mV e5,fG ok λz=>(bF.mp z).2 Nv]
  have z5:Lk.length<=100:=by
   have:=congrArg List.length WO;rw [E4,Av] at this;rw [this];unfold stN;rw [Av];refine AV (AL _ _) ?_;rw [Av];omega
  refine⟨v5,X8,XS,X3,Lk,rfl,W5,z5,λn5 KA=>?_⟩;have s6:=ai (o:=.lst ((E4 Lk).map V.str)) JT KA;have n6:upd H5 n5 (.lst ((E4 Lk).map V.str)) n5=some (.lst ((E4 Lk).map V.str)):=ag;generalize upd H5 n5 (.lst ((E4 Lk).map V.str))=H6 at s6 n6 ⊢;have S6:=S.same s6;refine⟨th,n5,EH,E4 Lk,rfl,S6.th,S6.A,by omega,λx hx=>by have:=S6.len hx;omega,n6,λoa EN H7 s7 SU o7 O7 eo=>?_⟩;rw [WO] at eo;have Md:=s6.trans s7;have S7:=S.same Md;refine⟨_,rfl,_,rfl,_,rfl,_,rfl,v,pa,ra,l,ps,ls,root,rs,rfl,S7.W,S7.G,Md _ _ hl,L,S.G.nm root S.rt,FV,by omega,λv8 X7 XR X2 Lj H8 s8 hv8 W8 e8 hp8 ZE=>?_⟩;have WN:E4 Lj=FM ls (rs.map (·.2)):=by rw [mV e8,fF]
  have z8:Lj.length<=100:=by
   have:=congrArg List.length WN;rw [E4,Av] at this;rw [this];unfold FM;rw [Av];refine AV (AL _ _) ?_;rw [Av];omega
  refine⟨v8,X7,XR,X2,Lj,rfl,W8,z8,λn8 ZT=>?_⟩;have Qd:=ai (o:=.lst ((E4 Lj).map V.str)) s8 ZT;have n9:upd H8 n8 (.lst ((E4 Lj).map V.str)) n8=some (.lst ((E4 Lj).map V.str)):=ag;generalize upd H8 n8 (.lst ((E4 Lj).map V.str))=H9 at Qd n9 ⊢;have Iw:=Md.trans Qd;have S9:=S.same Iw;refine⟨th,n8,EH,E4 Lj,rfl,S9.th,S9.A,by omega,λx hx=>by have:=S9.len hx;omega,n9,λia EE E5 E3 LI Zh IV ei=>?_⟩;rw [WN] at ei;refine⟨_,rfl,_,rfl,by show 2<=sizeLine;decide,λq hq=>?_⟩;have Fy:=ai (o:=.tup [.ref oa,.ref ia]) (af.refl E5) hq;have UV:=Qd.trans (E3.trans Fy);refine k q oa ia EN EE _ (Iw.trans (E3.trans Fy)) ag (s6.free SU) (Iw.free LI) (λz=>?_) (UV _ _ o7) (O7.same UV) eo (Fy _ _ Zh) (IV.same Fy) ei;rw [<- z,Qd _ _ o7] at LI;cases LI
structure cC (H:Hp) (v pa ra l oa ia:Addr) (ps ls:List Str) (rs:List T) (root nm:Str) (EN EE:List (Addr×List Str)):Prop where
 W:bA H v pa ra ps rs
 G:Good ps (rs.map (·.2))
 pz:ps.length<=7
 rz:rs.length<=40
 rt:root∈ps
 hl:H l=some (.tup (ls.map V.str))
 L:cB ps ls
 rl:root∉ls
 nN:aE nm
 nn:nm∉ps
 o:H oa=some (.lst (ah EN))
 O:aJ H EN
 i:H ia=some (.lst (ah EE))
 I:aJ H EE
 n6:(bu ls (rs.map (·.2))).length<=6
 no:(bu ls (rs.map (·.2))).length=EN.length
 ni:(bu ls (rs.map (·.2))).length=EE.length
 So:∀ps',ps'.Perm (outs ps ls++[nm])->FP root ps' (br ls nm (rs.map (·.2))) (EN.map (·.2))
 Si:∀ps',ps'.Perm (ls++[nm])->FP nm ps' (bo ls nm (rs.map (·.2))) (EE.map (·.2))
theorem cC.same {H H':Hp}{v pa ra l oa ia:Addr}{ps ls:List Str}{rs:List T}{root nm:Str}{EN EE:List (Addr×List Str)} (h:cC H v pa ra l oa ia ps ls rs root nm EN EE) (s:af H H'):cC H' v pa ra l oa ia ps ls rs root nm EN EE :=
 ⟨h.W.same s,h.G,h.pz,h.rz,h.rt,s _ _ h.hl,h.L,h.rl,h.nN,h.nn,s _ _ h.o,h.O.same s,s _ _ h.i,h.I.same s,h.n6,h.no,h.ni,h.So,h.Si⟩
def mH:Sp:=λvs H Q _=>∃(v pa ra l oa ia:Addr) (ps ls:List Str) (rs:List T) (root nm:Str) (EN EE:List (Addr×List Str)),vs=[.ref v,.str root,.ref l,.ref oa,.ref ia,.str nm]/\cC H v pa ra l oa ia ps ls rs root nm EN EE/\∀H',af H H'->Q .non H'
abbrev N54:List Str:=["web","root","lot","outer","inner","name","many"]
theorem qC:aH N54 ["web","root","lot","outer","inner","name"] (aC (top 54)):=⟨rfl,rfl,rfl,by decide +kernel,rfl,by decide +kernel,by decide +kernel⟩
theorem cC.shrunk {H:Hp}{v pa ra l oa ia:Addr}{ps ls:List Str}{rs:List T}{root nm:Str}{EN EE:List (Addr×List Str)} (h:cC H v pa ra l oa ia ps ls rs root nm EN EE) {H':Hp} (s:af H H') {v' Gp Gn:Addr}{ps':List Str}{FC:List T} (W':bA H' v' Gp Gn ps' FC) (e:FC.map (·.2)=br ls nm (rs.map (·.2))) (hp:ps'.Perm (outs ps ls++[nm])) (hs:ps'.Pairwise FU):ck H' v' Gp Gn oa ps' FC root EN:=by
 have Fo:nm∉outs ps ls:=λz=>h.nn (bF.mp z).1;have G':=h.G.shrunk (by have:=h.pz;omega) h.nN Fo hp hs;have hl:FC.length<=40:=by
  have e1:=congrArg List.length e;rw [Av] at e1;have e2:=congrArg List.length (fG h.G.rowsOk Fo);rw [Av] at e2;rw [e1,e2];unfold stN;rw [Av];refine AV (AL _ _) ?_;rw [Av];exact h.rz
 have Gu:ps'.length<=8:=by
  have h1:=hp.length_eq;rw [Ba] at h1;have h2:(outs ps ls).length<=ps.length:=AL _ _;have h3:[nm].length=1:=rfl;have:=h.pz;omega
 exact⟨W',by rw [e];exact G',Gu,hl,hp.mem_iff.mpr (AZ _ (bF.mpr ⟨h.rt,h.rl⟩)),s _ _ h.o,h.O.same s,by have:=h.no;have:=h.n6;omega,by rw [e];exact h.So ps' hp⟩
theorem cC.within {H:Hp}{v pa ra l oa ia:Addr}{ps ls:List Str}{rs:List T}{root nm:Str}{EN EE:List (Addr×List Str)} (h:cC H v pa ra l oa ia ps ls rs root nm EN EE) {H':Hp} (s:af H H') {v' Gp Gn:Addr}{ps':List Str}{FC:List T} (W':bA H' v' Gp Gn ps' FC) (e:FC.map (·.2)=bo ls nm (rs.map (·.2))) (hp:ps'.Perm (ls++[nm])) (hs:ps'.Pairwise FU):ck H' v' Gp Gn ia ps' FC nm EE:=by
 have JV:nm∉ls:=λz=>h.nn (h.L.sub nm z);have We:ls.length<=ps.length:=cF (bU h.L.so) h.L.sub;have Zk:=h.pz;have G':=h.G.within h.L (by omega) h.nN JV hp hs;have hl:FC.length<=40:=by
  have e1:=congrArg List.length e;rw [Av] at e1;have e2:=congrArg List.length (fF (ls:=ls) (nm:=nm) (R:=rs.map (·.2)));rw [Av] at e2;rw [e1,e2];unfold FM;rw [Av];refine AV (AL _ _) ?_;rw [Av];exact h.rz
 have Gu:ps'.length<=8:=by
  have h1:=hp.length_eq;rw [Ba] at h1;have h3:[nm].length=1:=rfl;omega
 exact⟨W',by rw [e];exact G',Gu,hl,hp.mem_iff.mpr (by simp),s _ _ h.i,h.I.same s,by have:=h.ni;have:=h.n6;omega,by rw [e];exact h.Si ps' hp⟩
theorem uH (F:EW K "need_halves" "need_halves" (top 54) f fd) (B:Bl mg) (F4:Fn P w K mg base 5 "need_shares" ["web","root","thing"] (gM .non))
  (F5:Fn P w K mg base 5 "leading_in" ["web","lot"] iY) (F8:Fn P w K mg base 5 "shrunk" ["web","lot","name"] gx) (F9:Fn P w K mg base 5 "within" ["web","lot","name"] gz):aD P w K mg base EU 6 f fd ["web","root","lot","outer","inner","name"] mH:=by
 refine F.ok qC (λvs H Q E h=>?_) (λ_ _ _ _ H vs Q E hr h=>?_)
 ·obtain⟨v,pa,ra,l,oa,ia,ps,ls,rs,root,nm,EN,EE,rfl,_⟩:=h
  rfl
 ·obtain⟨v,pa,ra,l,oa,ia,ps,ls,rs,root,nm,EN,EE,rfl,Vh,k⟩:=h
  refine' ⟨_,?d0,?main⟩
  case' d0=>refine' ak (bg (aq F4 hr (aa (aq F8 hr (aa (pv 0) (aa (pv 2) (aa (pv 5) ae)))) (aa (pv 1) (aa (pv 3) ae))))) ?d1
  case' d1=>refine' ak (bg (aq F4 hr (aa (aq F9 hr (aa (pv 0) (aa (pv 2) (aa (pv 5) ae)))) (aa (pv 5) (aa (pv 4) ae))))) ?d2
  case' d2=>refine' ak (aA (i:=6) qC.nd rfl (Or.inl rfl) (au bb rfl B.len AY (aa (aq F5 hr (aa (pv 0) (aa (pv 2) ae))) ae))) ?d3
  case d3=>exact ar (aS (PW.pt (cq (aB cj (au bb rfl B.len AY (aa (pv 3) ae)) (pv 6) (aT _)) (cw (aB cj (au bb rfl B.len AY (aa (pv 4) ae)) (pv 6) (aT _))))) bT aV)
  case main =>
  have We:ls.length<=ps.length:=cF (bU Vh.L.so) Vh.L.sub;have Zk:=Vh.pz;refine⟨_,rfl,_,rfl,_,rfl,v,pa,ra,l,ps,ls,nm,rs,rfl,Vh.W,Vh.G,Vh.hl,Vh.L,Vh.nN,(λz=>Vh.nn (bF.mp z).1),by omega,λv1 Qp Qh Np Nn H1 s1 _ W1 e1 SN Mz=>?_⟩;have S1:=Vh.shrunk s1 W1 e1 SN Mz;refine⟨_,rfl,_,rfl,v1,Qp,Qh,oa,Np,Nn,root,EN,rfl,S1,λH2 s2=>?_⟩;have FN:=s1.trans s2;have V2:=Vh.same FN;refine⟨_,rfl,_,rfl,_,rfl,v,pa,ra,l,ps,ls,nm,rs,rfl,V2.W,V2.G,V2.hl,V2.L,V2.nN,(λz=>Vh.nn (Vh.L.sub nm z)),by omega,λv3 X9 XT X4 XQ H3 s3 _ W3 e3 ZM SA=>?_⟩;have S3:=V2.within s3 W3 e3 ZM SA;refine⟨_,rfl,_,rfl,v3,X9,XT,ia,X4,XQ,nm,EE,rfl,S3,λH4 s4=>?_⟩;have GB:=FN.trans (s3.trans s4);have V4:=Vh.same GB;refine⟨_,rfl,_,rfl,v,l,pa,ra,ps,ls,rs,rfl,V4.W,V4.G,V4.hl,V4.L,λen H5 s5 Hz e5=>⟨en,_,rfl,.inl (EF.of e5),?_⟩⟩;have V5:=V4.same s5;have el:(((E4 (rs.filter (lead ls))).map V.str).length:Int)=(EN.length:Int):=by rw [Av,<- gy,Vh.no]
  refine⟨_,rfl,oa,_,rfl,.inl (EF.of V5.o),_,rfl,rfl,_,rfl,?_⟩;have q1:(!decide (V.int ((ah EN).length:Int)=V.int (((E4 (rs.filter (lead ls))).map V.str).length:Int)))=false:=by rw [el,Av];simp
  rw [q1];refine aN ?_;refine⟨_,rfl,ia,_,rfl,.inl (EF.of V5.i),_,rfl,rfl,_,rfl,?_⟩;have q2:(!decide (V.int ((ah EE).length:Int)=V.int (((E4 (rs.filter (lead ls))).map V.str).length:Int)))=false:=by rw [el,Av,<- Vh.ni,Vh.no];simp
  rw [q2];exact aN (k _ (GB.trans s5))
def pe:Sp:=λvs H Q _=>∃(t ia ea:Addr) (O E:List Str) (EE:List (Addr×List Str)) (sh:Str) (I:List Str),vs=[.ref t,.ref ia,.ref ea]/\H t=some (.tup (O.map V.str))/\H ia=some (.lst (ah EE))/\aJ H EE/\H ea=some (.lst (E.map V.str))/\O.length<=20/\EE.length<=20/\(∀x∈EE,x.2.length<=20)/\O.Nodup/\I.Nodup /\
 O.find? (λx=>decide (x∈E))=some sh/\(EE.map (·.2)).find? (λI=>decide (sh∈I))=some I/\(∀x,x∈O->x∈I->x=sh) /\
 ∀(q:Addr) (J:List Str) (H':Hp),af H H'->H' q=some (.tup (J.map V.str))->IK E (EE.map (·.2)) O J->Q (.ref q) H'
abbrev N55:List Str:=["tree","inner","entering","shared","other"]
theorem kI:aH N55 ["tree","inner","entering"] (aC (top 55)):=⟨rfl,rfl,rfl,by decide +kernel,rfl,by decide +kernel,by decide +kernel⟩
theorem tU (F:EW K "joined" "joined" (top 55) f fd) (B:Bl mg):aD P w K mg base EU 1 f fd ["tree","inner","entering"] pe:=by
 refine F.ok kI (λvs H Q E h=>?_) (λ_ _ _ _ H vs Q E hr h=>?_)
 ·obtain⟨t,ia,ea,O,E',EE,sh,I,rfl,_⟩:=h
  rfl
 ·obtain⟨t,ia,ea,O,E',EE,sh,I,rfl,ht,LI,A0,hea,aau,Z6,Sa,hOn,hIn,f1,f2,hx,k⟩:=h
  refine' ⟨_,?d0,?main⟩
  case' d0=>refine' ak (aA (i:=3) kI.nd rfl (Or.inr rfl) (ax aG (aZ (N:=["tie","entering"]) (ix:=[none,some 2]) ⟨rfl,rfl,rfl,by decide⟩ rfl (bC (pv 0)) (λ_ _ _ _=>aF 0 (by decide) rfl rfl) (λ_ _ _ _=>bL (aB (cO K) (pv 0) (pv 1) (by with_unfolding_all rfl))) (λ_ _ _ _=>pv 0)) am (λ_ _=>rfl))) ?d1
  case' d1=>refine' ak (aA (i:=4) kI.nd rfl (Or.inl rfl) (ax aG (aZ (N:=["one","shared"]) (ix:=[none,some 3]) ⟨rfl,rfl,rfl,by decide⟩ rfl (bv (pv 1)) (λ_ _ _ _=>aF 0 (by decide) rfl rfl) (λ_ _ _ _=>bL (aB (cO K) (pv 1) (pv 0) (by with_unfolding_all rfl))) (λ_ _ _ _=>pv 0)) am (λ_ _=>rfl))) ?d2
  case d2=>exact ar (aM (bP c8 rfl B.tuple cv (aa (au eP rfl B.sorted da (aa (ba dF (bP fC rfl B.list eX (aa (pv 0) ae)) (aZ (N:=["tie","shared"]) (ix:=[none,some 3]) ⟨rfl,rfl,rfl,by decide⟩ rfl (bC (pv 4)) (λ_ _ _ _=>aF 0 (by decide) rfl rfl) (λ_ _ _ _=>bL (aB cj (pv 0) (pv 1) (aT _))) (λ_ _ _ _=>pv 0))) ae)) ae)))
  case main =>
  refine⟨_,rfl,t,rfl,⟨_,EG.of ht⟩,cE (xs:=O.map V.str) (fits (by rw [Av];omega)) (λj zs σ H2=>zs=((O.take j).filter λy=>decide (y∈E')).map V.str/\H2=H/\∃g,σ=[g,some (.ref ea)]) ⟨rfl,rfl,_,rfl⟩
    (λj zs σ H2 _ p=>⟨by rw [p.1,Av];exact AV (AL _ _) (by rw [AW];omega),by rw [p.2.1];exact EG.of ht⟩) ?_ ?_⟩
  ·rintro j x zs σ H2 Fm ⟨rfl,rfl,g',rfl⟩
   rw [AH] at Fm;cases hc:O[j]? with
   | none=>rw [hc] at Fm;cases Fm
   | some z =>
    rw [hc] at Fm;cases Fm;have tf:=bH (λy:Str=>decide (y∈E')) O j z hc;refine⟨_,rfl,_,rfl,ea,E'.map V.str,rfl,.inl (EF.of hea),rfl,aW E',_,rfl,?_⟩;show if FL (.str z) (E'.map V.str)=true then _ else _;rw [aX];refine aU (λc=>⟨_,rfl,?_,rfl,_,rfl⟩) (λc=>⟨?_,rfl,_,rfl⟩)
    ·rw [tf,if_pos c];simp
    ·rw [tf,if_neg c];simp
  rintro zs σ H2 ⟨rfl,rfl,g',rfl⟩ l1 Gg;rw [take_all O (by simp)];have s3:=ai (o:=.lst ((O.filter λy=>decide (y∈E')).map V.str)) (af.refl H2) Gg;refine ay (j:=0) (.inl (EF.of ag)) rfl (show ((O.filter λy=>decide (y∈E')).map V.str)[0]?=some (.str sh) by rw [AH,fP,f1];rfl) ?_;generalize upd H2 l1 (.lst ((O.filter λy=>decide (y∈E')).map V.str))=H3 at s3 ⊢;have FY:(ah EE).length=EE.length:=by simp
  refine⟨_,rfl,ia,rfl,⟨_,EF.of (s3 _ _ LI)⟩,fH (xs:=ah EE) (fits (by omega)) (λj zs σ H4=>zs=ah ((EE.take j).filter λx=>decide (sh∈x.2))/\H4=H3/\∃g,σ=[g,some (.str sh)]) ⟨rfl,rfl,_,rfl⟩
    (λj zs σ H4 _ p=>⟨by rw [p.1,Av];exact AV (AL _ _) (by rw [AW];omega),by rw [p.2.1];exact EF.of (s3 _ _ LI)⟩) ?_ ?_⟩
  ·rintro j x zs σ H4 Fm ⟨rfl,rfl,g',rfl⟩
   obtain⟨y,hy,rfl⟩:=cz Fm;have G6:=AB hy;have tf:=bH (λx:Addr×List Str=>decide (sh∈x.2)) EE j y hy;refine⟨_,rfl,_,rfl,y.1,y.2.map V.str,rfl,.inr (EG.of (s3 _ _ (A0 y G6))),rfl,aW y.2,_,rfl,?_⟩;show if FL (.str sh) (y.2.map V.str)=true then _ else _;rw [aX];refine aU (λc=>⟨_,rfl,?_,rfl,_,rfl⟩) (λc=>⟨?_,rfl,_,rfl⟩)
   ·rw [tf,if_pos c];simp
   ·rw [tf,if_neg c];simp
  rintro zs σ H4 ⟨rfl,rfl,g',rfl⟩ l2 MV;have eT:EE.take (ah EE).length=EE:=take_all EE FY;rw [eT];have Tw:∃y,EE.find? (λx=>decide (sh∈x.2))=some y/\y.2=I:=by
   rw [List.find?_map] at f2;cases e:EE.find? ((λI=>decide (sh∈I)) ∘ λx=>x.2) with
   | none=>rw [e] at f2;cases f2
   | some y=>rw [e] at f2;exact⟨y,e,Bx f2⟩
  obtain⟨y,ID,IC⟩:=Tw;have G6:=BU ID;have s5:=ai (o:=.lst (ah (EE.filter λx=>decide (sh∈x.2)))) s3 MV;refine ay (j:=0) (.inl (EF.of ag)) rfl (show (ah (EE.filter λx=>decide (sh∈x.2)))[0]?=some (.ref y.1) by rw [AH,fP,ID];rfl) ?_;generalize upd H4 l2 (.lst (ah (EE.filter λx=>decide (sh∈x.2))))=H5 at s5 ⊢;have y5:=s5 _ _ (A0 y G6);rw [IC] at y5;have Ud:I.length<=20:=by rw [<- IC];exact Sa y G6
  refine⟨_,rfl,t,_,rfl,.inr (EG.of (s5 _ _ ht)),λl3 Wj=>?_⟩;have s6:=ai (o:=.lst (O.map V.str)) s5 Wj;have VC:upd H5 l3 (.lst (O.map V.str)) l3=some (.lst (O.map V.str)):=ag;have y6:upd H5 l3 (.lst (O.map V.str)) y.1=some (.tup (I.map V.str)):=by rw [ao (aR y5 Wj)];exact y5
  generalize upd H5 l3 (.lst (O.map V.str))=H6 at s6 VC y6 ⊢
  refine⟨_,rfl,y.1,rfl,⟨_,EG.of y6⟩,cE (xs:=I.map V.str) (fits (by rw [Av];omega)) (λj zs σ H7=>zs=((I.take j).filter λy=>!decide (y=sh)).map V.str/\H7=H6/\∃g,σ=[g,some (.str sh)]) ⟨rfl,rfl,_,rfl⟩
    (λj zs σ H7 _ p=>⟨by rw [p.1,Av];exact AV (AL _ _) (by rw [AW];omega),by rw [p.2.1];exact EG.of y6⟩) ?_ ?_⟩
  ·rintro j x zs σ H7 Fm ⟨rfl,rfl,g',rfl⟩
   rw [AH] at Fm;cases hc:I[j]? with
   | none=>rw [hc] at Fm;cases Fm
   | some z =>
    rw [hc] at Fm;cases Fm;have tf:=bH (λy:Str=>!decide (y=sh)) I j z hc;refine⟨_,rfl,_,rfl,rfl,_,rfl,?_⟩;have e:(!decide (V.str z=V.str sh))=!decide (z=sh):=by congr 1;exact decide_eq_decide.mpr ⟨λh=>V.str.inj h,λh=>by rw [h]⟩
    rw [e];refine aU (λc=>⟨_,rfl,?_,rfl,_,rfl⟩) (λc=>⟨?_,rfl,_,rfl⟩)
    ·rw [tf,if_pos c];simp
    ·rw [tf,if_neg c];simp
  rintro zs σ H7 ⟨rfl,rfl,g',rfl⟩ l4 ZY;rw [take_all I (by simp)];have s8:=ai (o:=.lst ((I.filter λy=>!decide (y=sh)).map V.str)) (af.refl H7) ZY;have VB:upd H7 l4 (.lst ((I.filter λy=>!decide (y=sh)).map V.str)) l4=some (.lst ((I.filter λy=>!decide (y=sh)).map V.str)):=ag;generalize upd H7 l4 (.lst ((I.filter λy=>!decide (y=sh)).map V.str))=H8 at s8 VB ⊢;have GQ:(I.filter λy=>!decide (y=sh)).length<=20:=AV (AL _ _) Ud;refine⟨l3,l4,O.map V.str,(I.filter λy=>!decide (y=sh)).map V.str,rfl,rfl,s8 _ _ VC,VB,BH (fits (by simp only [Av];omega)),λl5 ZX=>?_⟩;have s9:=ai (o:=.lst (O.map V.str++(I.filter λy=>!decide (y=sh)).map V.str)) s8 ZX;refine⟨l5,O++I.filter (λy=>!decide (y=sh)),rfl,EF.of (by rw [ag,AU]),by rw [Ba];omega,λJ q2 E8 GJ Gf=>?_⟩;have E3:=ai (o:=.lst (J.map V.str)) s9 Gf;refine⟨q2,_,rfl,.inl ⟨EF.of ag,λq hq=>?_⟩⟩;have Fy:=ai (o:=.tup (J.map V.str)) E3 hq;have Q6:sh∈I:=by
   have:=DT ID;rw [IC] at this;exact of_decide_eq_true this
  have Qc:sh∈O:=BU f1
  have hJn:J.Nodup:=E8.nodup_iff.mpr (by
   rw [BF];refine⟨hOn,hIn.filter _,λx Lu y RZ z=>?_⟩;obtain⟨h1,h2⟩:=AM.mp RZ;have:=hx x Lu (z ▸ h1);rw [<- z,this] at h2
   simp at h2)
  refine k q J _ (s6.trans Fy) ag ⟨⟨sh,I,f1,f2,λx=>?_⟩,ez GJ hJn⟩;rw [E8.mem_iff,AO,AM];constructor
  ·rintro (h | h)
   ·exact .inl h
   ·exact .inr h.1
  ·rintro (h | h)
   ·exact .inl h
   ·by_cases c:x=sh
    ·rw [c];exact .inl Qc
    ·exact .inr ⟨h,by simp [c]⟩
theorem cC.tog {H:Hp}{v pa ra l oa ia:Addr}{ps ls:List Str}{rs:List T}{root nm:Str}{EN EE:List (Addr×List Str)} (h:cC H v pa ra l oa ia ps ls rs root nm EN EE) :
  (∀O∈EN.map (·.2),∃sh I,O.find? (λx=>decide (x∈bu ls (rs.map (·.2))))=some sh/\(EE.map (·.2)).find? (λI=>decide (sh∈I))=some I/\(∀x,x∈O->x∈I->x=sh)) /\
  ∀tj:List (List Str),tj.length=(EN.map (·.2)).length->(∀(i:Nat) (O J:List Str),(EN.map (·.2))[i]?=some O->tj[i]?=some J->IK (bu ls (rs.map (·.2))) (EE.map (·.2)) O J)->FP root ps (rs.map (·.2)) tj :=
 FP.together h.G.rowsOk h.rt h.L h.rl h.nn (ps':=outs ps ls++[nm]) (ps'':=ls++[nm]) (λx=>by simp) (λx=>by simp) (h.So _ (Cr _)) (h.Si _ (Cr _)) (h.no.trans (Av (f:=λz:Addr×List Str=>z.2)).symm) (h.ni.trans (Av (f:=λz:Addr×List Str=>z.2)).symm)
theorem eJ.len {root:Str}{ps:List Str}{R:List Row}{ss:List Str} (t:eJ root ps R ss) (ok:∀r∈R,r.2.2∈ps) (hn:(R.map (·.1)).Nodup):ss.length<=ps.length:=by
 have h1:ss.length<=(bp R ss).length:=by
  have:=cF (a:=ss) (b:=(bp R ss).map (·.1)) (bU t.so) λx hx=>by
   obtain⟨r,hr,rfl⟩:=AG.mp (t.nm x hx);exact AC (b9.mpr ⟨hr,hx⟩)
  rwa [Av] at this
 have h2:=cF (a:=(bp R ss).map (·.2.2)) (b:=ps) (Bc.mp t.tr.nd).2 λx hx=>by
  obtain⟨r,hr,rfl⟩:=AG.mp hx;exact ok r (b9.mp hr).1
 rw [Av] at h2;omega
theorem cC.lenO {H:Hp}{v pa ra l oa ia:Addr}{ps ls:List Str}{rs:List T}{root nm:Str}{EN EE:List (Addr×List Str)} (h:cC H v pa ra l oa ia ps ls rs root nm EN EE) {x:Addr×List Str} (hx:x∈EN):x.2.length<=8/\x.2.Nodup:=by
 have Fo:nm∉outs ps ls:=λz=>h.nn (bF.mp z).1;have S:=h.So _ (Cr _);have t:=S.tr x.2 (AC (f:=λz:Addr×List Str=>z.2) hx);refine⟨?_,bU t.so⟩
 have q:=t.len (λr hr=>by
  obtain⟨r0,IA,rfl,_⟩:=dn.mp hr;show sb ls nm r0.2.2∈_
  by_cases c:r0.2.2∈ls
  ·rw [cP c];simp
  ·rw [cg c];exact AZ _ (bF.mpr ⟨(h.G.rowsOk.st r0 IA).2.1,c⟩)) (by rw [fG h.G.rowsOk Fo];unfold stN;exact h.G.rowsOk.nd.sublist (Bi.map _))
 rw [Ba] at q;have h2:(outs ps ls).length<=ps.length:=AL _ _;have h3:[nm].length=1:=rfl;have:=h.pz;omega
theorem cC.lenI {H:Hp}{v pa ra l oa ia:Addr}{ps ls:List Str}{rs:List T}{root nm:Str}{EN EE:List (Addr×List Str)} (h:cC H v pa ra l oa ia ps ls rs root nm EN EE) {x:Addr×List Str} (hx:x∈EE):x.2.length<=8/\x.2.Nodup:=by
 have S:=h.Si _ (Cr _);have t:=S.tr x.2 (AC (f:=λz:Addr×List Str=>z.2) hx);refine⟨?_,bU t.so⟩
 have q:=t.len (λr hr=>by
  obtain⟨r0,IA,hl,rfl⟩:=dm.mp hr
  exact AZ _ hl) (by rw [fF];unfold FM;exact h.G.rowsOk.nd.sublist (Bi.map _))
 rw [Ba] at q;have h2:ls.length<=ps.length:=cF (bU h.L.so) h.L.sub;have h3:[nm].length=1:=rfl;have:=h.pz;omega
def qh:Sp:=λvs H Q _=>∃(v pa ra l oa ia:Addr) (ps ls:List Str) (rs:List T) (root nm:Str) (EN EE:List (Addr×List Str)),vs=[.ref v,.str root,.ref l,.ref oa,.ref ia,.str nm]/\cC H v pa ra l oa ia ps ls rs root nm EN EE /\
 ∀(q:Addr) (Fj:List (Addr×List Str)) (H':Hp),af H H'->H q=none->H' q=some (.lst (ah Fj))->aJ H' Fj->Fj.length=EN.length->(∀(i:Nat) (x y:Addr×List Str),EN[i]?=some x->Fj[i]?=some y->IK (bu ls (rs.map (·.2))) (EE.map (·.2)) x.2 y.2)->Q (.ref q) H'
abbrev N56:List Str:=["web","root","lot","outer","inner","name","entering"]
theorem qt:aH N56 ["web","root","lot","outer","inner","name"] (aC (top 56)):=⟨rfl,rfl,rfl,by decide +kernel,rfl,by decide +kernel,by decide +kernel⟩
theorem rY (F:EW K "together" "together" (top 56) f fd) (B:Bl mg) (F1:Fn P w K mg base 4 "need_web" ["thing"] (eK .non)) (F2:Fn P w K mg base 2 "need_place" ["web","thing"] ik) (F0:Fn P w K mg base 1 "is_name" ["thing"] gJ)
  (F3:Fn P w K mg base 5 "need_lot_without" ["web","root","thing"] km) (F4:Fn P w K mg base 6 "need_halves" ["web","root","lot","outer","inner","name"] mH) (F5:Fn P w K mg base 5 "leading_in" ["web","lot"] iY) (F6:Fn P w K mg base 1 "joined" ["tree","inner","entering"] pe) :
  aD P w K mg base EU 7 f fd ["web","root","lot","outer","inner","name"] qh:=by
 refine F.ok qt (λvs H Q E h=>?_) (λ_ _ _ _ H vs Q E hr h=>?_)
 ·obtain⟨v,pa,ra,l,oa,ia,ps,ls,rs,root,nm,EN,EE,rfl,_⟩:=h
  rfl
 ·obtain⟨v,pa,ra,l,oa,ia,ps,ls,rs,root,nm,EN,EE,rfl,Vh,k⟩:=h
  have VX:aQ 5 _:=hr.mono (by decide);have MF:aQ 4 _:=hr.mono (by decide);have Ge:aQ 2 _:=hr.mono (by decide);have E7:aQ 1 _:=hr.mono (by decide);refine' ⟨_,?d0,?main⟩
  case' d0=>refine' ak (bg (aq F1 MF (aa (pv 0) ae))) ?d1
  case' d1=>refine' ak (bg (aq F2 Ge (aa (pv 0) (aa (pv 1) ae)))) ?d2
  case' d2=>refine' ak (aS (PW.pt (cq (bS (bM (aq F0 E7 (aa (pv 5) ae)))) (cw (aB cW (pv 5) (ax aG (pv 0) am (λ_ _=>rfl)) (by with_unfolding_all rfl))))) bT aV) ?d3
  case' d3=>refine' ak (bg (aq F3 VX (aa (pv 0) (aa (pv 1) (aa (pv 2) ae))))) ?d4
  case' d4=>refine' ak (bg (aq F4 hr (aa (pv 0) (aa (pv 1) (aa (pv 2) (aa (pv 3) (aa (pv 4) (aa (pv 5) ae)))))))) ?d5
  case' d5=>refine' ak (aA (i:=6) qt.nd rfl (Or.inr rfl) (aq F5 VX (aa (pv 0) (aa (pv 2) ae)))) ?d6
  case d6=>exact ar (aM (aZ (N:=["tree","inner","entering"]) (ix:=[none,some 4,some 6]) ⟨rfl,rfl,rfl,by decide⟩ rfl (bv (pv 3)) (λ_ _ _ _=>aF 0 (by decide) rfl rfl) (λ_ _ _ _=>bz) (λ_ _ _ _=>aq F6 E7 (aa (pv 0) (aa (pv 1) (aa (pv 2) ae))))))
  case main =>
  have h6:=Vh.n6;have Fo:=Vh.no;have ZQ:=Vh.ni;obtain⟨tg,_⟩:=Vh.tog;refine⟨_,rfl,v,pa,ra,ps,rs,rfl,Vh.W,Vh.G,λH1 s1=>⟨_,rfl,_,rfl,v,pa,ra,ps,rs,root,rfl,Vh.W.same s1,Vh.rt,?_⟩⟩;refine⟨_,rfl,nm,rfl,Vh.nN,λH2 s2=>⟨true,rfl,aN ?_⟩⟩;have FN:=s1.trans s2;have V2:=Vh.same FN;refine⟨_,rfl,_,rfl,ay (j:=0) (.inr (EG.of V2.W.tp)) rfl rfl ⟨pa,ps.map V.str,rfl,.inr (EG.of V2.W.pl),rfl,aW ps,_,rfl,?_⟩⟩;show if FL (.str nm) (ps.map V.str)=true then _ else _;rw [aX,decide_eq_false Vh.nn];refine aN ?_;refine⟨_,rfl,_,rfl,_,rfl,v,l,pa,ra,ps,ls,rs,root,rfl,V2.W,V2.hl,V2.L,V2.rl,λH3 s3=>?_⟩;have Jf:=FN.trans s3;refine⟨_,rfl,_,rfl,_,rfl,_,rfl,_,rfl,_,rfl,v,pa,ra,l,oa,ia,ps,ls,rs,root,nm,EN,EE,rfl,Vh.same Jf,λH4 s4=>?_⟩;have GB:=Jf.trans s4;have V4:=Vh.same GB;refine⟨_,rfl,_,rfl,v,l,pa,ra,ps,ls,rs,rfl,V4.W,V4.G,V4.hl,V4.L,λen H5 s5 Hz e5=>?_⟩;have JT:=GB.trans s5;have V5:=Vh.same JT;rw [<- gy] at e5;have FY:(ah EN).length=EN.length:=by simp
  refine⟨_,rfl,oa,rfl,⟨_,EF.of V5.o⟩,c9 (xs:=ah EN) (fits (by omega)) (λi ys σ H6=>(∃Fj:List (Addr×List Str),ys=ah Fj/\aJ H6 Fj/\Fj.length=i/\∀(j:Nat) (x y:Addr×List Str),EN[j]?=some x->Fj[j]?=some y->IK (bu ls (rs.map (·.2))) (EE.map (·.2)) x.2 y.2)/\af H5 H6/\∃x,σ=[x,some (.ref ia),some (.ref en)]) ⟨⟨[],rfl,(λx hx=>nomatch hx),rfl,λj x y _ hy=>by simp at hy⟩,af.refl _,_,rfl⟩
   (λi ys σ H6 _ p=>⟨by obtain⟨⟨Fj,rfl,_,rfl,_⟩,_⟩:=p;simp,EF.of (p.2.1 _ _ V5.o)⟩) ?_ ?_⟩
  ·rintro i x ys σ H6 hx ⟨⟨Fj,rfl,A6,FK,hj⟩,s6,g,rfl⟩
   obtain⟨t,ht,rfl⟩:=cz hx;have Gk:=AB ht;have V6:=V5.same s6;obtain⟨sh,I,f1,f2,R0⟩:=tg t.2 (AC (f:=λz:Addr×List Str=>z.2) Gk);have hIm:∃y∈EE,y.2=I:=by
    obtain⟨y,hy,e⟩:=AG.mp (BU f2);exact⟨y,hy,e⟩
   obtain⟨yI,RZ,eI⟩:=hIm;refine⟨_,rfl,_,rfl,_,rfl,t.1,ia,en,t.2,bu ls (rs.map (·.2)),EE,sh,I,rfl,V6.O t Gk,V6.i,V6.I,s6 _ _ e5,by have:=(Vh.lenO Gk).1;omega,by omega,λx hx=>by have:=(Vh.lenI hx).1;omega,(Vh.lenO Gk).2,by rw [<- eI];exact (Vh.lenI RZ).2,f1,f2,R0,λq J H7 s7 q7 PJ=>?_⟩;refine⟨⟨Fj++[(q,J)],by simp [ah],λx hx=>?_,by simp [FK],λj x y Ko HN=>?_⟩,s6.trans s7,_,rfl⟩
   ·rcases AO.mp hx with z | z
    ·exact s7 _ _ (A6 x z)
    ·have e':x=(q,J):=by simpa using z
     subst e';exact q7
   ·rcases CM j Fj.length with c | c
    ·rw [By c] at HN
     exact hj j x y Ko HN
    ·rw [BQ c] at HN
     cases e:j - Fj.length with
     | zero =>
      rw [e] at HN;cases HN;have ej:j=i:=by omega
      rw [ej,ht] at Ko;cases Ko;exact PJ
     | succ n=>rw [e] at HN;simp at HN
  ·rintro ys σ H6 ⟨⟨Fj,rfl,A6,FK,hj⟩,s6,g,rfl⟩ q hq
   have s7:=ai (o:=.lst (ah Fj)) (af.refl H6) hq;have HL:=JT.trans s6;exact k q Fj _ (HL.trans s7) (HL.free hq) ag (A6.same s7) (by omega) hj
theorem pq (xs:List V) {n:Nat} (h:n<=xs.length):cA xs none (some (n:Int))=xs.take n:=by
 unfold cA;have h0:¬ ((n:Int) < 0):=by omega
 have h1:min n xs.length=n:=by omega
 simp [HT.sIx,h0]
 first | done | (rw [h1]) | skip
theorem zO {c:Const}{k:Nat}{p:Pos}{es:List Expr}{env:Env}:starEach (.Constant c k p::es) env=(false,eval (.Constant c k p) env)::starEach es env:=rfl
theorem b6 {X:Cx}{x:Str}{j:Nat}{p:Pos}{es:List Expr}{t:TA} (h:PA X es t):PA X (.Constant (.str x) j p::es) (qa (tC (.str x)) t):=aa dS h zO
def bN:List Str:=["root","source","sink","new","extra","start","end","super"].map Str.ofString
theorem ly:∀x∈bN,aE x:=by
 intro x hx;simp only [bN,Bj,Dk,AI,BM,or_false] at hx
 rcases hx with rfl | rfl | rfl | rfl | rfl | rfl | rfl | rfl
 all_goals exact aE.of_codes rfl (by decide) (by decide) (by decide)
theorem rS:bN.Nodup:=by decide
def Fc (b n:Nat):List Str:=(List.range n).filterMap λk=>bN[(b + k) % 8]?
theorem ir:bN.length=8:=rfl
theorem oN (b k:Nat):bN[(b + k) % 8]?=some (bN[(b + k) % 8]'(by rw [ir];exact Er _ (by decide))):=AD _
theorem jT (b n:Nat):Fc b (n + 1)=Fc b n++[bN[(b + n) % 8]'(by rw [ir];exact Er _ (by decide))]:=by
 unfold Fc;rw [List.range_succ,List.filterMap_append];simp [oN]
theorem j5 (b:Nat):∀n,(Fc b n).length=n
 | 0=>rfl
 | n + 1=>by rw [jT,Ba,j5 b n];rfl
theorem oI {b:Nat}:∀{n:Nat}{x:Str},x∈Fc b n->∃k,k < n/\bN[(b + k) % 8]?=some x
 | n,x,h=>by
  unfold Fc at h;obtain⟨k,hk,e⟩:=D3.mp h;exact⟨k,CS.mp hk,e⟩
theorem lG (b:Nat):∀{n:Nat},n<=8->(Fc b n).Nodup
 | 0,_=>Do
 | n + 1,h=>by
  rw [jT];refine BF.mpr ⟨lG b (by omega),by simp,λx hx y hy=>?_⟩;have ey:y=bN[(b + n) % 8]'(by rw [ir];exact Er _ (by decide)):=by simpa using hy
  obtain⟨k,hk,e⟩:=oI hx;obtain⟨h1,e'⟩:=AE.mp e;intro z;rw [ey,<- e'] at z;have hp:=Bb.mp rS;have EZ:(b + k) % 8≠(b + n) % 8:=by omega
  rcases CK EZ with q | q
  ·exact hp _ _ _ _ q z
  ·exact hp _ _ _ _ q z.symm
theorem vq (b n:Nat):∀x∈Fc b n,aE x:=λx hx=>by
 obtain⟨k,_,e⟩:=oI hx;exact ly x (AB e)
def eO (fo ns:List Str):List Str:=(fo++ns.filter λx=>!decide (x∈fo)).take ns.length
theorem vT {fo ns:List Str} (hf:fo.length<=ns.length) (hn:ns.Nodup):(eO fo ns).length=ns.length:=by
 unfold eO;rw [AW,Ba];have h1:ns.length=(ns.filter λx=>decide (x∈fo)).length + (ns.filter λx=>!decide (x∈fo)).length:=by
  have:=List.length_eq_countP_add_countP (l:=ns) (λx=>decide (x∈fo));rw [CI,CI] at this;simpa using this
 have h2:(ns.filter λx=>decide (x∈fo)).length<=fo.length:=cF (hn.filter _) λx hx=>by simpa using (AM.mp hx).2
 omega
theorem sG {fo ns:List Str} (hf:fo.Nodup) (hn:ns.Nodup):(eO fo ns).Nodup:=by
 unfold eO;refine List.Nodup.sublist (C4 _ _) (BF.mpr ⟨hf,hn.filter _,λx hx y hy z=>?_⟩);have:=(AM.mp hy).2;rw [<- z] at this;simp [hx] at this
theorem ug {fo ns:List Str} (hf:∀x∈fo,aE x) (hn:∀x∈ns,aE x):∀x∈eO fo ns,aE x:=λx hx=>by
 rcases AO.mp (DU hx) with z | z
 ·exact hf x z
 ·exact hn x (AM.mp z).1
theorem lT {cs:List Nat} (h1:1<=cs.length) (h8:cs.length<=8) (h:∀c∈cs,97<=c/\c<=122):aE (Txt.join (Str.ofString "") (cs.map λc=>(⟨#[c]⟩:Str))):=aE.of_codes (join_one cs) h1 h8 h
theorem nc (cs:List Nat):((cs.map λc=>(⟨#[c]⟩:Str)).map (·.length)).sum=cs.length:=by
 induction cs with
 | nil=>rfl
 | cons c r ih=>simp only [Bj,Eh,ih,Bv];show 1 + r.length=_;omega
def iO:Sp:=λvs H Q _=>∃(p na:Addr) (ns:List Str),vs=[.ref p,.ref na]/\E1 H p/\H na=some (.lst (ns.map V.str))/\ns.length<=26/\ns.Nodup/\(∀x∈ns,aE x) /\
 ∀(q:Addr) (ms:List Str) (H':Hp),E1 H' p->H' q=some (.lst (ms.map V.str))->(∀x∈ms,aE x)->ms.Nodup->ms.length=ns.length->Kp [p] H H'->Q (.ref q) H'
abbrev N62:List Str:=["_law_pot_here","_law_names","_law_letters","_law_found","_law_name_here","_law_word"]
theorem gi:aH N62 ["_law_pot_here","_law_names"] (aC (top 62)):=⟨rfl,rfl,rfl,by decide +kernel,rfl,by decide +kernel,by decide +kernel⟩
theorem wn (F:EW K "_law_free" "_law_free" (top 62) f fd) (B:Bl mg) (Ft:Fn P w K mg base 1 "_law_digit" ["_law_pot_here","_law_many"] eG):aD P w K mg base EU 2 f fd ["_law_pot_here","_law_names"] iO:=by
 refine F.ok gi (λvs H Q E h=>?_) (λ_ _ _ _ H vs Q E hr h=>?_)
 ·obtain⟨p,na,ns,rfl,_⟩:=h
  rfl
 ·obtain⟨p,na,ns,rfl,hp,JW,OT,Fz,E2,k⟩:=h
  refine' ⟨_,?d0,?main⟩
  case' d0=>refine' ak (aA (i:=2) gi.nd rfl (Or.inr rfl) dS) ?d1
  case' d1=>refine' ak (aA (i:=3) gi.nd rfl (Or.inl rfl) (bw ae)) ?d2
  case' d2=>refine' ak (bZ Bm rfl (bv (pv 1)) (bc (i:=4) gi.nd rfl (Or.inl rfl)) ?d4) ?d3
  case d3=>exact ar (aM (pv 3))
  case' d4=>refine' ak (aA (i:=5) gi.nd rfl (Or.inl rfl) (cH Dw DI DJ j9 dS (aa (aZ (N:=["_law_turn","_law_letters","_law_pot_here"]) (ix:=[none,some 2,some 0]) ⟨rfl,rfl,rfl,by decide⟩ rfl
    (di rfl B.range (aa (ba dr am (aq Ft hr (aa (pv 0) (aa am ae)))) ae)) (λ_ _ _ _=>aF 0 (by decide) rfl rfl) (λ_ _ _ _=>bz)
    (λ_ _ _ _=>ax (bD K) (pv 1) (aq Ft hr (aa (pv 2) (aa am ae))) (λ_ _=>rfl))) ae))) ?d5
  case' d5=>refine' ak (aS (PW.pt (cq (aB cW (pv 5) (pv 3) (by with_unfolding_all rfl)) (cw (aB cW (pv 5) (pv 1) (by with_unfolding_all rfl))))) (ar (aA (i:=5) gi.nd rfl (Or.inl rfl) (pv 4))) aV) ?d6
  case d6=>exact ar (bg (cH Bo BB BC dj (pv 3) (aa (pv 5) ae)))
  case main =>
  have Nt:=o9 hp JW;refine⟨Be _,λfo FF=>?_⟩;have Hh:=hp.ne_new FF;have P1:=hp.new (o:=.lst []) FF;have K1:=(Kp.refl [p] H).new (o:=.lst []) FF;have f1:upd H fo (.lst []) fo=some (.lst (([]:List Str).map V.str)):=ag;have n1:upd H fo (.lst []) na=some (.lst (ns.map V.str)):=by rw [ao (aR JW FF)];exact JW
  generalize upd H fo (.lst [])=H1 at P1 K1 f1 n1 ⊢
  refine⟨_,rfl,na,rfl,⟨_,EF.of n1⟩,eB (K:=K) (xs:=ns.map V.str) (λi σ H2=>∃(fl:List Str) (g1 g2:Option V),σ=[some (.ref p),some (.ref na),some (.str eE),some (.ref fo),g1,g2]/\E1 H2 p/\Kp [p] H H2/\H2 na=some (.lst (ns.map V.str))/\H2 fo=some (.lst (fl.map V.str))/\fl.length=i/\fl.Nodup/\(∀x∈fl,aE x)/\∀x∈fl,x∈ns.take i\/x∉ns)
   ⟨[],none,none,rfl,P1,K1,n1,f1,rfl,Do,(λx hx=>nomatch hx),λx hx=>nomatch hx⟩ (λi σ H2 _ q=>by obtain⟨_,_,_,_,_,_,n2,_⟩:=q;exact EF.of n2) ?_ ?_⟩
  ·rintro i x σ H2 hx ⟨fl,g1,g2,rfl,P2,K2,n2,f2,EJ,Ig,Tz,Tx⟩
   rw [AH] at hx;cases hc:ns[i]? with
   | none=>rw [hc] at hx;cases hx
   | some z =>
    rw [hc] at hx;cases hx;have hi:i < ns.length:=(AE.mp hc).1;refine⟨rfl,_,rfl,p,8,rfl,P2,by decide,by decide,λr1 H3 a0 a1 P3 Ni=>⟨_,_,rfl,rfl,_,rfl,by omega,by omega,?_⟩⟩;have K3:=K2.trans Ni;have n3:=Ni.at Nt n2;have f3:=Ni.at Hh f2;refine eQ (fits (by omega)) (λi ys σ H4=>(∃cs:List Nat,cs.length=i/\(∀c∈cs,97<=c/\c<=122)/\ys=cs.map λc=>V.str ⟨#[c]⟩)/\E1 H4 p/\Kp [p] H3 H4/\∃x,σ=[x,some (.str eE),some (.ref p)])
     ⟨⟨[],rfl,by simp,rfl⟩,P3,Kp.refl _ _,_,rfl⟩ (λi ys σ H4 _ q=>by obtain⟨⟨cs,rfl,_,rfl⟩,_⟩:=q;simp) ?_ ?_
    ·rintro j ys σ H4 hj ⟨⟨cs,rfl,HG,rfl⟩,P4,K4,v,rfl⟩
     refine⟨_,rfl,_,rfl,p,26,rfl,P4,by decide,by decide,λr H5 r0 r1 P5 K5=>.inr (.inr ⟨eE,r,97 + r.toNat,rfl,rfl,jr,fR (j:=r.toNat) (by omega) (ju (by omega)),⟨cs++[97 + r.toNat],by simp,λc hc=>?_,by simp⟩,P5,K4.trans K5,_,rfl⟩)⟩
     rcases AO.mp hc with z | z
     ·exact HG c z
     ·simp at z
      omega
    rintro ys σ H4 ⟨⟨cs,Ph,HG,rfl⟩,P4,K4,v,rfl⟩ q hq;have Jx:(cs.map λc=>V.str ⟨#[c]⟩)=(cs.map λc=>(⟨#[c]⟩:Str)).map V.str:=by rw [Bf];rfl
    refine⟨Str.ofString "",q,cs.map λc=>(⟨#[c]⟩:Str),rfl,rfl,EF.of (by rw [ag,Jx]),?_,?_⟩
    ·have e0:(Str.ofString "").length=0:=by decide
     rw [nc,e0];omega
    have VO:=lT (cs:=cs) (by omega) (by omega) HG;generalize Txt.join (Str.ofString "") (cs.map λc=>(⟨#[c]⟩:Str))=wd at VO ⊢;have P5:=P4.new (o:=.lst (cs.map λc=>V.str ⟨#[c]⟩)) hq;have QV:=K4.new (o:=.lst (cs.map λc=>V.str ⟨#[c]⟩)) hq;generalize upd H4 q (.lst (cs.map λc=>V.str ⟨#[c]⟩))=H5 at P5 QV ⊢;have n5:=QV.at Nt n3;have f5:=QV.at Hh f3;have K5:=K3.trans QV;have VI:z∉fl:=λhz=>by
     rcases Tx z hz with h | h
     ·have nd:=Fz.sublist (C4 (i + 1) ns)
      rw [Bg,hc] at nd;exact (BF.mp nd).2.2 z h z (by simp) rfl
     ·exact h (AB hc)
    have GI:ns.take (i + 1)=ns.take i++[z]:=by rw [Bg,hc];rfl
    refine⟨_,rfl,_,rfl,fo,fl.map V.str,rfl,.inl (EF.of f5),rfl,aW fl,_,rfl,?_⟩;show if FL (.str wd) (fl.map V.str)=true then _ else _;rw [aX];refine aU (λc=>bK ⟨_,rfl,?p1⟩) (λc=>⟨_,rfl,_,rfl,na,ns.map V.str,rfl,.inl (EF.of n5),rfl,aW ns,_,rfl,?p0⟩)
    case' p0 =>
     show if FL (.str wd) (ns.map V.str)=true then _ else _;rw [aX];refine aU (λd=>⟨_,rfl,?p2⟩) (λd=>?p3)
    case' p1 =>
     have hW:aE z/\z∉fl/\(z∈ns.take (i + 1)\/z∉ns):=⟨E2 z (AB hc),VI,.inl (by rw [GI];simp)⟩
     generalize z=ww at hW ⊢
    case' p2 =>
     have hW:aE z/\z∉fl/\(z∈ns.take (i + 1)\/z∉ns):=⟨E2 z (AB hc),VI,.inl (by rw [GI];simp)⟩
     generalize z=ww at hW ⊢
    case' p3 =>
     have hW:aE wd/\wd∉fl/\(wd∈ns.take (i + 1)\/wd∉ns):=⟨VO,λz=>c (decide_eq_true z),.inr λz=>d (decide_eq_true z)⟩
     generalize wd=ww at hW ⊢
    all_goals
     refine⟨_,rfl,.inl ⟨rfl,_,EF.of f5⟩,_,rfl,fo,fl.map V.str,_,rfl,rfl,f5,fits (by rw [Av];omega),?_⟩;refine⟨fl++[ww],_,_,rfl,P5.upd Hh,λb o e nb=>by rw [ao (aR e FF)];exact K5 b o e nb,by rw [ao (aR JW FF)];exact n5,by rw [ag];simp,by simp [EJ],fe Ig hW.2.1,λx hx=>?_,λx hx=>?_⟩
     ·rcases AO.mp hx with q | q
      ·exact Tz x q
      ·rw [Bd.mp q];exact hW.1
     ·rcases AO.mp hx with q | q
      ·rcases Tx x q with h | h
       ·exact .inl (by rw [GI];exact AZ _ h)
       ·exact .inr h
      ·rw [Bd.mp q];exact hW.2.2
  ·rintro σ H2 ⟨fl,g1,g2,rfl,P2,K2,n2,f2,EJ,Ig,Tz,Tx⟩
   exact⟨_,rfl,k fo fl H2 P2 f2 Tz Ig (by rw [EJ,Av]) K2⟩
abbrev N63:List Str:=["_law_pot_here","_law_names","_law_words","_law_way","_law_begin","_law_found"]
theorem ib:aH N63 ["_law_pot_here","_law_names"] (aC (top 63)):=⟨rfl,rfl,rfl,by decide +kernel,rfl,by decide +kernel,by decide +kernel⟩
theorem vB (F:EW K "_law_named" "_law_named" (top 63) f fd) (B:Bl mg) (Ft:Fn P w K mg base 1 "_law_digit" ["_law_pot_here","_law_many"] eG) (Ff:Fn P w K mg base 2 "_law_free" ["_law_pot_here","_law_names"] iO):aD P w K mg base EU 3 f fd ["_law_pot_here","_law_names"] iO:=by
 refine F.ok ib (λvs H Q E h=>?_) (λ_ _ _ _ H vs Q E hr h=>?_)
 ·obtain⟨p,na,ns,rfl,_⟩:=h
  rfl
 ·obtain⟨p,na,ns,rfl,hp,JW,OT,Fz,E2,k⟩:=h
  have E7:aQ 1 _:=hr.mono (by decide);refine' ⟨_,ak ?s1 ?r1,?main⟩
  case s1 =>
   refine' aA (i:=2) ?nd ?x ?y ?z ?hs ?hf
   case nd=>exact ib.nd
   case x=>exact rfl
   case y=>exact Or.inr rfl
   case hf=>first | exact .inl rfl | exact .inr rfl
   case' z=>refine' bw ?l0
   case l0=>exact b6 (b6 (b6 (b6 (b6 (b6 (b6 (b6 ae)))))))
   case hs=>kernel_rfl
  case r1=>exact (ak (aA (i:=3) ib.nd rfl (Or.inl rfl) (aq Ft E7 (aa (pv 0) (aa am ae))))
   (ak (aS (aB dG (pv 3) am (aT _)) (ar (aM (aq Ff hr (aa (pv 0) (aa (pv 1) ae))))) aV)
   (ak (aS (aB kr (pv 3) am (aT _)) (ar (aM (pv 1))) aV)
   (ak (aA (i:=4) ib.nd rfl (Or.inr rfl) (aq Ft E7 (aa (pv 0) (aa am ae))))
   (ak (aA (i:=5) ib.nd rfl (Or.inr rfl) (aZ (N:=["_law_k","_law_words","_law_begin"]) (ix:=[none,some 2,some 4]) ⟨rfl,rfl,rfl,by decide⟩ rfl
    (di rfl B.range (aa (au (jy rfl) rfl B.min i3 (aa (au bb rfl B.len AY (aa (pv 1) ae)) (aa (ba dr am (aq Ft E7 (aa (pv 0) (aa am ae)))) ae))) ae)) (λ_ _ _ _=>aF 0 (by decide) rfl rfl) (λ_ _ _ _=>bz)
    (λ_ _ _ _=>ax (bD K) (pv 1) (ba fT (ba dr (pv 2) (pv 0)) am) (λ_ _=>rfl))))
   (ar (aM (fh fM (ba dF (pv 5) (aZ (N:=["_law_name_here","_law_found"]) (ix:=[none,some 5]) ⟨rfl,rfl,rfl,by decide⟩ rfl (bv (pv 1)) (λ_ _ _ _=>aF 0 (by decide) rfl rfl) (λ_ _ _ _=>bL (aB (eu K) (pv 0) (pv 1) (by with_unfolding_all rfl))) (λ_ _ _ _=>pv 0))) fj (fk (au bb rfl B.len AY (aa (pv 1) ae)))))))))))
  case main =>
   refine⟨by show 8<=sizeLine;decide,λwd Lv=>?_⟩;have Nr:=hp.ne_new Lv;have P1:=hp.new (o:=.lst (bN.map V.str)) Lv;have K1:=(Kp.refl [p] H).new (o:=.lst (bN.map V.str)) Lv;have w1:upd H wd (.lst (bN.map V.str)) wd=some (.lst (bN.map V.str)):=ag;have Nt:=o9 hp JW;have n1:upd H wd (.lst (bN.map V.str)) na=some (.lst (ns.map V.str)):=by rw [ao (aR JW Lv)];exact JW
   change gh _ _ _ _ (upd H wd (.lst (bN.map V.str)));generalize upd H wd (.lst (bN.map V.str))=H1 at P1 K1 w1 n1 ⊢;refine⟨_,rfl,p,4,rfl,P1,by decide,by decide,λr H2 r0 r1 P2 K2=>⟨_,rfl,rfl,_,rfl,?_⟩⟩;have JL:=K1.trans K2;have n2:=K2.at Nt n1;have w2:=K2.at Nr w1;refine aU (λc=>⟨_,rfl,_,rfl,p,na,ns,rfl,P2,n2,OT,Fz,E2,λq ms H3 P3 q3 m1 m2 m3 K3=>k q ms H3 P3 q3 m1 m2 m3 (JL.trans K3)⟩) (λc0=>?_);refine⟨_,rfl,_,_,rfl,rfl,_,rfl,aU (λc=>⟨_,rfl,k na ns H2 P2 n2 E2 Fz rfl JL⟩) (λc=>?_)⟩;refine⟨_,rfl,p,8,rfl,P2,by decide,by decide,λb H3 b0 b1 P3 K3=>?_⟩;have UE:=JL.trans K3;have n3:=K3.at Nt n2;have w3:=K3.at Nr w2;refine⟨_,rfl,na,_,rfl,.inl (EF.of n3),_,rfl,p,6,rfl,P3,by decide,by decide,λr6 H4 q0 q1 P4 K4=>⟨_,_,rfl,rfl,_,_,rfl,_,rfl,?_,?_,?_⟩⟩
   ·split <;> omega
   ·rw [Av];split <;> omega
   have UD:=UE.trans K4;have n4:=K4.at Nt n3;have w4:=K4.at Nr w3;obtain⟨bn,rfl⟩:=Dr b0;have TX:∃c:Nat,(if (1 + r6:Int) < ((ns.map V.str).length:Int) then 1 + r6 else ((ns.map V.str).length:Int)).toNat=c/\c<=ns.length/\c<=8:=⟨_,rfl,by rw [Av];split <;> omega,by rw [Av];split <;> omega⟩
   obtain⟨cn,ecn,T3,KG⟩:=TX;rw [ecn];refine eQ (fits (by omega)) (λi ys σ H5=>ys=(Fc bn i).map V.str/\H5=H4/\∃x,σ=[x,some (.ref wd),some (.int bn)]) ⟨rfl,rfl,_,rfl⟩ (λi ys σ H5 _ z=>by rw [z.1,Av,j5];exact AF _) ?_ ?_
   ·rintro i ys σ H5 hi ⟨rfl,rfl,x,rfl⟩
    refine⟨_,rfl,_,rfl,_,rfl,_,_,rfl,rfl,_,_,rfl,rfl,by show (0:Int) < 8;decide,?_⟩;refine ay (j:=(bn + i) % 8) (.inl (EF.of w4)) (by push_cast;rw [Int.zero_add]) (by rw [AH,oN];rfl) ⟨?_,rfl,_,rfl⟩;rw [jT];simp
   rintro ys σ H5 ⟨rfl,rfl,x,rfl⟩ fo FF;have Hh:=P4.ne_new FF;have P6:=P4.new (o:=.lst ((Fc bn cn).map V.str)) FF;have K6:=UD.new (o:=.lst ((Fc bn cn).map V.str)) FF;have f6:upd H5 fo (.lst ((Fc bn cn).map V.str)) fo=some (.lst ((Fc bn cn).map V.str)):=ag;have n6:upd H5 fo (.lst ((Fc bn cn).map V.str)) na=some (.lst (ns.map V.str)):=by rw [ao (aR n4 FF)];exact n4
   generalize upd H5 fo (.lst ((Fc bn cn).map V.str))=H6 at P6 K6 f6 n6 ⊢
   refine⟨_,rfl,_,rfl,na,rfl,⟨_,EF.of n6⟩,fH (xs:=ns.map V.str) (fits (by rw [Av];omega)) (λi ys σ H7=>ys=((ns.take i).filter λx=>!decide (x∈Fc bn cn)).map V.str/\H7=H6/\∃x,σ=[x,some (.ref fo)]) ⟨rfl,rfl,_,rfl⟩
    (λi ys σ H7 _ z=>⟨by rw [z.1,Av];exact AV (AL _ _) (by rw [AW];omega),by rw [z.2.1];exact EF.of n6⟩) ?_ ?_⟩
   ·rintro i y ys σ H7 hy ⟨rfl,rfl,x,rfl⟩
    rw [AH] at hy;cases hc:ns[i]? with
    | none=>rw [hc] at hy;cases hy
    | some z =>
     rw [hc] at hy;cases hy;have tf:=bH (λx:Str=>!decide (x∈Fc bn cn)) ns i z hc;refine⟨_,rfl,_,rfl,fo,_,rfl,.inl (EF.of f6),rfl,aW _,_,rfl,?_⟩;rw [aX];show if (!decide (z∈Fc bn cn))=true then _ else _;refine aU (λc=>⟨_,rfl,?_,rfl,_,rfl⟩) (λc=>⟨?_,rfl,_,rfl⟩)
     ·rw [tf,c];simp
     ·rw [tf];simp only [BA] at c;rw [c];simp
   rintro ys σ H7 ⟨rfl,rfl,x,rfl⟩ l8 QD;rw [take_all ns (by simp)];have P8:=P6.new (o:=.lst ((ns.filter λx=>!decide (x∈Fc bn cn)).map V.str)) QD;have K8:=K6.new (o:=.lst ((ns.filter λx=>!decide (x∈Fc bn cn)).map V.str)) QD;have l9:upd H7 l8 (.lst ((ns.filter λx=>!decide (x∈Fc bn cn)).map V.str)) l8=some (.lst ((ns.filter λx=>!decide (x∈Fc bn cn)).map V.str)):=ag;have f9:upd H7 l8 (.lst ((ns.filter λx=>!decide (x∈Fc bn cn)).map V.str)) fo=some (.lst ((Fc bn cn).map V.str)):=by rw [ao (aR f6 QD)];exact f6
   have n9:upd H7 l8 (.lst ((ns.filter λx=>!decide (x∈Fc bn cn)).map V.str)) na=some (.lst (ns.map V.str)):=by rw [ao (aR n6 QD)];exact n6
   generalize upd H7 l8 (.lst ((ns.filter λx=>!decide (x∈Fc bn cn)).map V.str))=H9 at P8 K8 l9 f9 n9 ⊢;have GQ:=AL (λx=>!decide (x∈Fc bn cn)) ns;have FV:=j5 bn cn;refine⟨fo,l8,_,_,rfl,rfl,f9,l9,by rw [Av,Av,Br];omega,λct TV=>?_⟩;have Hk:=P8.new (o:=.lst ((Fc bn cn).map V.str++(ns.filter λx=>!decide (x∈Fc bn cn)).map V.str)) TV;have IU:=K8.new (o:=.lst ((Fc bn cn).map V.str++(ns.filter λx=>!decide (x∈Fc bn cn)).map V.str)) TV;have Nd:upd H9 ct (.lst ((Fc bn cn).map V.str++(ns.filter λx=>!decide (x∈Fc bn cn)).map V.str)) ct=some (.lst ((Fc bn cn).map V.str++(ns.filter λx=>!decide (x∈Fc bn cn)).map V.str)):=ag;have Mn:upd H9 ct (.lst ((Fc bn cn).map V.str++(ns.filter λx=>!decide (x∈Fc bn cn)).map V.str)) na=some (.lst (ns.map V.str)):=by rw [ao (aR n9 TV)];exact n9
   generalize upd H9 ct (.lst ((Fc bn cn).map V.str++(ns.filter λx=>!decide (x∈Fc bn cn)).map V.str))=E5 at Hk IU Nd Mn ⊢;refine⟨_,rfl,na,_,rfl,.inl (EF.of Mn),_,rfl,ct,_,rfl,EF.of Nd,λq hq=>?_⟩;have EJ:(eO (Fc bn cn) ns).length=ns.length:=vT (by rw [FV];exact T3) Fz;have Gq:(ns.map V.str).length<=((Fc bn cn).map V.str++(ns.filter λx=>!decide (x∈Fc bn cn)).map V.str).length:=by
    unfold eO at EJ;rw [AW] at EJ;rw [Av,<- AU,Av];omega
   have ec:cA ((Fc bn cn).map V.str++(ns.filter λx=>!decide (x∈Fc bn cn)).map V.str) none (some ((ns.map V.str).length:Int))=(eO (Fc bn cn) ns).map V.str:=by
    rw [pq _ Gq,<- AU,<- List.map_take,Av];rfl
   rw [ec];exact k q (eO (Fc bn cn) ns) _ (Hk.new hq) ag (ug (vq bn cn) E2) (sG (lG bn KG) Fz) EJ (IU.new hq)
theorem u7 {K:zz7}{g:TG}{te:TE}{σ':St}{fin:List V->Hp->Prop}{H1:Hp}{a b:Addr}{xs ys:List V} (hn:min xs.length ys.length < sizeLine) (Pv:Nat->List V->St->Hp->Prop) (h0:Pv 0 [] σ' H1)
  (hl:∀i zs σ H,i<=min xs.length ys.length->Pv i zs σ H->zs.length<=i/\EF K H a xs/\EF K H b ys)
  (hs:∀i x y zs σ H T,xs[i]?=some x->ys[i]?=some y->Pv i zs σ H->H T=none->g (.ref T) σ (upd H T (.tup [x,y])) λσ2 H2=>te σ2 H2 (λv H4=>Pv (i + 1) (zs++[v]) σ2 H4))
  (hd:∀zs σ H,Pv (min xs.length ys.length) zs σ H->fin zs H):Hl (QW K a b) g cG te σ' fin H1 :=
 wJ hn Pv h0 hl (λi x y zs σ H T hx hy p hT=>by
  have e:(λσ2 H2=>cG σ2 H2 λb H3=>if b=true then te σ2 H3 (λv H4=>Pv (i + 1) (zs++[v]) σ2 H4) else Pv (i + 1) zs σ2 H3)=λσ2 H2=>te σ2 H2 (λv H4=>Pv (i + 1) (zs++[v]) σ2 H4):=by
   funext σ2 H2
   show (if true=true then te σ2 H2 (λv H4=>Pv (i + 1) (zs++[v]) σ2 H4) else Pv (i + 1) zs σ2 H2)=_;rw [if_pos rfl]
  rw [e]
  exact hs i x y zs σ H T hx hy p hT) hd
def oQ:Sp:=λvs H Q _=>∃(p:Addr),vs=[.ref p,.int 6,.int 3,.int 5]/\E1 H p /\
 ∀(v u pa ra:Addr) (root:Str) (ps:List Str) (rs:List (Addr×Row)) (H':Hp),E1 H' p->H' v=some (.tup [.ref u,.str root])->bA H' u pa ra ps rs->Good ps (rs.map (·.2))->ps.length<=6->rs.length<=26->root∈ps->Kp [p] H H'->Q (.ref v) H'
abbrev N64:List Str:=["_law_pot_here","_law_most_places","_law_most_trees","_law_most_more","_law_places","_law_root","_law_pairs","_law_turn","_law_begin","_law_end","_law_names","_law_ties"]
theorem dt:aH N64 ["_law_pot_here","_law_most_places","_law_most_trees","_law_most_more"] (aC (top 64)):=⟨rfl,rfl,rfl,by decide +kernel,rfl,by decide +kernel,by decide +kernel⟩
theorem xG (F:EW K "_law_web" "_law_web" (top 64) f fd) (B:Bl mg) (Ft:Fn P w K mg base 1 "_law_digit" ["_law_pot_here","_law_many"] eG) (QY:Fn P w K mg base 2 "_law_name" ["_law_pot_here","_law_k"] oK)
  (Fd:Fn P w K mg base 3 "_law_named" ["_law_pot_here","_law_names"] iO) (Fe:Fn P w K mg base 2 "_law_grown" ["_law_pot_here","_law_places","_law_root"] pF):aD P w K mg base EU 4 f fd ["_law_pot_here","_law_most_places","_law_most_trees","_law_most_more"] oQ:=by
 refine F.ok dt (λvs H Q E h=>?_) (λ_ _ _ _ H vs Q E hr h=>?_)
 ·obtain⟨p,rfl,_⟩:=h
  rfl
 ·obtain⟨p,rfl,hp,k⟩:=h
  have E7:aQ 1 _:=hr.mono (by decide);have Ge:aQ 2 _:=hr.mono (by decide)
  refine⟨_,ak (aA (i:=4) dt.nd rfl (Or.inl rfl) (au eP rfl B.sorted da (aa (aq Fd hr (aa (pv 0) (aa (aZ (N:=["_law_k","_law_pot_here"]) (ix:=[none,some 0]) ⟨rfl,rfl,rfl,by decide⟩ rfl
     (di rfl B.range (aa (ba dr am (aq Ft E7 (aa (pv 0) (aa (pv 1) ae)))) ae)) (λ_ _ _ _=>aF 0 (by decide) rfl rfl) (λ_ _ _ _=>bz)
     (λ_ _ _ _=>aq QY Ge (aa (pv 1) (aa (pv 0) ae)))) ae))) ae)))
   (ak (aA (i:=5) dt.nd rfl (Or.inl rfl) (ax aG (pv 4) (aq Ft E7 (aa (pv 0) (aa (au bb rfl B.len AY (aa (pv 4) ae)) ae))) (λ_ _=>rfl)))
   (ak (aA (i:=6) dt.nd rfl (Or.inl rfl) (bw ae))
   (ak (bZ Bm rfl (di rfl B.range (aa (aq Ft E7 (aa (pv 0) (aa (ba dr (pv 2) am) ae))) ae)) (bc (i:=7) dt.nd rfl (Or.inl rfl))
    (ar (aA (i:=6) dt.nd rfl (Or.inl rfl) (ba dF (pv 6) (aq Fe Ge (aa (pv 0) (aa (pv 4) (aa (pv 5) ae))))))))
   (ak (bZ Bm rfl (di rfl B.range (aa (aq Ft E7 (aa (pv 0) (aa (ba dr (pv 3) am) ae))) ae)) (bc (i:=7) dt.nd rfl (Or.inl rfl))
    (ak (aA (i:=8) dt.nd rfl (Or.inl rfl) (ax aG (pv 4) (aq Ft E7 (aa (pv 0) (aa (au bb rfl B.len AY (aa (pv 4) ae)) ae))) (λ_ _=>rfl)))
    (ak (aA (i:=9) dt.nd rfl (Or.inl rfl) (ax aG (pv 4) (aq Ft E7 (aa (pv 0) (aa (au bb rfl B.len AY (aa (pv 4) ae)) ae))) (λ_ _=>rfl)))
    (ar (aS (aB cj (pv 8) (pv 9) (aT _)) (ar (bg (cH Bo BB BC dj (pv 6) (aa (cf (aa (pv 8) (aa (pv 9) ae))) ae)))) aV)))))
   (ak (aA (i:=6) dt.nd rfl (Or.inl rfl) (fh fM (pv 6) fj (fk am)))
   (ak (aA (i:=10) dt.nd rfl (Or.inl rfl) (aq Fd hr (aa (pv 0) (aa (aZ (N:=["_law_k","_law_pot_here"]) (ix:=[none,some 0]) ⟨rfl,rfl,rfl,by decide⟩ rfl
     (di rfl B.range (aa (au bb rfl B.len AY (aa (pv 6) ae)) ae)) (λ_ _ _ _=>aF 0 (by decide) rfl rfl) (λ_ _ _ _=>bz)
     (λ_ _ _ _=>aq QY Ge (aa (pv 1) (aa (pv 0) ae)))) ae))))
   (ak (aA (i:=11) dt.nd rfl (Or.inl rfl) (au rg rfl B.sorted da (aa (aZ (N:=["_law_name_here","_law_pair"]) (ix:=[none,none]) ⟨rfl,rfl,rfl,by decide⟩ rfl (x4 rfl B.zip (aa (pv 10) (aa (pv 6) ae)))
     (λ_ _ _ _=>jU K rfl (n:=2) (bG (aF 0 (by decide) rfl rfl) (bG (aF 1 (by decide) rfl rfl) dq))) (λ_ _ _ _=>bz)
     (λ_ _ _ _=>cf (aa (pv 0) (aa (ax (bD K) (pv 1) am (λ_ _=>rfl)) (aa (ax (bD K) (pv 1) am (λ_ _=>rfl)) ae))))) ae)))
   (ar (aM (cf (aa (cf (aa (bP c8 rfl B.tuple cv (aa (pv 4) ae)) (aa (bP c8 rfl B.tuple cv (aa (pv 11) ae)) ae))) (aa (pv 5) ae)))))))))))),?_⟩
  refine⟨_,rfl,_,rfl,_,rfl,p,6,rfl,hp,by decide,by decide,λr1 H1 a0 a1 P1 K1=>⟨_,_,rfl,rfl,_,rfl,by omega,by omega,?_⟩⟩;refine eQ (fits (by omega)) (λj ys σ H2=>(∃ns:List Str,ns.length=j/\KO ns/\ys=ns.map V.str)/\E1 H2 p/\Kp [p] H H2/\∃x,σ=[x,some (.ref p)])
   ⟨⟨[],rfl,λj x hj=>by simp at hj,rfl⟩,P1,K1,_,rfl⟩ (λj ys σ H2 _ q=>by obtain⟨⟨ns,rfl,_,rfl⟩,_⟩:=q;simp) ?_ ?_
  ·rintro j ys σ H2 hj ⟨⟨ns,rfl,D,rfl⟩,P2,K2,x,rfl⟩
   refine⟨_,rfl,_,rfl,p,ns.length,by simp,P2,by omega,λx H3 hx P3 K3=>⟨⟨ns++[x],by simp,D.add hx,by simp⟩,P3,K2.trans K3,_,rfl⟩⟩
  rintro ys σ H2 ⟨⟨ns,Yc,D,rfl⟩,P2,K2,x,rfl⟩ Qo OK;have nm7:ns.length<=6:=by omega
  have nm1:1<=ns.length:=by omega
  have P3:=P2.new (o:=.lst (ns.map V.str)) OK;have K3:=K2.new (o:=.lst (ns.map V.str)) OK;have L3:upd H2 Qo (.lst (ns.map V.str)) Qo=some (.lst (ns.map V.str)):=ag;generalize upd H2 Qo (.lst (ns.map V.str))=H3 at P3 K3 L3 ⊢;refine⟨p,Qo,ns,rfl,P3,L3,by omega,D.nodup,D.name (by omega),λX5 ms H4 P4 L4 Y1 Y2 RK K34=>?_⟩;have K4:=K3.trans K34;refine⟨X5,ms,rfl,EF.of L4,by omega,λps pl E8 GJ Gu=>?_⟩;have GM:ps.Nodup:=E8.nodup_iff.mpr Y2;have Om:ps.length=ns.length:=E8.length_eq.trans RK;have Ql:∀x∈ps,aE x:=λx hx=>Y1 x (E8.mem_iff.mp hx);have X1:=ez GJ GM;have Ml:=P4.ne_new Gu;have P5:=P4.new (o:=.lst (ps.map V.str)) Gu;have K5:=K4.new (o:=.lst (ps.map V.str)) Gu;have L5:upd H4 pl (.lst (ps.map V.str)) pl=some (.lst (ps.map V.str)):=ag;generalize upd H4 pl (.lst (ps.map V.str))=H5 at P5 K5 L5 ⊢;have ZK:(ps.map V.str).length=ps.length:=by simp
  refine⟨_,rfl,_,rfl,_,rfl,pl,_,rfl,.inl (EF.of L5),p,_,rfl,P5,by omega,by omega,λr3 H6 c0 c1 P6 Xf=>?_⟩;have K6:=K5.trans Xf;have L6:=Xf.at Ml L5;have VY:r3.toNat < ps.length:=by omega
  refine ay (j:=r3.toNat) (.inl (EF.of L6)) (by omega) (strAt VY) ?_;have EO:ps[r3.toNat]∈ps:=Bt VY;generalize ps[r3.toNat]=root at EO ⊢;refine⟨Be _,λfo FF=>?_⟩;have Hh:=P6.ne_new FF;have Kl:fo≠pl:=(aR L6 FF).symm;have G9:=K6.free1 P6 FF;have P7:=P6.new (o:=.lst []) FF;have K7:=K6.new (o:=.lst []) FF;have L7:upd H6 fo (.lst []) pl=some (.lst (ps.map V.str)):=by rw [ao Kl.symm];exact L6
  have A7:cK (upd H6 fo (.lst [])) fo []:=⟨ag,by simp⟩
  generalize upd H6 fo (.lst [])=H7 at P7 K7 L7 A7 ⊢;refine⟨_,rfl,_,rfl,_,_,rfl,rfl,p,_,rfl,P7,by decide,by decide,λr4 H8 d0 d1 P8 QU=>⟨_,rfl,by omega,by omega,?_⟩⟩;refine fJ (λi σ Hx=>∃(fo:Addr) (ET:List Le),(∃g g8 g9,σ=[some (.ref p),some (.int 6),some (.int 3),some (.int 5),some (.ref pl),some (.str root),some (.ref fo),g,g8,g9,none,none])/\fo≠p/\fo≠pl/\H fo=none/\E1 Hx p/\Kp [p] H Hx/\Hx pl=some (.lst (ps.map V.str))/\cK Hx fo ET/\NP ps ET/\ET.length<=6 * i)
   ⟨fo,[],⟨_,_,_,rfl⟩,Hh,Kl,G9,P8,K7.trans QU,QU.at Ml L7,A7.kp P7 Hh QU,(by intro x hx;simp at hx),AF _⟩ ?_ ?_
  ·rintro i σ Hx hi ⟨fo,ET,⟨g,g8,g9,rfl⟩,Hh,Kl,G9,Px,Kx,Lx,Ax,Gq,EJ⟩
   refine⟨_,rfl,_,rfl,_,rfl,_,rfl,p,pl,root,ps,rfl,Px,Lx,EO,GM,Ql,by omega,λq HM Hy Py Ay Tc hl7 ZJ Ky=>?_⟩;have Xl:=Ax.kp Px Hh Ky;have Ly:=Ky.at Ml Lx;refine⟨fo,q,bQ ET,bQ HM,rfl,rfl,Xl.l,Ay.l,BH (fits (by simp;omega)),λc hc=>?_⟩;have sy:=ai (o:=.lst (bQ ET++bQ HM)) (af.refl Hy) hc;have K0:=Kx.trans Ky;refine⟨c,ET++HM,⟨_,_,_,rfl⟩,Py.ne_new hc,(aR Ly hc).symm,K0.free1 Py hc,Py.new hc,K0.new hc,sy _ _ Ly,⟨by rw [ag];simp [bQ],λx hx=>?_⟩,λx hx=>?_,by simp;omega⟩
   ·rcases AO.mp hx with z | z
    ·exact sy _ _ (Xl.e x z)
    ·exact sy _ _ (Ay.e x z)
   ·rcases AO.mp hx with z | z
    ·exact Gq x z
    ·exact Tc x z
  rintro σ Hx ⟨fo,ET,⟨g,g8,g9,rfl⟩,Hh,Kl,G9,Px,Kx,Lx,Ax,Gq,EJ⟩;have ZZ:ET.length<=18:=by omega
  clear EJ A7 L7 K7 P7 d0 d1 P8 QU H8 H7 r4;refine⟨_,rfl,_,rfl,_,_,rfl,rfl,p,_,rfl,Px,by decide,by decide,λr6 H9 f0 f1 P9 UB=>⟨_,rfl,by omega,by omega,?_⟩⟩;refine fJ (λi σ Hx=>∃(ET:List Le),(∃g g8 g9,σ=[some (.ref p),some (.int 6),some (.int 3),some (.int 5),some (.ref pl),some (.str root),some (.ref fo),g,g8,g9,none,none])/\E1 Hx p/\Kp [p] H Hx/\Hx pl=some (.lst (ps.map V.str))/\cK Hx fo ET/\NP ps ET/\ET.length<=18 + i)
   ⟨ET,⟨_,_,_,rfl⟩,P9,Kx.trans UB,UB.at Ml Lx,Ax.kp Px Hh UB,Gq,by omega⟩ ?_ ?_
  ·rintro i σ Hy hi ⟨HM,⟨g,g8,g9,rfl⟩,Py,Ky,Ly,Ay,Gq,EJ⟩
   refine⟨_,rfl,_,rfl,_,rfl,pl,_,rfl,.inl (EF.of Ly),p,_,rfl,Py,by omega,by omega,λra E5 a0 a1 Hk IU=>?_⟩;have J7:=Ay.kp Py Hh IU;have KP:=IU.at Ml Ly;have GV:ra.toNat < ps.length:=by omega
   refine ay (j:=ra.toNat) (.inl (EF.of KP)) (by omega) (strAt GV) ?_;have Wc:=Bt GV;generalize ps[ra.toNat]=sa at Wc ⊢;refine⟨_,rfl,_,rfl,_,rfl,pl,_,rfl,.inl (EF.of KP),p,_,rfl,Hk,by omega,by omega,λrb FI b0 b1 NO LU=>?_⟩;have PR:=J7.kp Hk Hh LU;have PM:=LU.at Ml KP;have VW:rb.toNat < ps.length:=by omega
   refine ay (j:=rb.toNat) (.inl (EF.of PM)) (by omega) (strAt VW) ?_;have Wb:=Bt VW;generalize ps[rb.toNat]=JP at Wb ⊢;have PN:=Ky.trans (IU.trans LU);refine⟨_,rfl,_,rfl,rfl,_,rfl,aU (λc=>?_) (λc=>⟨HM,⟨_,_,_,rfl⟩,NO,PN,PM,PR,Gq,by omega⟩)⟩;have He:sa≠JP:=λe=>by subst e;simp at c
   refine⟨_,rfl,.inl ⟨rfl,_,EF.of PR.l⟩,_,rfl,_,rfl,by show 2<=sizeLine;decide,λn hn=>?_⟩;have sz:=ai (o:=.tup [.str sa,.str JP]) (af.refl FI) hn;have nz:upd FI n (.tup [.str sa,.str JP]) n=some (.tup [.str sa,.str JP]):=ag;have Nh:=NO.new (o:=.tup [.str sa,.str JP]) hn;have JL:=PN.new (o:=.tup [.str sa,.str JP]) hn;generalize upd FI n (.tup [.str sa,.str JP])=GK at sz nz Nh JL ⊢;have PQ:=PR.same sz;have QT:=sz _ _ PM;refine⟨fo,bQ HM,.ref n,rfl,rfl,PQ.l,fits (by simp;omega),?_⟩;refine⟨HM++[(n,sa,JP)],⟨_,_,_,rfl⟩,Nh.upd Hh,JL.upd0 G9,by rw [ao Kl.symm];exact QT,⟨by rw [ag];simp [bQ],λx hx=>?_⟩,λx hx=>?_,by simp;omega⟩
   ·rcases AO.mp hx with q | q
    ·rw [ao (tup_ne (PQ.e x q) PQ.l)];exact PQ.e x q
    ·have e:x=(n,sa,JP):=by simpa using q
     subst e;show upd GK fo _ n=_;rw [ao (tup_ne nz PQ.l)];exact nz
   ·rcases AO.mp hx with q | q
    ·exact Gq x q
    ·have e:x=(n,sa,JP):=by simpa using q
     subst e;exact⟨Wc,Wb,He⟩
  rintro σ H9 ⟨ET,⟨g,g8,g9,rfl⟩,P9,K9,L9,A9,OW,KD⟩;refine⟨_,rfl,_,rfl,fo,bQ ET,rfl,EF.of A9.l,λc hc=>?_⟩;rw [yT];have sc:=ai (o:=.lst ((bQ ET).take 26)) (af.refl H9) hc;have Hk:=P9.new (o:=.lst ((bQ ET).take 26)) hc;have IU:=K9.new (o:=.lst ((bQ ET).take 26)) hc;have Vl:=P9.ne_new hc;have Nd:upd H9 c (.lst ((bQ ET).take 26)) c=some (.lst (bQ (ET.take 26))):=by rw [ag];unfold bQ;rw [List.map_take]
  generalize upd H9 c (.lst ((bQ ET).take 26))=E5 at sc Hk IU Nd ⊢;have J7:=A9.same sc;have KP:=sc _ _ L9;have Jz:∀x∈ET.take 26,x∈ET:=λx hx=>DU hx;have Sm:(ET.take 26).length<=26:=by rw [AW];omega
  have Ac:cK E5 c (ET.take 26):=⟨Nd,λx hx=>J7.e x (Jz x hx)⟩
  have Wi:NP ps (ET.take 26):=λx hx=>OW x (Jz x hx);clear Jz OW A9 J7 KD;generalize ET.take 26=lc at Nd Sm Ac Wi;have ZV:(bQ lc).length=lc.length:=by simp
  refine⟨_,rfl,_,rfl,c,_,rfl,.inl (EF.of Ac.l),_,rfl,by omega,by omega,?_⟩;refine eQ (fits (by omega)) (λj ys σ H2=>(∃ns:List Str,ns.length=j/\KO ns/\ys=ns.map V.str)/\E1 H2 p/\Kp [p] E5 H2/\∃x,σ=[x,some (.ref p)])
   ⟨⟨[],rfl,λj x hj=>by simp at hj,rfl⟩,Hk,Kp.refl _ _,_,rfl⟩ (λj ys σ H2 _ q=>by obtain⟨⟨ns,rfl,_,rfl⟩,_⟩:=q;simp) ?_ ?_
  ·rintro j ys σ H2 hj ⟨⟨ns,rfl,D,rfl⟩,P2,K2,x,rfl⟩
   refine⟨_,rfl,_,rfl,p,ns.length,by simp,P2,by omega,λx H3 hx P3 K3=>⟨⟨ns++[x],by simp,D.add hx,by simp⟩,P3,K2.trans K3,_,rfl⟩⟩
  rintro ys σ Ha ⟨⟨tn,tnl,Dn,rfl⟩,Pa,Ka,x,rfl⟩ PX OB;have N5:tn.length<=26:=by omega
  have Pb:=Pa.new (o:=.lst (tn.map V.str)) OB;have Kb:=Ka.new (o:=.lst (tn.map V.str)) OB;have Lb:upd Ha PX (.lst (tn.map V.str)) PX=some (.lst (tn.map V.str)):=ag;generalize upd Ha PX (.lst (tn.map V.str))=Hb at Pb Kb Lb ⊢;refine⟨p,PX,tn,rfl,Pb,Lb,N5,Dn.nodup,Dn.name N5,λtc cn Hc Pc Lc cnm cnd aa4 Kbc=>?_⟩;have Kc:=Kb.trans Kbc;have cc:=Kc.at Vl Nd;have Acc:cK Hc c lc:=Ac.kp Hk Vl Kc;have Ph:cn.length=lc.length:=by omega
  refine⟨_,rfl,_,rfl,tc,c,_,_,rfl,EF.of Lc,EF.of cc,?_⟩;refine u7 (xs:=cn.map V.str) (ys:=bQ lc) (fits (by simp;omega)) (λi zs σ H2=>(∃rr:List (Addr×Row),zs=aj rr/\(∀r∈rr,b7 H2 r.1 r.2)/\E4 rr=cn.take i/\(∀r∈rr,r.2.2.1∈ps/\r.2.2.2∈ps/\r.2.2.1≠r.2.2.2))/\af Hc H2/\∃g1 g2,σ=[g1,g2])
   ⟨⟨[],rfl,by simp,rfl,by simp⟩,af.refl _,_,_,rfl⟩ (λi zs σ H2 hi q=>?_) ?_ ?_
  ·obtain⟨⟨rr,rfl,_,e,_⟩,s2,_⟩:=q
   have:=congrArg List.length e;rw [E4,Av,AW] at this;exact⟨by simp [this];omega,EF.of (s2 _ _ Lc),EF.of (s2 _ _ cc)⟩
  ·rintro i x y zs σ H2 T hx hy ⟨⟨rr,rfl,Ra,e,Ro⟩,s2,g1,g2,rfl⟩ hT
   rw [AH] at hx;obtain⟨pr,OH,rfl⟩:=xH hy;cases NH:cn[i]? with
   | none=>rw [NH] at hx;cases hx
   | some t =>
    rw [NH] at hx;cases hx;have Kv:=AB OH;obtain⟨o1,o2,o3⟩:=Wi pr Kv;have s3:=ai (o:=.tup [.str t,.ref pr.1]) s2 hT;have XJ:=ai (o:=.tup [.str t,.ref pr.1]) (af.refl H2) hT;have U9:=s3 _ _ (Acc.e pr Kv);refine⟨T,_,rfl,EG.of ag,rfl,_,_,rfl,_,_,rfl,rfl,?_⟩;refine⟨_,rfl,_,rfl,ay (j:=0) (.inr (EG.of U9)) rfl rfl ⟨_,rfl,ay (j:=1) (.inr (EG.of U9)) rfl rfl ⟨by show 3<=sizeLine;decide,λn hn=>?_⟩⟩⟩;have s4:=ai (o:=.tup [.str t,.str pr.2.1,.str pr.2.2]) s3 hn;have Mc:=ai (o:=.tup [.str t,.str pr.2.1,.str pr.2.2]) XJ hn;refine⟨⟨rr++[(n,(t,pr.2.1,pr.2.2))],by simp [aj],λr hr=>?_,?_,λr hr=>?_⟩,s4,_,_,rfl⟩
    ·rcases AO.mp hr with z | z
     ·exact Mc _ _ (Ra r z)
     ·have e':r=(n,(t,pr.2.1,pr.2.2)):=by simpa using z
      subst e';exact ag
    ·rw [E4,AU]
     show E4 rr++[t]=_;rw [e,Bg,NH];rfl
    ·rcases AO.mp hr with z | z
     ·exact Ro r z
     ·have e':r=(n,(t,pr.2.1,pr.2.2)):=by simpa using z
      subst e';exact⟨o1,o2,o3⟩
  rintro zs σ FI ⟨⟨rr,rfl,Ra,enm,Ro⟩,Fy,g1,g2,rfl⟩ rw MC;have en:E4 rr=cn:=by rw [enm,take_all cn (by simp;omega)]
  have el:rr.length=lc.length:=by rw [<- Ph,<- en];simp
  have NO:E1 FI p:=Pc.keep λo e=>Fy _ _ e;have LU:Kp [p] E5 FI:=Kc.of_same Fy;have D':(E4 rr).Nodup:=by rw [en];exact cnd
  have E3:=ai (o:=.lst (aj rr)) (af.refl FI) MC;have Ng:∀r∈rr,b7 (upd FI rw (.lst (aj rr))) r.1 r.2:=λr hr=>E3 _ _ (Ra r hr);have UL:upd FI rw (.lst (aj rr)) rw=some (.lst (aj rr)):=ag;have Nh:=NO.new (o:=.lst (aj rr)) MC;have JL:=(IU.trans LU).new (o:=.lst (aj rr)) MC;have QT:upd FI rw (.lst (aj rr)) pl=some (.lst (ps.map V.str)):=E3 _ _ (LU.at Ml KP);generalize upd FI rw (.lst (aj rr))=GK at E3 Ng UL Nh JL QT ⊢;refine⟨rw,rr.map λr=>(r.1,r.2.1),rfl,.inl (EF.of (by rw [m7];exact UL)),λy hy=>?_,by rw [Av];omega,?_,λNn q2 SK Ks Gf=>?_⟩
  ·obtain⟨x,hx,rfl⟩:=AG.mp hy
   exact⟨_,Ng x hx⟩
  ·rw [Bf]
   exact D'
  obtain⟨FC,Nz,KN⟩:=lE (λr:Addr×Row=>(r.1,r.2.1)) Nn _ SK;subst KN;rw [m7];have u0:=ai (o:=.lst (aj FC)) (af.refl GK) Gf;have Ki:upd GK q2 (.lst (aj FC)) q2=some (.lst (aj FC)):=ag;generalize upd GK q2 (.lst (aj FC))=GX at u0 Ki ⊢;refine⟨_,rfl,pl,_,rfl,.inl ⟨EF.of (u0 _ _ QT),λpa Ny=>?_⟩⟩;have u1:=ai (o:=.tup (ps.map V.str)) (af.refl GX) Ny;have LP:upd GX pa (.tup (ps.map V.str)) pa=some (.tup (ps.map V.str)):=ag;generalize upd GX pa (.tup (ps.map V.str))=GG at u1 LP ⊢;refine⟨_,rfl,q2,_,rfl,.inl ⟨EF.of (u1 _ _ Ki),λra GV=>?_⟩⟩;have u2:=ai (o:=.tup (aj FC)) (af.refl GG) GV;have WU:upd GG ra (.tup (aj FC)) ra=some (.tup (aj FC)):=ag;generalize upd GG ra (.tup (aj FC))=JO at u2 WU ⊢;refine⟨by show 2<=sizeLine;decide,λu hu=>?_⟩;have u3:=ai (o:=.tup [.ref pa,.ref ra]) (af.refl JO) hu;have WT:upd JO u (.tup [.ref pa,.ref ra]) u=some (.tup [.ref pa,.ref ra]):=ag;generalize upd JO u (.tup [.ref pa,.ref ra])=Ir at u3 WT ⊢;refine⟨_,rfl,by show 2<=sizeLine;decide,λv hv=>?_⟩;have u4:=ai (o:=.tup [.ref u,.str root]) (af.refl Ir) hv;have Rb:=u0.trans (u1.trans (u2.trans (u3.trans u4)));refine k v u pa ra root ps FC _ (Nh.keep λo e=>Rb _ _ e) ag ⟨u4 _ _ WT,u4 _ _ (u3 _ _ (u2 _ _ LP)),u4 _ _ (u3 _ _ WU),λx hx=>Rb _ _ (Ng x (Nz.mem_iff.mp hx))⟩ ⟨?_,Ql,X1,λr hr=>?_,?_,by omega,?_⟩ (by omega) (by rw [Nz.length_eq];omega) EO (JL.of_same Rb)
  ·intro z;rw [z] at Om;simp at Om;omega
  ·obtain⟨x,hx,rfl⟩:=AG.mp hr
   have VM:=Nz.mem_iff.mp hx;obtain⟨y1,y2,y3⟩:=Ro x VM;exact⟨cnm _ (by rw [<- en];exact AC (f:=λz:Addr×Row=>z.2.1) VM),y1,y2,y3⟩
  ·rw [Bf] at Ks ⊢;exact Ks
  ·rw [Av,Nz.length_eq];omega
def cJ (r:Row):PyData:=.tuple [.str r.1,.str r.2.1,.str r.2.2]
def cD (ps:List Str) (rows:List Row):PyData:=.tuple [.tuple (ps.map PyData.str),.tuple (rows.map cJ)]
theorem kj {H:Hp}:∀{rs:List (Addr×Row)},(∀r∈rs,b7 H r.1 r.2)->Gi H (aj rs) ((rs.map (·.2)).map cJ)
 | [],_=>.nil
 | r::t,h=>.cons (.tup (h r AJ) (.cons (.str _) (.cons (.str _) (.cons (.str _) .nil)))) (kj λx hx=>h x (AN _ hx))
theorem bA.dv {H:Hp}{v pa ra:Addr}{ps:List Str}{rs:List (Addr×Row)} (W:bA H v pa ra ps rs):DV H (.ref v) (cD ps (rs.map (·.2))) :=
 .tup W.tp (.cons (.tup W.pl (Gi.strs ps)) (.cons (.tup W.rl (kj W.rows)) .nil))
theorem Good.ends {ps:List Str}{rows:List Row} (G:Good ps rows):∀r∈rows,aE r.1/\aE r.2.1/\aE r.2.2:=λr hr =>
 let ⟨a,b,c,_⟩:=G.rn r hr;⟨a,G.nm _ b,G.nm _ c⟩
theorem jI:∀{rows:List Row},(∀r∈rows,aE r.1/\aE r.2.1/\aE r.2.2)->PyData.canLayAll0 (rows.map cJ)=true/\PyData.depthAll (rows.map cJ)<=1
 | [],_=>⟨rfl,Be _⟩
 | r::t,h=>by
  have ih:=jI (rows:=t) λx hx=>h x (AN _ hx);obtain⟨a,b,c⟩:=h r AJ;rw [Bj];have i2:=ih.2;simp only [PyData.canLayAll0,PyData.canLay0,PyData.depthAll,PyData.depth,cJ,iD a,iD b,iD c,ih.1];exact⟨rfl,by omega⟩
theorem Good.shaped {ps:List Str}{rows:List Row} (G:Good ps rows):SeqAt.shaped (cD ps rows)=true/\(cD ps rows).canLay0=true/\(cD ps rows).depth<=3:=by
 have h1:=iH G.nm;have h2:=jI G.ends;have i2:=h2.2;have hc:(cD ps rows).canLay0=true:=by
  simp only [cD,PyData.canLay0,PyData.canLayAll0,h1.1,h2.1];rfl
 have hd:(cD ps rows).depth<=3:=by
  simp only [cD,PyData.depth,PyData.depthAll,h1.2];omega
 refine⟨?_,hc,hd⟩;unfold SeqAt.shaped;rw [hc,decide_eq_true (by omega)];rfl
theorem bA.kp {H H':Hp}{p v pa ra:Addr}{ps:List Str}{rs:List (Addr×Row)} (W:bA H v pa ra ps rs) (hp:E1 H p) (k:Kp [p] H H'):bA H' v pa ra ps rs:=by
 have hP:∀c∈[p],∃ys,H c=some (.lst ys):=λc hc=>by
  have e:c=p:=by simpa using hc
  subst e;exact hp.lst
 exact⟨gL k hP W.tp,gL k hP W.pl,gL k hP W.rl,λr hr=>gL k hP (W.rows r hr)⟩
theorem join_le (B:Nat):∀ts:List Str,(∀t∈ts,t.length<=B)->(Str.join ", " ts).length<=ts.length * (B + 2)
 | [],_=>by show (0:Nat)<=_;exact Be _
 | [x],h=>by
  have:=h x AJ;show x.length<=1 * (B + 2);omega
 | x::y::r,h=>by
  have ih:=join_le B (y::r) λt ht=>h t (AN _ ht);have hx:=h x AJ;show (x++(", ":Str)++Str.join ", " (y::r)).length<=_;have e2:((", ":Str)).length=2:=by decide
  rw [Cy,Cy,e2];simp only [Bv] at ih ⊢;rw [Nat.add_mul (r.length + 1) 1 (B + 2)];omega
theorem qY {B:Nat}{ts:List Str} (h:∀t∈ts,t.length<=B):(tupleText ts).length<=3 + ts.length * (B + 2):=by
 have:=join_le B ts h;unfold tupleText;rw [Cy,Cy];have e1:(("(":Str)).length=1:=by decide
 rw [e1]
 by_cases c:(ts.length == 1)=true
 ·rw [if_pos c]
  have e3:((",)":String):Str).length=2:=by decide
  rw [e3];omega
 ·rw [if_neg c]
  have e3:((")":String):Str).length=1:=by decide
  rw [e3];omega
theorem xp {x:Str} (h:aE x):(reprText x).length<=82:=by
 have:=StrLaws.reprText_len x λc hc=>by have:=h.az c hc;omega
 have h8:=h.hi;omega
theorem jq:∀{ds:List PyData}{t:Str},t∈PyData.shownAll ds->∃d∈ds,t=d.shown
 | [],t,h=>by simp [PyData.shownAll] at h
 | d::ds,t,h=>by
  rw [PyData.shownAll] at h
  rcases AI.mp h with e | h
  ·exact⟨d,AJ,e⟩
  ·obtain⟨d',h1,h2⟩:=jq h
   exact⟨d',AN _ h1,h2⟩
theorem jo:∀ds:List PyData,(PyData.shownAll ds).length=ds.length
 | []=>rfl
 | d::ds=>by rw [PyData.shownAll,Bv,Bv,jo ds]
theorem shown_tuple {B:Nat}{ds:List PyData} (h:∀d∈ds,d.shown.length<=B):(PyData.tuple ds).shown.length<=3 + ds.length * (B + 2):=by
 rw [PyData.shown,<- jo ds];refine qY λt ht=>?_;obtain⟨d,hd,rfl⟩:=jq ht;exact h d hd
theorem jw {ss:List Str} (h:∀x∈ss,aE x):(PyData.tuple (ss.map PyData.str)).shown.length<=3 + ss.length * 84:=by
 have:=shown_tuple (B:=82) (ds:=ss.map PyData.str) λd hd=>by
  obtain⟨x,hx,rfl⟩:=AG.mp hd;rw [PyData.shown];exact xp (h x hx)
 simpa using this
theorem iw:∀ss:List Str,PyData.showableAll (ss.map PyData.str)=true
 | []=>rfl
 | x::t=>by rw [Bj,PyData.showableAll,iw t];rfl
theorem lW:∀rows:List Row,PyData.showableAll (rows.map cJ)=true
 | []=>rfl
 | r::t=>by rw [Bj,PyData.showableAll,lW t];rfl
theorem vg (ps:List Str) (rows:List Row):(cD ps rows).showable=true:=by
 simp only [cD,PyData.showable,PyData.showableAll,iw,lW];rfl
theorem iT:∀ss:List Str,PyData.hasDictAll (ss.map PyData.str)=false
 | []=>rfl
 | x::t=>by rw [Bj,PyData.hasDictAll,iT t];rfl
theorem nM:∀rows:List Row,PyData.hasDictAll (rows.map cJ)=false
 | []=>rfl
 | r::t=>by rw [Bj,PyData.hasDictAll,nM t];rfl
theorem yh (ps:List Str) (rows:List Row):(cD ps rows).hasDict=false:=by
 simp only [cD,PyData.hasDict,PyData.hasDictAll,iT,nM];rfl
theorem nK {p:Addr}{H H1 H2:Hp} (s:af H H1) (hp:H p=none) (k:Kp [p] H1 H2):af H H2:=λb o e=>k b o (s b o e) (by simp;exact aR e hp)
theorem k7 (B:Nat):∀(ts:List Str) (k:Nat) (EL:Str),(∀t∈ts,t.length<=B)->(textFrom k EL ts).length<=EL.length + ts.length * (B + 2)
 | [],k,EL,_=>by simp [textFrom]
 | t::r,k,EL,h=>by
  have ht:=h t AJ;have e2:((", ":Str)).length=2:=by decide
  have e0:(("":Str)).length=0:=by decide
  unfold textFrom;have ih:=λUv=>k7 B r (k + 1) Uv λx hx=>h x (AN _ hx);simp only [Bv];rw [Nat.add_mul]
  first
   | (refine AV (ih _) ?_;split <;> simp only [Cy,e2,e0] <;> omega)
   | (split <;> refine AV (ih _) ?_ <;> simp only [Cy,e2,e0] <;> omega)
theorem shown_list {B:Nat}{ds:List PyData} (h:∀d∈ds,d.shown.length<=B):(PyData.list ds).shown.length<=2 + ds.length * (B + 2):=by
 have q:=k7 B (PyData.shownAll ds) 0 "[" λt ht=>by
  obtain⟨d,hd,rfl⟩:=jq ht;exact h d hd
 rw [jo] at q;have e1:(("[":Str)).length=1:=by decide
 have e2:(("]":Str)).length=1:=by decide
 rw [PyData.shown];unfold listText;rw [Cy,e2];rw [e1] at q;omega
section
open PySem.Spec PyProof.Rows
end
end K93
namespace K93
open PySem L2 PySem.Spec PyProof.Rows PySem.W PySem.Calls
def bW:List Str->List Str->Bool
 | x::xs,y::ys=>if x=y then bW xs ys else decide (x.cps.toList < y.cps.toList)
 | [],_::_=>true
 | _,[]=>false
def dZ (fin:Bool):List Str->List Str->Bool
 | x::xs,y::ys=>if x=y then dZ fin xs ys else decide (x.cps.toList < y.cps.toList)
 | _,_=>fin
theorem oH:∀ss ts:List Str,dZ (decide (ss.length < ts.length)) ss ts=bW ss ts
 | [],[]=>rfl
 | [],_::_=>by simp [dZ,bW]
 | _::_,[]=>by simp [dZ,bW]
 | x::xs,y::ys=>by
  have ih:=oH xs ys;simp only [dZ,bW,Bv];have e:decide (xs.length + 1 < ys.length + 1)=decide (xs.length < ys.length):=by simp
  rw [e,ih]
theorem oJ:∀a:List Str,bW a a=false
 | []=>rfl
 | x::xs=>by simp [bW,oJ xs]
theorem ox:∀a b:List Str,a≠b->bW a b=true\/bW b a=true
 | [],[],h=>absurd rfl h
 | [],_::_,_=>.inl rfl
 | _::_,[],_=>.inr rfl
 | x::xs,y::ys,h=>by
  by_cases e:x=y
  ·subst e
   have:=ox xs ys (λz=>h (by rw [z]));simpa [bW] using this
  ·have e':y≠x:=λz=>e z.symm
   simp only [bW,if_neg e,if_neg e'];exact (j7 e).imp decide_eq_true decide_eq_true
theorem ka (b:List Str):bW b []=false:=by cases b <;> rfl
theorem yp:∀a b c:List Str,bW a b=true->bW b c=true->bW a c=true:=by
 intro a
 induction a with
 | nil =>
  intro b c _ h2;cases c with
  | nil=>rw [ka] at h2;cases h2
  | cons z zs=>rfl
 | cons x xs ih =>
  intro b c h1 h2;cases b with
  | nil=>rw [ka] at h1;cases h1
  | cons y ys =>
   cases c with
   | nil=>rw [ka] at h2;cases h2
   | cons z zs =>
    by_cases e:x=y
    ·subst e
     by_cases e2:x=z
     ·subst e2
      simp only [bW,if_pos] at h1 h2 ⊢;exact ih ys zs h1 h2
     ·simp only [bW,if_neg e2] at h2 ⊢
      exact h2
    ·simp only [bW,if_neg e] at h1
     by_cases e2:y=z
     ·subst e2
      simp only [bW,if_neg e];exact h1
     ·simp only [bW,if_neg e2] at h2
      have l:=Ef (of_decide_eq_true h1) (of_decide_eq_true h2);have e3:x≠z:=λq=>by subst q;exact absurd l (D0 _)
      simp only [bW,if_neg e3];exact decide_eq_true l
theorem pJ {prog:Program}{w:World}{A:Around}{s:zz8}{fin:Bool}{C:Bool->zz8->Prop}:∀{us vs:List zz9}{ss ts:List Str} (i:Nat),StrsAre us ss->StrsAre vs ts->C (dZ fin ss ts) s->KatLex prog w A true fin C (us.zip vs) i s
 | _,_,_,_,i,.nil,_,h=>by
  rw [List.zip_nil_left];simp only [dZ] at h;exact kat_nil h
 | _,_,_,_,i,.cons x t hs,.nil,h=>by
  rw [List.zip_nil_right];simp only [dZ] at h;exact kat_nil h
 | _,_,_,_,i,.cons x t hs,.cons y u ht,h=>by
  rw [List.zip_cons_cons];refine kat_cons (wpAny_eqBool_str ?_)
  by_cases e:x=y
  ·subst e
   rw [decide_eq_true rfl];simp only [dZ,if_pos] at h;exact kat_yes (pJ (i + 1) hs ht h)
  ·rw [decide_eq_false e]
   simp only [dZ,if_neg e] at h;refine kat_no ?_;cases i with
   | zero =>
    show wpAny _ A (oneLt' true _ _) C _ s;exact strKind_oneLt prog w A _ s _ _ _ _ rfl rfl h
   | succ i =>
    show wpAny _ A (oneLt' false _ _) C _ s;exact kat_one _ _ (PySem.P.lt_str (show PySem.W.BoolBack C (Value.bool (decide (x.cps.toList < y.cps.toList))) s from h))
theorem mz {P:Program}{w:World}{H:Hp}{h:Heap} (ok:FB P w H h) {lts:List (Addr×List Str)} (hL:aJ H lts) {us:List zz9} (r:av (ah lts) us) (i:Nat) (hi:i < us.length) :
  ∃a o EE n,us.getD i Value.none=.ref a/\h.get? a=some o/\o.cls=.type "tuple"/\o.data=.seq EE.toArray n/\StrsAre EE ((lts.map (·.2)).getD i [])/\∃x∈lts,x.2=(lts.map (·.2)).getD i []:=by
 have hl:=r.length;rw [Av] at hl;have GP:i < lts.length:=by omega
 have e1:(ah lts)[i]?=some (V.ref lts[i].1):=by rw [AH,AD GP];rfl
 obtain⟨u,e2,ru⟩:=r.get e1;cases ru;have em:(lts.map (·.2)).getD i []=lts[i].2:=by rw [Bs,AH,AD GP];rfl
 obtain⟨_,EE,rv,o,ho,hc,n,hd⟩:=(show aY P w H h lts[i].1 (.tup (lts[i].2.map V.str)) from ok _ _ (hL lts[i] (Bt GP)))
 exact⟨lts[i].1,o,EE,n,by rw [Bs,e2];rfl,ho,hc,hd,by rw [em];exact ip rv,lts[i],Bt GP,em.symm⟩
theorem pd {P:Program}{w:World}{H:Hp}{h:Heap} (ok:FB P w H h):∀{lts:List (Addr×List Str)}{us:List zz9},aJ H lts->(∀x∈lts,x.2≠[])->av (ah lts) us->∃fs ss,KatTups h us fs/\StrsAre fs ss
 | [],_,_,_,.nil=>⟨[],[],.nil,.nil⟩
 | x::t,_,hL,hn,.cons rx rt=>by
  obtain⟨fs,ss,k,q⟩:=pd ok (lts:=t) (λy hy=>hL y (AN _ hy)) (λy hy=>hn y (AN _ hy)) rt;cases rx;obtain⟨_,EE,rv,o,ho,hc,n,hd⟩:=(show aY P w H h x.1 (.tup (x.2.map V.str)) from ok _ _ (hL x AJ))
  have EZ:=hn x AJ;cases hx:x.2 with
  | nil=>exact absurd hx EZ
  | cons y r =>
   rw [hx] at rv;cases rv with
   | @cons _ f _ its' rf _ =>
    obtain⟨tk,rfl⟩:=rf;exact⟨_,_,KatTups.cons ho hc hd (by simp) k,.cons y tk q⟩
theorem mW {h:Heap}:∀{us fs:List zz9},KatTups h us fs->us.length=fs.length
 | [],[],_=>rfl
 | _::_,_::_,⟨_,r⟩=>by rw [Bv,Bv,mW r]
 | [],_::_,z=>z.elim
 | _::_,[],z=>z.elim
theorem rH {X:Cx}:bJ X (.builtin "sorted") (λxs H Q=>∃(p:Addr) (lts:List (Addr×List Str)),xs=[.ref p]/\EF X.K H p (ah lts)/\aJ H lts/\lts.length < 64/\(lts.map (·.2)).Nodup/\(∀x∈lts,x.2≠[]) /\
  ∀(Jj:List (Addr×List Str)) (q:Addr),Jj.Perm lts->(Jj.map (·.2)).Pairwise (λa b=>bW a b=true)->H q=none->Q (.ref q) (upd H q (.lst (ah Jj)))):=by
 intro pins s σ H xs us Q I r h;obtain⟨p,lts,rfl,hq,hL,J1,Fz,EZ,q⟩:=h;obtain⟨u,rfl,rx⟩:=vals1 r;cases rx;obtain⟨EE,r',pl,hz⟩:=I.list hq;obtain⟨o,ho,hc,n,hd⟩:=pl.isList;have hl:=r'.length;have Gw:EE.length=lts.length:=by rw [<- hl];simp
 have O:Ord EE.length (λi j=>bW ((lts.map (·.2)).getD i []) ((lts.map (·.2)).getD j [])):=by
  refine⟨λi j k h1 h2=>yp _ _ _ h1 h2,λi=>oJ _,λi j hi hj FW=>ox _ _ ?_⟩;have Gx:i < (lts.map (·.2)).length:=by simpa [<- Gw] using hi
  have FK:j < (lts.map (·.2)).length:=by simpa [<- Gw] using hj
  rw [Bs,Bs,AD Gx,AD FK];show (lts.map (·.2))[i]≠(lts.map (·.2))[j]
  rcases CK FW with y | y
  ·exact Bb.mp Fz i j Gx FK y
  ·exact λz=>Bb.mp Fz j i FK Gx y z.symm
 refine nZ (.inl rfl) ho hc hd (by omega) O (λh2 s' FO=>?_) λpm hp ha=>?_
 ·have ok:=I.hok.kept FO
  obtain⟨fs,ss,t,hS⟩:=pd ok hL EZ r';have GQ:0 < fs.length:=by
   have e1:=mW t;omega
  refine⟨tuples' (Value.type "str" != Value.type "tuple"),λQ q=>kat_kind (T:=Value.type "str") t GQ (λv hv=>?_) (by decide) q,λi j C hi hj FW q=>?_⟩
  ·obtain⟨x,u,rfl⟩:=hS.all v hv
   exact Looks.now
  ·obtain⟨a,o1,i1,n1,a1,a2,a3,a4,a5,_⟩:=mz ok hL r' i hi
   obtain⟨b,o2,i2,n2,b1,b2,b3,b4,b5,_⟩:=mz ok hL r' j hj;unfold kas_ask;rw [a1,b1];refine kat_lt a2 a4 b2 b4 ?_;show KatLex _ _ _ true (decide (i1.toArray.size < i2.toArray.size)) C (i1.zip i2) 0 s';refine pJ 0 a5 b5 ?_;rw [AR,AR,a5.length,b5.length,oH];exact q
 ·obtain⟨e,he⟩:=sortedAll_at s.heap EE (dW EE pm).toArray
  have E8:Pm lts.length pm:=by rw [<- Gw];exact hp
  have EM:∀i∈pm.toList,i < lts.length:=λi hi=>by
   have:i∈(List.toArray (List.range lts.length)):=E8.mem_iff.mp (by simpa using hi);simpa using this
  have hv:av ((pm.toList.map λi=>(ah lts).getD i .non)) (dW EE pm):=jC r' λi hi=>by simpa using EM i hi
  have LL:(pm.toList.map λi=>(ah lts).getD i .non)=ah (pm.toList.map λi=>lts.getD i (0,[])):=by
   unfold ah;rw [Bf];exact Cp λi hi=>by simp [EM i hi]
  rw [LL] at hv;have KF:H (s.heap.objs.size + 1)=none:=I.hok.fresh (Cu _);have OL:=lR (0,([]:List Str)) lts E8;refine⟨.ref (s.heap.objs.size + 1),_,I.laid (t':=s.toks) (o:=.lst (ah (pm.toList.map λi=>lts.getD i (0,[])))) (λb o z=>sortedAll_old z) (Cu _) ⟨?_,dW EE pm,e,hv,?_⟩,rfl,q _ _ OL ?_ KF⟩
  ·rw [Av,OL.length_eq,Br];omega
  ·simpa [seqObj] using he
  ·rw [Bf,Ca]
   refine Bb.mpr λi j hi hj FW=>?_;have Ib:=hp.size;have GP:i < pm.size:=by simpa using hi
   have JY:j < pm.size:=by simpa using hj
   have z:=ha i j FW (by omega);rw [ft GP,ft JY] at z;have b1:=EM pm.toList[i] (Bt _);have b2:=EM pm.toList[j] (Bt _);simp only [Array.getElem_toList] at b1 b2 ⊢;simpa [b1,b2] using z
end K93
namespace K93
open PySem L2
theorem rO {ps:List Str}{root:Str}{i:Nat}{p:Str} (h:ps[i]?=some p):others (ps.take (i + 1)) root=others (ps.take i) root++(if p=root then [] else [p]):=by
 unfold others;rw [bH _ _ _ _ h]
 by_cases c:p=root
 ·simp [c]
 ·simp [c]
variable {P:Program}{w:World}{K:zz7}{mg:Str->Option zz9}{base:Heap}{f:Addr}{fd:FuncData}
def oz:Sp:=λvs H Q _=>∃(v pa ra:Addr) (ps:List Str) (rs:List (Addr×Row)) (root:Str),vs=[.ref v,.str root]/\bA H v pa ra ps rs/\ps.length<=6/\ps.Nodup/\root∈ps /\
 ∀(q:Addr) (lts:List (Addr×List Str)) (H':Hp),af H H'->H q=none->H' q=some (.lst (ah lts))->aJ H' lts->(lts.map (·.2)).Perm (aL (others ps root))->(lts.map (·.2)).Pairwise (λa b=>bW a b=true)->Q (.ref q) H'
abbrev N66:List Str:=["_law_web_here","_law_root","_law_found","_law_place"]
theorem jf:aH N66 ["_law_web_here","_law_root"] (aC (top 66)):=⟨rfl,rfl,rfl,by decide +kernel,rfl,by decide +kernel,by decide +kernel⟩
theorem vd (F:EW K "_law_lots" "_law_lots" (top 66) f fd) (B:Bl mg):aD P w K mg base EU 1 f fd ["_law_web_here","_law_root"] oz:=by
 refine F.ok jf (λvs H Q E h=>?_) (λ_ _ _ _ H vs Q E hr h=>?_)
 ·obtain⟨v,pa,ra,ps,rs,root,rfl,_⟩:=h
  rfl
 ·obtain⟨v,pa,ra,ps,rs,root,rfl,W,p6,Fz,EO,k⟩:=h
  refine⟨_,ak (aA (i:=2) jf.nd rfl (Or.inl rfl) (bw (aa (cf ae) ae)))
   (ak (bZ Bm rfl (bC (ax aG (pv 0) am (λ_ _=>rfl))) (bc (i:=3) jf.nd rfl (Or.inr rfl))
    (ar (aS (aB cj (pv 3) (pv 1) (aT _)) (ar (aA (i:=2) jf.nd rfl (Or.inl rfl) (ba dF (pv 2) (aZ (N:=["_law_lot","_law_place"]) (ix:=[none,some 3]) ⟨rfl,rfl,rfl,by decide⟩ rfl (bv (pv 2)) (λ_ _ _ _=>aF 0 (by decide) rfl rfl) (λ_ _ _ _=>bz)
     (λ_ _ _ _=>ba (mB K) (pv 0) (cf (aa (pv 1) ae))))))) aV)))
   (ar (aM (au rH rfl B.sorted da (aa (fh fM (pv 2) (fk am) fj) ae))))),?_⟩
  refine⟨Be _,λe0 JE=>⟨by show 1<=sizeLine;decide,λf0 MZ=>?_⟩⟩;have s0:=ai (o:=.lst [.ref e0]) (ai (o:=.tup []) (af.refl H) JE) MZ;have E0:upd (upd H e0 (.tup [])) f0 (.lst [.ref e0]) e0=some (.tup ((([]:List Str)).map V.str)):=by
   rw [ao (λz=>by rw [<- z,ag] at MZ;cases MZ),ag];rfl
  have F0:upd (upd H e0 (.tup [])) f0 (.lst [.ref e0]) f0=some (.lst (ah [(e0,[])])):=ag;generalize upd (upd H e0 (.tup [])) f0 (.lst [.ref e0])=H0 at s0 E0 F0 ⊢;have W0:=W.same s0;refine⟨_,rfl,ay (j:=0) (.inr (EG.of W0.tp)) rfl rfl ⟨pa,rfl,⟨_,EG.of W0.pl⟩,?_⟩⟩;refine gC (K:=K) (a:=pa) (xs:=ps.map V.str) (λi σ H1=>af H H1/\∃(fo:Addr) (lts:List (Addr×List Str)) (g:Option V),σ=[some (.ref v),some (.str root),some (.ref fo),g]/\H1 fo=some (.lst (ah lts))/\aJ H1 lts/\lts.map (·.2)=subs (others (ps.take i) root))
   ⟨s0,f0,[(e0,[])],none,rfl,F0,aJ.one E0,rfl⟩ (λi σ H1 _ q=>EG.of (q.1 _ _ W.pl)) ?_ ?_
  ·rintro i x σ H1 hx ⟨s1,fo,lts,g,rfl,F1,A1,e1⟩
   rw [AH] at hx;cases hc:ps[i]? with
   | none=>rw [hc] at hx;cases hx
   | some pl =>
    rw [hc] at hx;cases hx;have hi:i < ps.length:=(AE.mp hc).1;have IR:(others (ps.take i) root).length<=6:=by
     have:=tq (ps.take i) root;rw [AW] at this;omega
    have EJ:lts.length<=256:=by
     have q:=congrArg List.length e1;rw [Av,jP] at q;rw [q];exact iV (by omega)
    have RW:∀x∈lts,x.2.length<=8:=λx hx=>by
     have q:=(iI (others (ps.take i) root) x.2 (by rw [<- e1];exact AC hx)).length_le;omega
    have os:=rO (root:=root) hc;refine⟨_,rfl,_,rfl,rfl,_,rfl,?_⟩;have en:(!decide (V.str pl=V.str root))=!decide (pl=root):=by simp
    rw [en]
    by_cases cr:pl=root
    ·rw [decide_eq_true cr]
     rw [if_pos cr,De] at os;exact aN ⟨s1,fo,lts,_,rfl,F1,A1,by rw [os];exact e1⟩
    rw [decide_eq_false cr];rw [if_neg cr] at os;refine bK ?_
    refine⟨_,rfl,_,rfl,fo,rfl,⟨_,EF.of F1⟩,c9 (xs:=ah lts) (fits (by rw [Av];omega)) (λj ys σ H2=>(∃qs:List (Addr×List Str),ys=ah qs/\aJ H2 qs/\qs.map (·.2)=((lts.take j).map (·.2)).map λl=>l++[pl])/\af H1 H2/\∃v,σ=[v,some (.str pl)])
     ⟨⟨[],rfl,by simp [aJ],rfl⟩,af.refl _,_,rfl⟩ (λj ys σ H2 _ q=>?_) ?_ ?_⟩
    ·obtain⟨⟨qs,rfl,_,e⟩,s2,_⟩:=q
     have q:=congrArg List.length e;simp only [Av,AW] at q;exact⟨by rw [Av];omega,EF.of (s2 _ _ F1)⟩
    ·rintro j y ys σ H2 hy ⟨⟨qs,rfl,A2,e2⟩,s2,v,rfl⟩
     obtain⟨lt,EM,rfl⟩:=cz hy;have hm:=AB EM;refine⟨_,rfl,_,rfl,by show 1<=sizeLine;decide,λt ht=>?_⟩;have s3:=ai (o:=.tup [.str pl]) s2 ht;have Iv:=ai (o:=.tup [.str pl]) (af.refl H2) ht;have t3:upd H2 t (.tup [.str pl]) t=some (.tup ([pl].map V.str)):=ag;generalize upd H2 t (.tup [.str pl])=H3 at s3 Iv t3 ⊢;have hz:=RW lt hm;have Pt:∀z,qs.map (·.2)++[z]=((lts.take j).map (·.2)).map (λl=>l++[pl])++[z]:=λz=>by rw [e2]
     have Pr:((lts.take (j + 1)).map (·.2)).map (λl=>l++[pl])=((lts.take j).map (·.2)).map (λl=>l++[pl])++[lt.2++[pl]]:=by
      rw [Bg,EM,AU,AU];rfl
     refine⟨lt.1,t,lt.2.map V.str,[.str pl],rfl,rfl,EG.of (s3 _ _ (A1 lt hm)),EG.of t3,by rw [Br];simp;omega,λe=>?_,λe=>(by cases e),λp hp=>?_⟩
     ·have e':lt.2=[]:=by simpa using e
      exact⟨⟨qs++[(t,lt.2++[pl])],by simp [ah],(A2.same Iv).app (aJ.one (by rw [e'];exact t3)),by rw [AU,Pr];exact Pt _⟩,s3,_,rfl⟩
     ·have Jd:=ai (o:=.tup (lt.2.map V.str++[.str pl])) Iv hp
      exact⟨⟨qs++[(p,lt.2++[pl])],by simp [ah],(A2.same Jd).app (aJ.one (by rw [ag,AU];rfl)),by rw [AU,Pr];exact Pt _⟩,ai s3 hp,_,rfl⟩
    ·rintro ys σ H2 ⟨⟨qs,rfl,A2,e2⟩,s2,v,rfl⟩ q hq
     rw [take_all lts (by simp)] at e2;have LC:qs.length=lts.length:=by
      have q:=congrArg List.length e2;simpa using q
     have Iv:=ai (o:=.lst (ah qs)) (af.refl H2) hq;refine⟨fo,q,_,_,rfl,rfl,Iv _ _ (s2 _ _ F1),ag,by rw [Br,Av,Av];omega,λq2 MG=>?_⟩;have Jd:=ai (o:=.lst (ah lts++ah qs)) Iv MG;refine⟨s1.trans (s2.trans Jd),q2,lts++qs,_,rfl,by rw [ag];simp [ah],(A1.same (s2.trans Jd)).app (A2.same Jd),?_⟩;rw [AU,e2,e1,os,fg]
  ·rintro σ H1 ⟨s1,fo,lts,g,rfl,F1,A1,e1⟩
   rw [take_all ps (by simp),fN] at e1;have Kk:=lV root Fz;cases lts with
   | nil=>cases e1
   | cons h0 rest =>
    obtain⟨eh,er⟩:=Eg (show h0.2::rest.map (·.2)=[]::aL (others ps root) from e1);refine⟨_,rfl,_,rfl,fo,_,rfl,EF.of F1,λq hq=>?_⟩;rw [show ah (h0::rest)=V.ref h0.1::ah rest from rfl,lq];have s2:=ai (o:=.lst (ah rest)) (af.refl H1) hq;have q2:upd H1 q (.lst (ah rest)) q=some (.lst (ah rest)):=ag;generalize upd H1 q (.lst (ah rest))=H2 at s2 q2 ⊢;have A2:aJ H2 rest:=λx hx=>s2 _ _ (A1 x (AN _ hx));have JX:rest.length<=31:=by
     have e2:=congrArg List.length er;rw [Av] at e2;have e3:=iC (others ps root);have Ju:(others ps root).length<=5:=by
      unfold others;have EM:(ps.filter λy=>!decide (y=root)).length < ps.length:=by
       refine B8.mpr ⟨root,EO,by simp⟩
      omega
     have e5:=DQ (show 0 < 2 by decide) Ju;have e6:2 ^ 5=32:=by decide
     omega
    refine⟨q,rest,rfl,EF.of q2,A2,by omega,by rw [er];exact il Kk,λx hx=>?_,λJj z hp Ks hz=>?_⟩
    ·have Fm:x.2∈aL (others ps root):=by rw [<- er];exact AC hx
     exact ((de Kk).mp Fm).2
    ·have FN:=s1.trans s2
     refine k z Jj _ (ai FN hz) (FN.free hz) ag (λx hx=>ai (af.refl H2) hz _ _ (A2 x (hp.mem_iff.mp hx))) ?_ Ks;rw [<- er];exact hp.map _
theorem wL {ps ls:List Str}{nm:Str}{r:Row} (h1:r.2.1∈ps) (h2:r.2.2∈ps) (EZ:r.2.1≠r.2.2) (Fo:nm∉outs ps ls):G4 (shr ls nm r)=(!(decide (r.2.1∈ls) && decide (r.2.2∈ls))):=by
 unfold G4 shr sb
 by_cases c1:r.2.1∈ls
 ·by_cases c2:r.2.2∈ls
  ·simp [c1,c2]
  ·have:nm≠r.2.2:=λe=>Fo (e ▸ bF.mpr ⟨h2,c2⟩)
   simp [c1,c2,this]
 ·by_cases c2:r.2.2∈ls
  ·have:r.2.1≠nm:=λe=>Fo (e ▸ bF.mpr ⟨h1,c1⟩)
   simp [c1,c2,this]
  ·simp [c1,c2,EZ]
theorem gS {K:zz7}{H:Hp}{p:Addr}{x y v:V}{b b':Bool}{Q:VK} (e:b=b') (hv:(if b'=true then y else x)=v) (h:EF K H p [x,y]) (q:Q v H):Qi K (.ref p) (.int (if b=true then 1 else 0)) H Q:=by
 subst e hv;cases b
 ·exact ay (j:=0) (.inl h) rfl rfl q
 ·exact ay (j:=1) (.inl h) rfl rfl q
theorem iL (ls:List Str) (nm x:Str):(if decide (x∈ls)=true then V.str nm else V.str x)=V.str (sb ls nm x):=by unfold sb;by_cases c:x∈ls <;> simp [c]
theorem wI (ls:List Str) (nm x:Str):(if decide (x∈ls)=true then V.str x else V.str nm)=V.str (if x∈ls then x else nm):=by by_cases c:x∈ls <;> simp [c]
abbrev N68:List Str:=["_law_web_here","_law_lot","_law_name_here","_law_ties","_law_tie","_law_begin","_law_end"]
theorem gX:aH N68 ["_law_web_here","_law_lot","_law_name_here"] (aC (top 68)):=⟨rfl,rfl,rfl,by decide +kernel,rfl,by decide +kernel,by decide +kernel⟩
theorem wu (F:EW K "_law_shrunk" "_law_shrunk" (top 68) f fd) (B:Bl mg):aD P w K mg base EU 1 f fd ["_law_web_here","_law_lot","_law_name_here"] gx:=by
 refine F.ok gX (λvs H Q E h=>?_) (λ_ _ _ _ H vs Q E hr h=>?_)
 ·obtain⟨v,pa,ra,l,ps,ls,nm,rs,rfl,_⟩:=h
  rfl
 ·obtain⟨v,pa,ra,l,ps,ls,nm,rs,rfl,W,G,hl,L,E2,Fo,hz,k⟩:=h
  refine⟨_,ak (aA (i:=3) gX.nd rfl (Or.inl rfl) (bw ae))
   (ak (bZ Bm rfl (bC (ax aG (pv 0) am (λ_ _=>rfl))) (dU rfl (n:=3) (bG (bc (i:=4) gX.nd rfl (Or.inl rfl)) (bG (bc (i:=5) gX.nd rfl (Or.inl rfl)) (bG (bc (i:=6) gX.nd rfl (Or.inl rfl)) dq))))
    (ar (aS (PW.pt (cq (aB fA (pv 5) (pv 1) (by with_unfolding_all rfl)) (cw (aB fA (pv 6) (pv 1) (by with_unfolding_all rfl)))))
     (ar (bg (cH Bo BB BC dj (pv 3) (aa (cf (aa (pv 4)
      (aa (ax aG (bw (aa (pv 5) (aa (pv 2) ae))) (bP jD rfl B.int i9 (aa (cS cW (pv 5) (pv 1) (by with_unfolding_all rfl)) ae)) (λ_ _=>rfl))
      (aa (ax aG (bw (aa (pv 6) (aa (pv 2) ae))) (bP jD rfl B.int i9 (aa (cS cW (pv 6) (pv 1) (by with_unfolding_all rfl)) ae)) (λ_ _=>rfl)) ae)))) ae)))) aV)))
   (ar (aM (cf (aa (bP c8 rfl B.tuple cv (aa (au eP rfl B.sorted da (aa (ba dF (aZ (N:=["_law_place","_law_lot"]) (ix:=[none,some 1]) ⟨rfl,rfl,rfl,by decide⟩ rfl (bC (ax aG (pv 0) am (λ_ _=>rfl))) (λ_ _ _ _=>aF 0 (by decide) rfl rfl)
    (λ_ _ _ _=>bL (aB (eu K) (pv 0) (pv 1) (by with_unfolding_all rfl))) (λ_ _ _ _=>pv 0)) (bw (aa (pv 2) ae))) ae)) ae)) (aa (bP c8 rfl B.tuple cv (aa (pv 3) ae)) ae)))))),?_⟩
  have GM:ps.Nodup:=bU G.so;have Hr:rs.length<=60:=by have:=G.rz;simpa using this
  refine⟨Be _,λt ht=>?_⟩;have s1:=ai (o:=.lst []) (af.refl H) ht;have t1:upd H t (.lst []) t=some (.lst (aj [])):=ag;generalize upd H t (.lst [])=H1 at s1 t1 ⊢;have W1:=W.same s1;refine⟨_,rfl,ay (j:=1) (.inr (EG.of W1.tp)) rfl rfl ⟨ra,rfl,⟨_,EG.of W1.rl⟩,?_⟩⟩;refine gC (K:=K) (a:=ra) (xs:=aj rs) (λi σ H2=>∃(rr:List (Addr×Row)) (g4 g5 g6:Option V),σ=[some (.ref v),some (.ref l),some (.str nm),some (.ref t),g4,g5,g6]/\af H H2/\H2 t=some (.lst (aj rr))/\rr.map (·.2)=br ls nm ((rs.map (·.2)).take i)/\rr.length<=i/\∀r∈rr,b7 H2 r.1 r.2)
   ⟨[],_,_,_,rfl,s1,t1,rfl,AF _,by simp⟩ (λi σ H2 _ q=>by obtain⟨_,_,_,_,_,s2,_⟩:=q;exact EG.of (s2 _ _ W.rl)) ?_ ?_
  ·rintro i y σ H2 hy ⟨rr,g4,g5,g6,rfl,s2,t2,e,EJ,FE⟩
   obtain⟨r,FS,rfl⟩:=bY hy;have GO:=AB FS;have Gx:i < rs.length:=(AE.mp FS).1;have ER:=s2 _ _ (W.rows r GO);obtain⟨_,q2,q3,q4⟩:=G.rn r.2 (AC GO);have Hs:(rs.map (·.2))[i]?=some r.2:=by rw [AH,FS];rfl
   have l2:=s2 _ _ hl;have nf:=wL q2 q3 q4 Fo;refine⟨r.1,_,rfl,EG.of ER,rfl,_,_,rfl,_,_,rfl,_,_,rfl,rfl,?_⟩;refine⟨_,rfl,_,rfl,l,_,rfl,.inr (EG.of l2),rfl,aW ls,_,rfl,?_⟩;rw [aX];show if (!decide (r.2.2.1∈ls))=true then _ else _;have put:G4 (shr ls nm r.2)=true->∀Nx:St->Hp->Prop,(∀σ H3,(∃(rr:List (Addr×Row)) (g4 g5 g6:Option V),σ=[some (.ref v),some (.ref l),some (.str nm),some (.ref t),g4,g5,g6]/\af H H3/\H3 t=some (.lst (aj rr))/\rr.map (·.2)=br ls nm ((rs.map (·.2)).take (i + 1))/\rr.length<=i + 1/\∀r∈rr,b7 H3 r.1 r.2)->Nx σ H3) ->
     ∀(n:Addr) (H3:Hp),af H2 H3->H3 n=some (.tup [.str r.2.1,.str (sb ls nm r.2.2.1),.str (sb ls nm r.2.2.2)])->Nx [some (.ref v),some (.ref l),some (.str nm),some (.ref t),some (.str r.2.1),some (.str r.2.2.1),some (.str r.2.2.2)] (upd H3 t (.lst (aj rr++[.ref n]))):=λOS Nx hN n H3 s3 hn=>by
    have t3:=s3 _ _ t2;refine hN _ _ ⟨rr++[(n,shr ls nm r.2)],_,_,_,rfl,af.upd0 (s2.trans s3) ht,by rw [ag];simp [aj],?_,by simp;omega,λq hq=>?_⟩
    ·rw [AU,e,iu Hs,OS];rfl
    ·rcases AO.mp hq with z | z
     ·have:=s3 _ _ (FE q z)
      show upd H3 t _ q.1=_;rw [ao (tup_ne this t3)];exact this
     ·have e':q=(n,shr ls nm r.2):=by simpa using z
      subst e';show upd H3 t _ n=_;rw [ao (tup_ne hn t3)];exact hn
   by_cases c1:r.2.2.1∈ls
   ·rw [decide_eq_true c1]
    refine aN ⟨_,rfl,_,rfl,l,_,rfl,.inr (EG.of l2),rfl,aW ls,_,rfl,?_⟩;rw [aX];show if (!decide (r.2.2.2∈ls))=true then _ else _
    by_cases c2:r.2.2.2∈ls
    ·rw [decide_eq_true c2]
     refine aN ⟨rr,_,_,_,rfl,s2,t2,?_,by omega,FE⟩;rw [e,iu Hs,nf];simp [c1,c2]
    ·rw [decide_eq_false c2]
     have OS:G4 (shr ls nm r.2)=true:=by rw [nf];simp [c2]
     refine bK ⟨_,rfl,.inl ⟨rfl,_,EF.of t2⟩,_,rfl,_,rfl,_,rfl,by show 2<=sizeLine;decide,λb1 HB=>?_⟩;have s3:=ai (o:=.lst [.str r.2.2.1,.str nm]) (af.refl H2) HB;have b3:upd H2 b1 (.lst [.str r.2.2.1,.str nm]) b1=some (.lst [.str r.2.2.1,.str nm]):=ag;generalize upd H2 b1 (.lst [.str r.2.2.1,.str nm])=H3 at s3 b3 ⊢;refine⟨_,rfl,_,rfl,l,_,rfl,.inr (EG.of (s3 _ _ l2)),rfl,aW ls,.inr ⟨_,rfl,gS (aX _ _) (iL _ _ _) (EF.of b3) ?_⟩⟩;refine⟨_,rfl,_,rfl,by show 2<=sizeLine;decide,λb2 IE=>?_⟩;have s4:=ai (o:=.lst [.str r.2.2.2,.str nm]) (af.refl H3) IE;have b4:upd H3 b2 (.lst [.str r.2.2.2,.str nm]) b2=some (.lst [.str r.2.2.2,.str nm]):=ag;generalize upd H3 b2 (.lst [.str r.2.2.2,.str nm])=H4 at s4 b4 ⊢;have Mc:=s3.trans s4;refine⟨_,rfl,_,rfl,l,_,rfl,.inr (EG.of (Mc _ _ l2)),rfl,aW ls,.inr ⟨_,rfl,gS (aX _ _) (iL _ _ _) (EF.of b4) ?_⟩⟩;refine⟨by show 3<=sizeLine;decide,λn hn=>?_⟩;have s5:=ai (o:=.tup [.str r.2.1,.str (sb ls nm r.2.2.1),.str (sb ls nm r.2.2.2)]) (af.refl H4) hn;have n5:upd H4 n (.tup [.str r.2.1,.str (sb ls nm r.2.2.1),.str (sb ls nm r.2.2.2)]) n=some (.tup [.str r.2.1,.str (sb ls nm r.2.2.1),.str (sb ls nm r.2.2.2)]):=ag;have Kg:=Mc.trans s5;exact⟨t,_,_,rfl,rfl,Kg _ _ t2,fits (by simp;omega),put OS _ (λ_ _ z=>z) n _ Kg n5⟩
   ·rw [decide_eq_false c1]
    have OS:G4 (shr ls nm r.2)=true:=by rw [nf];simp [c1]
    refine bK (bK ⟨_,rfl,.inl ⟨rfl,_,EF.of t2⟩,_,rfl,_,rfl,_,rfl,by show 2<=sizeLine;decide,λb1 HB=>?_⟩);have s3:=ai (o:=.lst [.str r.2.2.1,.str nm]) (af.refl H2) HB;have b3:upd H2 b1 (.lst [.str r.2.2.1,.str nm]) b1=some (.lst [.str r.2.2.1,.str nm]):=ag;generalize upd H2 b1 (.lst [.str r.2.2.1,.str nm])=H3 at s3 b3 ⊢;refine⟨_,rfl,_,rfl,l,_,rfl,.inr (EG.of (s3 _ _ l2)),rfl,aW ls,.inr ⟨_,rfl,gS (aX _ _) (iL _ _ _) (EF.of b3) ?_⟩⟩;refine⟨_,rfl,_,rfl,by show 2<=sizeLine;decide,λb2 IE=>?_⟩;have s4:=ai (o:=.lst [.str r.2.2.2,.str nm]) (af.refl H3) IE;have b4:upd H3 b2 (.lst [.str r.2.2.2,.str nm]) b2=some (.lst [.str r.2.2.2,.str nm]):=ag;generalize upd H3 b2 (.lst [.str r.2.2.2,.str nm])=H4 at s4 b4 ⊢;have Mc:=s3.trans s4;refine⟨_,rfl,_,rfl,l,_,rfl,.inr (EG.of (Mc _ _ l2)),rfl,aW ls,.inr ⟨_,rfl,gS (aX _ _) (iL _ _ _) (EF.of b4) ?_⟩⟩;refine⟨by show 3<=sizeLine;decide,λn hn=>?_⟩;have s5:=ai (o:=.tup [.str r.2.1,.str (sb ls nm r.2.2.1),.str (sb ls nm r.2.2.2)]) (af.refl H4) hn;have n5:upd H4 n (.tup [.str r.2.1,.str (sb ls nm r.2.2.1),.str (sb ls nm r.2.2.2)]) n=some (.tup [.str r.2.1,.str (sb ls nm r.2.2.1),.str (sb ls nm r.2.2.2)]):=ag;have Kg:=Mc.trans s5;exact⟨t,_,_,rfl,rfl,Kg _ _ t2,fits (by simp;omega),put OS _ (λ_ _ z=>z) n _ Kg n5⟩
  rintro σ H2 ⟨rr,g4,g5,g6,rfl,s2,t2,e,EJ,FE⟩;rw [show (aj rs).length=(rs.map (·.2)).length by simp,B6] at e;have W2:=W.same s2;have l2:=s2 _ _ hl
  refine⟨_,rfl,ay (j:=0) (.inr (EG.of W2.tp)) rfl rfl ⟨pa,rfl,⟨_,EG.of W2.pl⟩,cE (xs:=ps.map V.str) (fits (by simp;omega)) (λi ys σ H3=>ys=(outs (ps.take i) ls).map V.str/\H3=H2/\∃x,σ=[x,some (.ref l)]) ⟨rfl,rfl,_,rfl⟩
   (λi ys σ H3 hi q=>⟨by rw [q.1,Av];exact AV (AL _ _) (by simp;omega),by rw [q.2.1];exact EG.of W2.pl⟩) ?_ ?_⟩⟩
  ·rintro i y ys σ H3 hy ⟨rfl,rfl,x,rfl⟩
   rw [AH] at hy;cases hc:ps[i]? with
   | none=>rw [hc] at hy;cases hy
   | some z =>
    rw [hc] at hy;cases hy;have tf:=bH (λz:Str=>!decide (z∈ls)) ps i z hc;refine⟨_,rfl,_,rfl,l,_,rfl,.inr (EG.of l2),rfl,aW ls,_,rfl,?_⟩;rw [aX];show if (!decide (z∈ls))=true then _ else _;refine aU (λc=>⟨_,rfl,?_,rfl,_,rfl⟩) (λc=>⟨?_,rfl,_,rfl⟩)
    ·unfold outs;rw [tf,c];simp
    ·unfold outs;rw [tf];simp only [BA] at c;rw [c];simp
  rintro ys σ H3 ⟨rfl,rfl,x,rfl⟩ l9 KD;rw [take_all ps (by simp)];have IR:(outs ps ls).length<=60:=AV (AL _ _) hz;have s9:=ai (o:=.lst ((outs ps ls).map V.str)) (af.refl H3) KD;have a9:upd H3 l9 (.lst ((outs ps ls).map V.str)) l9=some (.lst ((outs ps ls).map V.str)):=ag;generalize upd H3 l9 (.lst ((outs ps ls).map V.str))=H9 at s9 a9 ⊢;refine⟨_,rfl,by show 1<=sizeLine;decide,λm9 MS=>?_⟩;have E3:=ai (o:=.lst [.str nm]) (af.refl H9) MS;have IJ:upd H9 m9 (.lst [.str nm]) m9=some (.lst [.str nm]):=ag;generalize upd H9 m9 (.lst [.str nm])=E5 at E3 IJ ⊢;refine⟨l9,m9,_,_,rfl,rfl,E3 _ _ a9,IJ,BH (fits (by simp;omega)),λp9 Kw=>?_⟩;have Fy:=ai (o:=.lst ((outs ps ls).map V.str++[.str nm])) (af.refl E5) Kw;have II:upd E5 p9 (.lst ((outs ps ls).map V.str++[.str nm])) p9=some (.lst ((outs ps ls++[nm]).map V.str)):=by rw [ag];simp
  generalize upd E5 p9 (.lst ((outs ps ls).map V.str++[.str nm]))=FI at Fy II ⊢;refine⟨p9,outs ps ls++[nm],rfl,EF.of II,by simp;omega,λps' q E8 GJ hq=>?_⟩;have Gr:=ai (o:=.lst (ps'.map V.str)) (af.refl FI) hq;refine⟨q,_,rfl,.inl ⟨EF.of ag,λGp MI=>?_⟩⟩;have Gm:=ai (o:=.tup (ps'.map V.str)) Gr MI;have Pw:upd (upd FI q (.lst (ps'.map V.str))) Gp (.tup (ps'.map V.str)) Gp=some (.tup (ps'.map V.str)):=ag;generalize upd (upd FI q (.lst (ps'.map V.str))) Gp (.tup (ps'.map V.str))=GX at Gm Pw ⊢;have Gz:=s9.trans (E3.trans (Fy.trans Gm));refine⟨_,rfl,t,_,rfl,.inl ⟨EF.of (Gz _ _ t2),λGn ME=>?_⟩⟩;have GA:=ai (o:=.tup (aj rr)) (af.refl GX) ME;have LP:upd GX Gn (.tup (aj rr)) Gn=some (.tup (aj rr)):=ag;generalize upd GX Gn (.tup (aj rr))=GG at GA LP ⊢;refine⟨by show 2<=sizeLine;decide,λv' HY=>?_⟩;have HE:=ai (o:=.tup [.ref Gp,.ref Gn]) (af.refl GG) HY;have Hn:=Gz.trans (GA.trans HE);exact k v' Gp Gn ps' rr _ (s2.trans Hn) ((s2.trans (Gz.trans GA)).free HY) ⟨ag,HE _ _ (GA _ _ Pw),HE _ _ LP,λr hr=>Hn _ _ (FE r hr)⟩ e E8 (ez GJ (E8.nodup_iff.mpr (fe (lC GM) Fo)))
abbrev N69:List Str:=["_law_web_here","_law_lot","_law_name_here","_law_ties","_law_tie","_law_begin","_law_end"]
theorem hV:aH N69 ["_law_web_here","_law_lot","_law_name_here"] (aC (top 69)):=⟨rfl,rfl,rfl,by decide +kernel,rfl,by decide +kernel,by decide +kernel⟩
theorem vC (F:EW K "_law_within" "_law_within" (top 69) f fd) (B:Bl mg):aD P w K mg base EU 1 f fd ["_law_web_here","_law_lot","_law_name_here"] gz:=by
 refine F.ok hV (λvs H Q E h=>?_) (λ_ _ _ _ H vs Q E hr h=>?_)
 ·obtain⟨v,pa,ra,l,ps,ls,nm,rs,rfl,_⟩:=h
  rfl
 ·obtain⟨v,pa,ra,l,ps,ls,nm,rs,rfl,W,G,hl,L,E2,Fo,hz,k⟩:=h
  refine⟨_,ak (aA (i:=3) hV.nd rfl (Or.inl rfl) (bw ae))
   (ak (bZ Bm rfl (bC (ax aG (pv 0) am (λ_ _=>rfl))) (dU rfl (n:=3) (bG (bc (i:=4) hV.nd rfl (Or.inl rfl)) (bG (bc (i:=5) hV.nd rfl (Or.inl rfl)) (bG (bc (i:=6) hV.nd rfl (Or.inl rfl)) dq))))
    (ar (aS (aB cW (pv 6) (pv 1) (by with_unfolding_all rfl))
     (ar (bg (cH Bo BB BC dj (pv 3) (aa (cf (aa (pv 4)
      (aa (ax aG (bw (aa (pv 2) (aa (pv 5) ae))) (bP jD rfl B.int i9 (aa (cS cW (pv 5) (pv 1) (by with_unfolding_all rfl)) ae)) (λ_ _=>rfl))
      (aa (pv 6) ae)))) ae)))) aV)))
   (ar (aM (cf (aa (bP c8 rfl B.tuple cv (aa (au rA rfl B.sorted da (aa (ba jV (pv 1) (cf (aa (pv 2) ae))) ae)) ae)) (aa (bP c8 rfl B.tuple cv (aa (pv 3) ae)) ae)))))),?_⟩
  have Hr:rs.length<=60:=by have:=G.rz;simpa using this
  refine⟨Be _,λt ht=>?_⟩;have s1:=ai (o:=.lst []) (af.refl H) ht;have t1:upd H t (.lst []) t=some (.lst (aj [])):=ag;generalize upd H t (.lst [])=H1 at s1 t1 ⊢;have W1:=W.same s1;refine⟨_,rfl,ay (j:=1) (.inr (EG.of W1.tp)) rfl rfl ⟨ra,rfl,⟨_,EG.of W1.rl⟩,?_⟩⟩;refine gC (K:=K) (a:=ra) (xs:=aj rs) (λi σ H2=>∃(rr:List (Addr×Row)) (g4 g5 g6:Option V),σ=[some (.ref v),some (.ref l),some (.str nm),some (.ref t),g4,g5,g6]/\af H H2/\H2 t=some (.lst (aj rr))/\rr.map (·.2)=bo ls nm ((rs.map (·.2)).take i)/\rr.length<=i/\∀r∈rr,b7 H2 r.1 r.2)
   ⟨[],_,_,_,rfl,s1,t1,rfl,AF _,by simp⟩ (λi σ H2 _ q=>by obtain⟨_,_,_,_,_,s2,_⟩:=q;exact EG.of (s2 _ _ W.rl)) ?_ ?_
  ·rintro i y σ H2 hy ⟨rr,g4,g5,g6,rfl,s2,t2,e,EJ,FE⟩
   obtain⟨r,FS,rfl⟩:=bY hy;have GO:=AB FS;have Gx:i < rs.length:=(AE.mp FS).1;have ER:=s2 _ _ (W.rows r GO);have Hs:(rs.map (·.2))[i]?=some r.2:=by rw [AH,FS];rfl
   have l2:=s2 _ _ hl;refine⟨r.1,_,rfl,EG.of ER,rfl,_,_,rfl,_,_,rfl,_,_,rfl,rfl,?_⟩;refine⟨_,rfl,_,rfl,l,_,rfl,.inr (EG.of l2),rfl,aW ls,_,rfl,?_⟩;rw [aX];show if decide (r.2.2.2∈ls)=true then _ else _
   by_cases c1:r.2.2.2∈ls
   ·rw [decide_eq_true c1]
    refine bK ⟨_,rfl,.inl ⟨rfl,_,EF.of t2⟩,_,rfl,_,rfl,_,rfl,by show 2<=sizeLine;decide,λb1 HB=>?_⟩;have s3:=ai (o:=.lst [.str nm,.str r.2.2.1]) (af.refl H2) HB;have b3:upd H2 b1 (.lst [.str nm,.str r.2.2.1]) b1=some (.lst [.str nm,.str r.2.2.1]):=ag;generalize upd H2 b1 (.lst [.str nm,.str r.2.2.1])=H3 at s3 b3 ⊢;refine⟨_,rfl,_,rfl,l,_,rfl,.inr (EG.of (s3 _ _ l2)),rfl,aW ls,.inr ⟨_,rfl,gS (aX _ _) (wI _ _ _) (EF.of b3) ?_⟩⟩;refine⟨_,rfl,by show 3<=sizeLine;decide,λn hn=>?_⟩;have s5:=ai (o:=.tup [.str r.2.1,.str (if r.2.2.1∈ls then r.2.2.1 else nm),.str r.2.2.2]) (af.refl H3) hn;have n5:upd H3 n (.tup [.str r.2.1,.str (if r.2.2.1∈ls then r.2.2.1 else nm),.str r.2.2.2]) n=some (.tup [.str r.2.1,.str (if r.2.2.1∈ls then r.2.2.1 else nm),.str r.2.2.2]):=ag;generalize upd H3 n (.tup [.str r.2.1,.str (if r.2.2.1∈ls then r.2.2.1 else nm),.str r.2.2.2])=H5 at s5 n5 ⊢;have Kg:=s3.trans s5;have t5:=Kg _ _ t2;refine⟨t,_,_,rfl,rfl,t5,fits (by simp;omega),rr++[(n,GT ls nm r.2)],_,_,_,rfl,af.upd0 (s2.trans Kg) ht,by rw [ag];simp [aj],?_,by simp;omega,λq hq=>?_⟩
    ·rw [AU,e,iq Hs];simp [c1]
    ·rcases AO.mp hq with z | z
     ·have:=Kg _ _ (FE q z)
      show upd H5 t _ q.1=_;rw [ao (tup_ne this t5)];exact this
     ·have e':q=(n,GT ls nm r.2):=by simpa using z
      subst e';show upd H5 t _ n=_;rw [ao (tup_ne n5 t5)];exact n5
   ·rw [decide_eq_false c1]
    refine aN ⟨rr,_,_,_,rfl,s2,t2,?_,by omega,FE⟩;rw [e,iq Hs];simp [c1]
  rintro σ H3 ⟨rr,g4,g5,g6,rfl,s2,t2,e,EJ,FE⟩;rw [show (aj rs).length=(rs.map (·.2)).length by simp,B6] at e;have l2:=s2 _ _ hl;refine⟨_,rfl,_,rfl,by show 1<=sizeLine;decide,λm9 MS=>?_⟩;have E3:=ai (o:=.tup [.str nm]) (af.refl H3) MS;have IJ:upd H3 m9 (.tup [.str nm]) m9=some (.tup [.str nm]):=ag;generalize upd H3 m9 (.tup [.str nm])=E5 at E3 IJ ⊢;refine⟨l,m9,_,_,rfl,rfl,EG.of (E3 _ _ l2),EG.of IJ,BH (fits (by simp;omega)),λz=>absurd (DY.mp z) L.ne,λz=>(by cases z),λp9 Kw=>?_⟩;have Fy:=ai (o:=.tup (ls.map V.str++[.str nm])) (af.refl E5) Kw;have II:upd E5 p9 (.tup (ls.map V.str++[.str nm])) p9=some (.tup ((ls++[nm]).map V.str)):=by rw [ag];simp
  generalize upd E5 p9 (.tup (ls.map V.str++[.str nm]))=FI at Fy II ⊢;refine⟨p9,ls++[nm],rfl,EG.of II,by simp;omega,λps' q E8 GJ hq=>?_⟩;have Gr:=ai (o:=.lst (ps'.map V.str)) (af.refl FI) hq;refine⟨q,_,rfl,.inl ⟨EF.of ag,λGp MI=>?_⟩⟩;have Gm:=ai (o:=.tup (ps'.map V.str)) Gr MI;have Pw:upd (upd FI q (.lst (ps'.map V.str))) Gp (.tup (ps'.map V.str)) Gp=some (.tup (ps'.map V.str)):=ag;generalize upd (upd FI q (.lst (ps'.map V.str))) Gp (.tup (ps'.map V.str))=GX at Gm Pw ⊢;have Gz:=E3.trans (Fy.trans Gm);refine⟨_,rfl,t,_,rfl,.inl ⟨EF.of (Gz _ _ t2),λGn ME=>?_⟩⟩;have GA:=ai (o:=.tup (aj rr)) (af.refl GX) ME;have LP:upd GX Gn (.tup (aj rr)) Gn=some (.tup (aj rr)):=ag;generalize upd GX Gn (.tup (aj rr))=GG at GA LP ⊢;refine⟨by show 2<=sizeLine;decide,λv' HY=>?_⟩;have HE:=ai (o:=.tup [.ref Gp,.ref Gn]) (af.refl GG) HY;have Hn:=Gz.trans (GA.trans HE);exact k v' Gp Gn ps' rr _ (s2.trans Hn) ((s2.trans (Gz.trans GA)).free HY) ⟨ag,HE _ _ (GA _ _ Pw),HE _ _ LP,λr hr=>Hn _ _ (FE r hr)⟩ e E8 (ez GJ (E8.nodup_iff.mpr (fe (bU L.so) Fo)))
theorem jB {α:Type}{l:List α} (h:l.Nodup):l.reverse.Nodup:=(List.reverse_perm l).nodup_iff.mpr h
theorem lh (w:World) {X:Cx} (hc:X.calm=true) (h:X.w=w:=by rfl):bJ X (.type "set") (λxs H Q=>∃(p:Addr) (ss:List Str),xs=[.ref p]/\EG X.K H p (ss.map V.str)/\ss.length < 3000 /\
  ∀(a:Addr),H a=none->Q (.ref a) (upd H a (cx w a (be ss.reverse)))):=by subst h;exact sg hc
theorem rQ (w:World) {X:Cx} (hc:X.calm=true) (h:X.w=w:=by rfl):bJ X (.type "set") (λxs H Q=>∃(p:Addr) (ss:List Str),xs=[.ref p]/\EF X.K H p (ss.map V.str)/\ss.length < 3000 /\
  ∀(a:Addr),H a=none->Q (.ref a) (upd H a (cx w a (be ss.reverse)))):=by subst h;exact tE hc
theorem sQ (w:World) {X:Cx} (h:X.w=w:=by rfl):bJ X (.builtin "len") (λxs H Q=>∃(a:Addr) (ss:List Str),xs=[.ref a]/\H a=some (cx w a ss)/\Q (.int ss.length) H):=by subst h;exact uD
theorem kZ (w:World) {X:Cx} (hc:X.calm=true) (h:X.w=w:=by rfl):bJ X (.builtin "sorted") (λxs H Q=>∃(a:Addr) (ss:List Str),xs=[.ref a]/\H a=some (cx w a ss)/\ss.length < 64 /\
  ∀(ES:List Str) (q:Addr),ES.Perm ss->PyProof.Rows.sortedS ES=true->H q=none->Q (.ref q) (upd H q (.lst (ES.map V.str)))):=by subst h;exact qM hc
abbrev HX (ds:List Str):List (Key×V):=ds.map λx=>((Sum.inr x:Key),V.bl true)
theorem iK (x:Str):∀ds:List Str,bf (HX ds) (Sum.inr x)=if x∈ds then some (.bl true) else none
 | []=>rfl
 | y::r=>by
  show bf ((Sum.inr y,V.bl true)::HX r) (Sum.inr x)=_
  by_cases e:y=x
  ·subst e
   rw [cR rfl,if_pos AJ]
  ·rw [cM (λz=>e (D2 z)),iK x r]
   by_cases c:x∈r
   ·rw [if_pos c,if_pos (AN _ c)]
   ·rw [if_neg c,if_neg λz=>(AI.mp z).elim (λq=>e q.symm) c]
theorem wQ (x:Str) (ds:List Str):putK (HX ds) (Sum.inr x) (.bl true)=HX (if x∈ds then ds else ds++[x]):=by
 by_cases c:x∈ds
 ·rw [if_pos c]
  unfold putK;rw [eA,iK,if_pos c];show (if true=true then _ else _)=_;rw [if_pos rfl];refine (Cp λkv Z0=>?_).trans (List.map_id _);obtain⟨y,_,rfl⟩:=AG.mp Z0
  by_cases e:(Sum.inr y:Key)=Sum.inr x
  ·rw [if_pos e];rfl
  ·rw [if_neg e];rfl
 ·rw [if_neg c,jN _ (by rw [iK,if_neg c])]
  simp [HX]
def pZ:Sp:=λvs H Q _=>∃(v pa ra th:Addr) (ps:List Str) (rs:List T) (root:Str) (ss:List Str),vs=[.ref v,.str root,.ref th]/\TP H v pa ra th ps rs root ss/\∀H',af H H'->Q (.bl true) H'
abbrev N70:List Str:=["_law_web_here","_law_root","_law_tree","_law_rows","_law_others","_law_there","_law_turn","_law_tie","_law_begin","_law_end"]
theorem fb:aH N70 ["_law_web_here","_law_root","_law_tree"] (aC (top 70)):=⟨rfl,rfl,rfl,by decide +kernel,rfl,by decide +kernel,by decide +kernel⟩
theorem yt (F:EW K "_law_is_tree" "_law_is_tree" (top 70) f fd) (B:Bl mg):aD P w K mg base EU 1 f fd ["_law_web_here","_law_root","_law_tree"] pZ:=by
 refine F.ok fb (λvs H Q E h=>?_) (λ_ _ _ _ H vs Q E hr h=>?_)
 ·obtain⟨v,pa,ra,th,ps,rs,root,ss,rfl,_⟩:=h
  rfl
 ·obtain⟨v,pa,ra,th,ps,rs,root,ss,rfl,t,k⟩:=h
  refine' ⟨_,?d0,?main⟩
  case' d0=>refine' ak (aS (PW.pt (cq (bS (bM (au (dA (T:="tuple")) rfl B.isinstance dz (aa (pv 2) (aa (dC (v:=.ty "tuple") rfl B.tuple cv rfl) ae)))))
    (cw (aB (fV hr) (bP fC rfl B.list eX (aa (pv 2) ae)) (au (kZ w rfl) rfl B.sorted da (aa (bP (lh w rfl) rfl B.set kA (aa (pv 2) ae)) ae)) (aT _))))) bT aV) ?d1
  case' d1=>refine' ak (dB (i:=3) (N:=["_law_row","_law_tree"]) (ix:=[none,some 2]) fb.nd rfl (Or.inl rfl) ⟨rfl,rfl,rfl,by decide⟩ rfl (bC (ax aG (pv 0) am (λ_ _=>rfl))) (λ_ _ _ _=>aF 0 (by decide) rfl rfl) (λ_ _ _ _=>bL (aB (cO K) (ax (bD K) (pv 0) am (λ_ _=>rfl)) (pv 1) (by with_unfolding_all rfl))) (λ_ _ _ _=>pv 0)) ?d2
  case' d2=>refine' ak (dB (i:=4) (N:=["_law_place","_law_root"]) (ix:=[none,some 1]) fb.nd rfl (Or.inl rfl) ⟨rfl,rfl,rfl,by decide⟩ rfl (bC (ax aG (pv 0) am (λ_ _=>rfl))) (λ_ _ _ _=>aF 0 (by decide) rfl rfl) (λ_ _ _ _=>bL (aB cj (pv 0) (pv 1) (aT _))) (λ_ _ _ _=>pv 0)) ?d3
  case' d3=>refine' ak (aS (PW.pt (cq (aB cj (au bb rfl B.len AY (aa (pv 3) ae)) (au bb rfl B.len AY (aa (pv 2) ae)) (aT _))
    (cw (aB (fV hr) (au eP rfl B.sorted da (aa (aZ (N:=["_law_row"]) (ix:=[none]) ⟨rfl,rfl,rfl,by decide⟩ rfl (bv (pv 3)) (λ_ _ _ _=>aF 0 (by decide) rfl rfl) (λ_ _ _ _=>bz) (λ_ _ _ _=>ax (bD K) (pv 0) am (λ_ _=>rfl))) ae)) (pv 4) (aT _))))) bT aV) ?d4
  case' d4=>refine' ak (aA (i:=5) fb.nd rfl (Or.inl rfl) (xf (vh (pv 1) eM wM) rfl rfl (by simp) (by decide))) ?d5
  case' d5=>refine' ak (bZ Bm rfl (bv (pv 3)) (bc (i:=6) fb.nd rfl (Or.inl rfl)) (ar (bZ Bm rfl (bv (pv 3)) (dU rfl (n:=3) (bG (bc (i:=7) fb.nd rfl (Or.inl rfl)) (bG (bc (i:=8) fb.nd rfl (Or.inl rfl)) (bG (bc (i:=9) fb.nd rfl (Or.inl rfl)) dq))))
     (ar (aS (xV (yc (dH hr) (pv 8) (pv 5)) (by with_unfolding_all rfl)) (ar (wx (dH hr) (pv 5) (pv 9) eM rfl)) aV))))) ?d6
  case d6=>exact ar (aM (cS dG (au um rfl B.len AY (aa (pv 5) ae)) (au bb rfl B.len AY (aa (ax aG (pv 0) am (λ_ _=>rfl)) ae)) (aT _)))
  case main =>
  have TW:=t.tr.treeW t.G t.rt;have E2:=t.tr.names t.G;have Ot:=t.tr.nameP t.G;have so:=t.tr.so;have snd:=bU so;have GM:=bU t.G.so;have FV:=TW.len2 GM;have OG:=t.pz;have Hr:=t.rz;have Sv:ss.length=(bj rs ss).length:=by rw [<- E2,Av];rw [E2]
  have Kq:=t.th;refine⟨_,rfl,_,_,true,rfl,.tup Kq,rfl,true,rfl,aN ?_⟩;refine⟨_,rfl,th,_,rfl,.inr (EG.of Kq),λl hl=>?_⟩;have s5:=ai (o:=.lst (ss.map V.str)) (af.refl H) hl;have l5:upd H l (.lst (ss.map V.str)) l=some (.lst (ss.map V.str)):=ag;generalize upd H l (.lst (ss.map V.str))=H5 at s5 l5 ⊢;refine⟨_,rfl,th,ss,rfl,EG.of (s5 _ _ Kq),by omega,λst GE=>?_⟩;have S5:be ss.reverse=ss.reverse:=lK (jB snd);rw [S5];have s6:=ai (o:=cx w st ss.reverse) s5 GE;have l6:upd H5 st (cx w st ss.reverse) l=some (.lst (ss.map V.str)):=by rw [ao (aR l5 GE)];exact l5
  refine⟨st,ss.reverse,rfl,ag,by rw [Dd];omega,λFx q7 OI Su V0=>?_⟩;have eso:Fx=ss:=gn (ez Su (OI.nodup_iff.mpr (jB snd))) so λx=>by rw [OI.mem_iff,List.mem_reverse]
  subst eso;have s7:=ai (o:=.lst (Fx.map V.str)) s6 V0;have l7:upd (upd H5 st (cx w st Fx.reverse)) q7 (.lst (Fx.map V.str)) l=some (.lst (Fx.map V.str)):=by rw [ao (aR l6 V0)];exact l6
  have U7:upd (upd H5 st (cx w st Fx.reverse)) q7 (.lst (Fx.map V.str)) q7=some (.lst (Fx.map V.str)):=ag;generalize upd (upd H5 st (cx w st Fx.reverse)) q7 (.lst (Fx.map V.str))=H7 at s7 l7 U7 ⊢;refine⟨.list (Fx.map PyData.str),.list (Fx.map PyData.str),.lst l7 (Gi.strs Fx),.lst U7 (Gi.strs Fx),(dM Ot).1,(dM Ot).1,_,rfl,?_⟩;have ev:PyData.eqv (.list (Fx.map PyData.str)) (.list (Fx.map PyData.str))=true:=(fD Fx Fx).trans (by simp);rw [ev];refine aN ?_;have W7:=t.W.same s7
  refine⟨_,rfl,ay (j:=1) (.inr (EG.of W7.tp)) rfl rfl ⟨ra,rfl,⟨_,EG.of W7.rl⟩,cE (xs:=aj rs) (fits (by rw [Av];omega)) (λi ys σ H8=>ys=aj (bj (rs.take i) Fx)/\H8=H7/\∃x,σ=[x,some (.ref th)]) ⟨rfl,rfl,_,rfl⟩
   (λi ys σ H8 _ q=>⟨by rw [q.1,Av];exact AV (AL _ _) (by rw [AW];omega),by rw [q.2.1];exact EG.of W7.rl⟩) ?_ ?_⟩⟩
  ·rintro i x ys σ H8 hx ⟨rfl,rfl,z,rfl⟩
   obtain⟨r,EV,rfl⟩:=bY hx;have ER:=W7.rows r (AB EV);have tf:=bH (λr:T=>decide (r.2.1∈Fx)) rs i r EV;refine⟨_,rfl,ay (j:=0) (.inr (EG.of ER)) rfl rfl ⟨_,rfl,th,_,rfl,.inr (EG.of (s7 _ _ Kq)),rfl,aW _,_,rfl,?_⟩⟩;show if FL (.str r.2.1) (Fx.map V.str)=true then _ else _;rw [aX];refine aU (λc=>⟨_,rfl,?_,rfl,_,rfl⟩) (λc=>⟨?_,rfl,_,rfl⟩)
   ·unfold bj;rw [tf,c];simp [aj]
   ·unfold bj;rw [tf];simp only [BA] at c;rw [c];simp
  rintro ys σ H8 ⟨rfl,rfl,z,rfl⟩ Iz SB;have eT:rs.take (aj rs).length=rs:=take_all rs (by simp);rw [eT];have s9:=ai (o:=.lst (aj (bj rs Fx))) s7 SB;have w9:upd H8 Iz (.lst (aj (bj rs Fx))) Iz=some (.lst (aj (bj rs Fx))):=ag;generalize upd H8 Iz (.lst (aj (bj rs Fx)))=H9 at s9 w9 ⊢;have W9:=t.W.same s9;have R9:∀r∈bj rs Fx,b7 H9 r.1 r.2:=λr hr=>W9.rows r (AM.mp hr).1
  refine⟨_,rfl,ay (j:=0) (.inr (EG.of W9.tp)) rfl rfl ⟨pa,rfl,⟨_,EG.of W9.pl⟩,cE (xs:=ps.map V.str) (fits (by rw [Av];omega)) (λi ys σ E5=>ys=((ps.take i).filter λy=>!decide (y=root)).map V.str/\E5=H9/\∃x,σ=[x,some (.str root)]) ⟨rfl,rfl,_,rfl⟩
   (λi ys σ E5 _ q=>⟨by rw [q.1,Av];exact AV (AL _ _) (by rw [AW];omega),by rw [q.2.1];exact EG.of W9.pl⟩) ?_ ?_⟩⟩
  ·rintro i x ys σ E5 hx ⟨rfl,rfl,z,rfl⟩
   rw [AH] at hx;cases hc:ps[i]? with
   | none=>rw [hc] at hx;cases hx
   | some p =>
    rw [hc] at hx;cases hx;have tf:=bH (λy:Str=>!decide (y=root)) ps i p hc;refine⟨_,rfl,_,rfl,rfl,_,rfl,?_⟩;have e:(!decide (V.str p=V.str root))=!decide (p=root):=by congr 1;exact decide_eq_decide.mpr ⟨λh=>V.str.inj h,λh=>by rw [h]⟩
    rw [e];refine aU (λc=>⟨_,rfl,?_,rfl,_,rfl⟩) (λc=>⟨?_,rfl,_,rfl⟩)
    ·rw [tf,c];simp
    ·rw [tf];simp only [BA] at c;rw [c];simp
  rintro ys σ E5 ⟨rfl,rfl,z,rfl⟩ ot OP;rw [take_all ps (by simp)];have Fy:=ai (o:=.lst ((ps.filter λy=>!decide (y=root)).map V.str)) (af.refl E5) OP;have Nq:upd E5 ot (.lst ((ps.filter λy=>!decide (y=root)).map V.str)) ot=some (.lst ((ps.filter λy=>!decide (y=root)).map V.str)):=ag;generalize upd E5 ot (.lst ((ps.filter λy=>!decide (y=root)).map V.str))=FI at Fy Nq ⊢;have Of:=s9.trans Fy;have KZ:=Fy _ _ w9;have Xc:∀r∈bj rs Fx,b7 FI r.1 r.2:=λr hr=>Fy _ _ (R9 r hr);have FE:(aj (bj rs Fx)).length=(bj rs Fx).length:=by simp
  refine⟨_,rfl,Iz,_,rfl,.inl (EF.of KZ),_,rfl,th,_,rfl,.inr (EG.of (Of _ _ Kq)),rfl,_,rfl,?_⟩;have eq1:(!decide (V.int ((aj (bj rs Fx)).length:Int)=V.int ((Fx.map V.str).length:Int)))=false:=by
   rw [FE,Av,Sv];simp
  rw [eq1];refine aN ?_
  refine⟨_,rfl,Iz,rfl,⟨_,EF.of KZ⟩,c9 (xs:=aj (bj rs Fx)) (fits (by omega)) (λi ys σ GK=>ys=(((bj rs Fx).take i).map λr=>r.2.2.2).map V.str/\GK=FI/\∃x,σ=[x]) ⟨rfl,rfl,_,rfl⟩
   (λi ys σ GK _ q=>⟨by rw [q.1,Av,Av,AW];omega,by rw [q.2.1];exact EF.of KZ⟩) ?_ ?_⟩
  ·rintro i x ys σ GK hx ⟨rfl,rfl,z,rfl⟩
   obtain⟨r,EV,rfl⟩:=bY hx;refine⟨_,rfl,ay (j:=2) (.inr (EG.of (Xc r (AB EV)))) rfl rfl ⟨?_,rfl,_,rfl⟩⟩;rw [Bg,EV];simp
  rintro ys σ GK ⟨rfl,rfl,z,rfl⟩ e0 JE;rw [take_all (bj rs Fx) FE];have Gm:=ai (o:=.lst (((bj rs Fx).map λr=>r.2.2.2).map V.str)) (af.refl GK) JE;refine⟨e0,_,rfl,EF.of ag,by rw [Av];omega,λES Ll OJ OC SG=>?_⟩;have GA:=ai (o:=.lst (ES.map V.str)) Gm SG;have Oh:upd (upd GK e0 (.lst (((bj rs Fx).map λr=>r.2.2.2).map V.str))) Ll (.lst (ES.map V.str)) Ll=some (.lst (ES.map V.str)):=ag;generalize upd (upd GK e0 (.lst (((bj rs Fx).map λr=>r.2.2.2).map V.str))) Ll (.lst (ES.map V.str))=GG at GA Oh ⊢;have eo:=TW.others t.G.so OJ OC;have V1:∀x∈ps.filter (λy=>!decide (y=root)),aE x:=λx hx=>t.G.nm x (AM.mp hx).1;refine⟨_,rfl,.list (ES.map PyData.str),.list ((ps.filter λy=>!decide (y=root)).map PyData.str),.lst Oh (Gi.strs _),.lst (GA _ _ Nq) (Gi.strs _),by rw [eo];exact (dM V1).1,(dM V1).1,_,rfl,?_⟩;have ev2:PyData.eqv (.list (ES.map PyData.str)) (.list ((ps.filter λy=>!decide (y=root)).map PyData.str))=true:=by
   rw [eo];exact (fD _ _).trans (by simp)
  rw [ev2];refine aN ?_;have Oe:=Of.trans GA;have Xp:=GA _ _ KZ;intro dd Wr;refine⟨_,rfl,ag,[((Sum.inr root:Key),V.bl true)],rfl,by simp,?_⟩;have eH:upd (upd GG dd (.dK [])) dd (.dK (fQ [] [((Sum.inr root:Key),V.bl true)]))=upd GG dd (.dK (HX [root])):=wq;rw [eH];have HE:=ai (o:=.dK (HX [root])) (af.refl GG) Wr;have d15:upd GG dd (.dK (HX [root])) dd=some (.dK (HX [root])):=ag;generalize upd GG dd (.dK (HX [root]))=JO at HE d15 ⊢;have TR:H dd=none:=Oe.free Wr;have Rg:=Oe.trans HE;obtain⟨d,WQ,WP⟩:=TW.tr.rk;have Q0:=HE _ _ Xp;have Xb:∀r∈bj rs Fx,b7 JO r.1 r.2:=λr hr=>HE _ _ (GA _ _ (Xc r hr));have st:=TW.st;have Jq:∀r∈bj rs Fx,d r.2.2.2=d r.2.2.1 + 1:=λr hr=>WP r.2 (AC (f:=λz:T=>z.2) hr);have Gh:=TW.tr.all;have Wq:∀x∈ps,d x<=(bj rs Fx).length:=by
   obtain⟨d',WE,WD,Pp⟩:=TW.dist;have same:∀x∈ps,d x=d' x:=by
    intro x hx;have go:∀(k:Nat) (x:Str),d' x<=k->x∈ps->d x=d' x:=by
     intro k
     induction k with
     | zero =>
      intro x hk hx
      rcases AI.mp (Gh x hx) with rfl | hm
      ·rw [WQ,WE]
      ·obtain⟨r,hr,rfl⟩:=AG.mp hm
       have:=WD r hr;omega
     | succ k ih =>
      intro x hk hx
      rcases AI.mp (Gh x hx) with rfl | hm
      ·rw [WQ,WE]
      ·obtain⟨r,hr,rfl⟩:=AG.mp hm
       have a:=WD r hr;have b:=WP r hr;obtain⟨r0,IA,rfl⟩:=AG.mp hr;have:=ih r0.2.2.1 (by omega) (st r0 IA).1;omega
    exact go _ x (AF _) hx
   intro x hx;have:=(Pp x hx).2;rw [same x hx];omega
  generalize hRw:bj rs Fx=rw at Q0 Xb st Jq Gh Wq FV FE;have Lw:(aj rw).length=rw.length:=by simp
  refine⟨_,rfl,Iz,rfl,⟨_,EF.of Q0⟩,eB (K:=K) (a:=Iz) (xs:=aj rw) (λi σ Ir=>∃(ds:List Str) (g1 g2 g3 g4:Option V),σ=[some (.ref v),some (.str root),some (.ref th),some (.ref Iz),some (.ref ot),some (.ref dd),g1,g2,g3,g4]/\af H Ir/\Ir Iz=some (.lst (aj rw))/\(∀r∈rw,b7 Ir r.1 r.2)/\Ir dd=some (.dK (HX ds))/\ds.Nodup/\(∀x∈ds,x∈ps)/\∀x∈ps,d x<=i->x∈ds)
   ⟨[root],none,none,none,none,rfl,Rg,Q0,Xb,d15,by simp,(λx hx=>by rw [Bd.mp hx];exact t.rt),λx hx h0=>?_⟩ (λi σ Ir _ q=>by obtain⟨_,_,_,_,_,_,_,N2,_⟩:=q;exact EF.of N2) ?_ ?_⟩
  ·rcases AI.mp (Gh x hx) with rfl | hm
   ·simp
   ·obtain⟨r,hr,rfl⟩:=AG.mp hm
    obtain⟨r0,IA,rfl⟩:=AG.mp hr;have:=Jq r0 IA;omega
  ·rintro i x σ Ir hx ⟨ds,g1,g2,g3,g4,rfl,JS,N2,Xa,d16,J4,GS,Hf⟩
   refine⟨_,rfl,Iz,rfl,⟨_,EF.of N2⟩,eB (K:=K) (a:=Iz) (xs:=aj rw) (λj σ HJ=>∃(ds:List Str) (g1 g2 g3 g4:Option V),σ=[some (.ref v),some (.str root),some (.ref th),some (.ref Iz),some (.ref ot),some (.ref dd),g1,g2,g3,g4]/\af H HJ/\HJ Iz=some (.lst (aj rw))/\(∀r∈rw,b7 HJ r.1 r.2)/\HJ dd=some (.dK (HX ds))/\ds.Nodup/\(∀x∈ds,x∈ps)/\(∀x∈ps,d x<=i->x∈ds)/\∀r∈rw.take j,d r.2.2.1<=i->r.2.2.2∈ds)
    ⟨ds,_,_,_,_,rfl,JS,N2,Xa,d16,J4,GS,Hf,λr hr=>nomatch hr⟩ (λj σ HJ _ q=>by obtain⟨_,_,_,_,_,_,_,LZ,_⟩:=q;exact EF.of LZ) ?_ ?_⟩
   ·rintro j y σ HJ hy ⟨ds,g1,g2,g3,g4,rfl,JR,LZ,NN,d17,J4,GS,Hf,JK⟩
    obtain⟨r,FS,rfl⟩:=bY hy;have GO:=AB FS;have SC:=NN r GO;have hdz:ds.length<=ps.length:=cF J4 GS;refine⟨r.1,_,rfl,EG.of SC,rfl,_,_,rfl,_,_,rfl,_,_,rfl,rfl,?_⟩;refine⟨_,rfl,_,rfl,dd,_,rfl,b8.k (k:=Sum.inr r.2.2.1) d17,_,rfl,?_⟩;rw [iK];have GI:rw.take (j + 1)=rw.take j++[r]:=by rw [Bg,FS];rfl
    by_cases c:r.2.2.1∈ds
    ·rw [if_pos c]
     refine bK ⟨_,rfl,_,rfl,dd,_,rfl,ef.k (k:=Sum.inr r.2.2.2) d17 (fits (by rw [Av];omega)),?_⟩;rw [wQ];have Vj:∀b o,b≠dd->HJ b=some o->upd HJ dd (.dK (HX (if r.2.2.2∈ds then ds else ds++[r.2.2.2]))) b=some o:=λb o hb e=>by rw [ao hb];exact e
     refine⟨if r.2.2.2∈ds then ds else ds++[r.2.2.2],_,_,_,_,rfl,af.upd0 JR TR,Vj _ _ (gR LZ d17 (by intro z;cases z)) LZ,λq hq=>Vj _ _ (gR (NN q hq) d17 (by intro z;cases z)) (NN q hq),ag,?_,λx hx=>?_,λx hx hd=>?_,λq hq hd=>?_⟩
     ·split
      ·exact J4
      ·next c2=>exact fe J4 c2
     ·split at hx
      ·exact GS x hx
      ·rcases AO.mp hx with z | z
       ·exact GS x z
       ·rw [Bd.mp z];exact (st r GO).2
     ·have:=Hf x hx hd
      split
      ·exact this
      ·exact AZ _ this
     ·rw [GI] at hq
      rcases AO.mp hq with z | z
      ·have:=JK q z hd
       split
       ·exact this
       ·exact AZ _ this
      ·rw [Bd.mp z]
       split
       ·next c2=>exact c2
       ·simp
    ·rw [if_neg c]
     refine aN ⟨ds,_,_,_,_,rfl,JR,LZ,NN,d17,J4,GS,Hf,λq hq hd=>?_⟩;rw [GI] at hq
     rcases AO.mp hq with z | z
     ·exact JK q z hd
     ·rw [Bd.mp z] at hd ⊢
      exact absurd (Hf r.2.2.1 (st r GO).1 hd) c
   ·rintro σ HJ ⟨ds,g1,g2,g3,g4,rfl,JR,LZ,NN,d17,J4,GS,Hf,JK⟩
    rw [take_all rw Lw] at JK;refine⟨ds,_,_,_,_,rfl,JR,LZ,NN,d17,J4,GS,λx hx hd=>?_⟩
    rcases AI.mp (Gh x hx) with rfl | hm
    ·exact Hf x hx (by omega)
    ·obtain⟨r,hr,rfl⟩:=AG.mp hm
     obtain⟨r0,IA,rfl⟩:=AG.mp hr;have:=Jq r0 IA;exact JK r0 IA (by have Pf:d r0.2.2.2<=i + 1:=hd;omega)
  ·rintro σ Ir ⟨ds,g1,g2,g3,g4,rfl,JS,N2,Xa,d16,J4,GS,Hf⟩
   have WV:=t.W.same JS;have EJ:ds.length=ps.length:=DS (cF J4 GS) (cF GM λx hx=>Hf x hx (by rw [Lw];exact Wq x hx));refine⟨_,rfl,dd,_,rfl,d16,_,rfl,ay (j:=0) (.inr (EG.of WV.tp)) rfl rfl ⟨pa,_,rfl,.inr (EG.of WV.pl),rfl,?_⟩⟩;have ed:decide (V.int ((HX ds).length:Int)=V.int ((ps.map V.str).length:Int))=true:=by
    rw [Av,Av,EJ];simp
   rw [ed];exact k _ JS
end K93
namespace K93
open PySem L2 PySem.Spec PyProof.Rows
section
open PySem.AutoSeq1
theorem rX (l:Addr) (items:Array zz9) (n:Nat) (b:Addr) (more:Array zz9) (m:Nat) (dd:Option Addr) (sl:Array (Option zz9)) (long:¬(!items.isEmpty && Builtin.List.listTooLong (items.size + more.size))=true) (Mz:items.size<=sizeLine) (Gs:items.size + more.size<=sizeLine + 1) :
  Meets (Builtin.«list.extend» ⟨[.ref l,.ref b],[]⟩) (λ_ R s=>s.heap.get? l=some { cls:=.type "list",dict:=none,data:=.seq items n,slots:=#[] }/\s.heap.get? b=some { cls:=.type "tuple",dict:=dd,data:=.seq more m,slots:=sl }/\R (.ok (.ret Value.none)) { s with heap:=s.heap.update l (Obj.mapSeq λx=>x++more),toks:=s.toks }):=by
 refine .of_wp λprog w A R s h=>?_
 rcases s with ⟨hp,g,d,tk,os⟩
 rcases h with ⟨hl,hb,h⟩
 have a1:=idx_int;have a2:=AutoSeq1.sub_tuple_tuple;have a3:=AutoSeq1.sub_list_list;have a4:=AutoSeq1.sub_tuple_list;have a5:=AutoSeq1.sub_list_tuple;have both:(items++more).size<=sizeLine + 1:=by rw [Array.size_append];exact Gs
 wp_walk using (C2 hl rfl (hz:=Mz) (_hz':=both)),wpAny_loadPart' hl,wpAny_loadPart' hb
 exact⟨_,rfl,h⟩
end
def vt:V->List V->Hp->VK->Prop:=λx vs H Q=>∃l b xs zs,x=.ref l/\vs=[.ref b]/\H l=some (.lst xs)/\H b=some (.tup zs)/\xs.length + zs.length<=sizeLine/\Q .non (upd H l (.lst (xs++zs)))
theorem sH {X:Cx}:QS X "list.extend" vt:=by
 intro pins s σ H x vs v us Q I rx rv h;obtain⟨l,b,xs,zs,rfl,rfl,hH,hB,hz,q⟩:=h;cases rx;obtain⟨u,rfl,ru⟩:=rv.one;cases ru;obtain⟨z,EE,n,r,hl,e⟩:=I.lstM hH;obtain⟨Gd,r2,⟨⟨cls,dd,data,sl⟩,ho,hc,n2,hd⟩,z2⟩:=I.tuple (EG.of (K:=X.K) hB);simp only at hc hd;subst hc hd;have MV:=r2.length;have hsz:EE.toArray.size + Gd.toArray.size<=sizeLine:=by rw [AR,AR];omega
 have OV:¬ (!EE.toArray.isEmpty && Builtin.List.listTooLong (EE.toArray.size + Gd.toArray.size))=true:=by
  rw [uN hsz,Bool.and_false];exact AX
 refine DL F.slot_list_extend ⟨_,e,rfl⟩ F.entry_list_extend (F.args_list_extend_2 _ _)
  (rX l EE.toArray n b Gd.toArray n2 dd sl OV (by rw [AR];omega) (by omega)) ⟨e,ho,?_⟩
 refine⟨.non,_,I.lset (its':=EE++Gd) hH e (by simp) (r.append r2) ?_,rfl,q⟩;rw [Ba];omega
end K93
namespace K93
open PySem L2
theorem iQ {H:Hp}{p a:Addr}{EH:List (Addr×List Str)} (hp:E1 H p) (ha:H a=some (.lst (ah EH))):a≠p:=λz=>by
 subst z;obtain⟨x,y,e,_⟩:=hp;rw [ha] at e;cases EH with
 | nil=>cases e
 | cons t r=>cases e
variable {P:Program}{w:World}{K:zz7}{mg:Str->Option zz9}{base:Heap}{f:Addr}{fd:FuncData}
def pV:Sp:=λvs H Q _=>∃(v pa ra th:Addr) (ps:List Str) (rs:List T) (root:Str) (EH:List (Addr×List Str)),vs=[.ref v,.str root,.int EH.length,.ref th]/\ck H v pa ra th ps rs root EH/\∀H',af H H'->Q (.bl true) H'
abbrev N71:List Str:=["_law_web_here","_law_root","_law_many","_law_trees","_law_ties","_law_tree"]
theorem kN:aH N71 ["_law_web_here","_law_root","_law_many","_law_trees"] (aC (top 71)):=⟨rfl,rfl,rfl,by decide +kernel,rfl,by decide +kernel,by decide +kernel⟩
theorem xO (F:EW K "_law_are_shares" "_law_are_shares" (top 71) f fd) (B:Bl mg) (F1:Fn P w K mg base 1 "_law_is_tree" ["_law_web_here","_law_root","_law_tree"] pZ):aD P w K mg base EU 2 f fd ["_law_web_here","_law_root","_law_many","_law_trees"] pV:=by
 refine F.ok kN (λvs H Q E h=>?_) (λ_ _ _ _ H vs Q E hr h=>?_)
 ·obtain⟨v,pa,ra,th,ps,rs,root,EH,rfl,_⟩:=h
  rfl
 ·obtain⟨v,pa,ra,th,ps,rs,root,EH,rfl,S,k⟩:=h
  refine' ⟨_,?d0,?main⟩
  case' d0=>refine' ak (aS (PW.pt (cq (bS (bM (au (dA (T:="list")) rfl B.isinstance dz (aa (pv 3) (aa (dC (v:=.ty "list") rfl B.list eX rfl) ae)))))
    (cw (aB cj (au bb rfl B.len AY (aa (pv 3) ae)) (pv 2) (aT _))))) bT aV) ?d1
  case' d1=>refine' ak (aA (i:=4) kN.nd rfl (Or.inl rfl) (bw ae)) ?d2
  case' d2=>refine' ak (bZ Bm rfl (bv (pv 3)) (bc (i:=5) kN.nd rfl (Or.inl rfl)) (ak (aS (bS (bM (aq F1 hr (aa (pv 0) (aa (pv 1) (aa (pv 5) ae)))))) bT aV) (ar (bg (cH Bo PySem.F.slot_list_extend PySem.F.type_list_extend sH (pv 4) (aa (pv 5) ae)))))) ?d3
  case d3=>exact ar (aM (cS dG (au (sQ w) rfl B.len AY (aa (bP (rQ w rfl) rfl B.set kA (aa (pv 4) ae)) ae)) (au bb rfl B.len AY (aa (pv 4) ae)) (aT _)))
  case main =>
  have h6:=S.n6;have FY:(ah EH).length=EH.length:=by simp
  refine⟨_,rfl,_,_,true,rfl,.lst S.th,rfl,true,rfl,aN ?_⟩;refine⟨_,rfl,th,_,rfl,.inl (EF.of S.th),_,rfl,rfl,_,rfl,?_⟩;have e1:(!decide (V.int ((ah EH).length:Int)=V.int (EH.length:Int)))=false:=by rw [FY];simp
  rw [e1];refine aN ⟨Be _,λti Sl=>?_⟩;have s1:=ai (o:=.lst []) (af.refl H) Sl;have t1:upd H ti (.lst []) ti=some (.lst (([]:List Str).map V.str)):=ag;generalize upd H ti (.lst [])=H1 at s1 t1 ⊢
  refine⟨_,rfl,th,rfl,⟨_,EF.of (s1 _ _ S.th)⟩,eB (K:=K) (xs:=ah EH) (λi σ H2=>∃(g:Option V),σ=[some (.ref v),some (.str root),some (.int EH.length),some (.ref th),some (.ref ti),g]/\af H H2/\H2 ti=some (.lst (((EH.take i).map (·.2)).flatten.map V.str)))
   ⟨none,rfl,s1,t1⟩ (λi σ H2 _ q=>by obtain⟨_,_,s2,_⟩:=q;exact EF.of (s2 _ _ S.th)) ?_ ?_⟩
  ·rintro i x σ H2 hx ⟨g,rfl,s2,t2⟩
   obtain⟨y,hy,rfl⟩:=cz hx;have G6:=AB hy;have S2:=S.same s2;refine⟨_,rfl,_,rfl,_,rfl,v,pa,ra,y.1,ps,rs,root,y.2,rfl,⟨S2.W,S2.G,S2.pz,S2.rz,S2.rt,S2.A y G6,(S2.S.tr y.2 (AC (f:=λz:Addr×List Str=>z.2) G6)).of⟩,λH3 s3=>⟨true,rfl,aN ?_⟩⟩;have WC:=s3 _ _ t2;have S3:=S2.same s3;have GQ:=S.flat i;have RY:=S.len G6;refine⟨_,rfl,.inl ⟨rfl,_,EF.of WC⟩,_,rfl,ti,y.1,_,y.2.map V.str,rfl,rfl,WC,S3.A y G6,BH (fits (by rw [Av,Av];omega)),?_⟩;refine⟨_,rfl,af.upd0 (s2.trans s3) Sl,?_⟩;rw [ag,Bg,hy,<- AU];simp
  ·rintro σ H2 ⟨g,rfl,s2,t2⟩
   have e:EH.take (ah EH).length=EH:=take_all EH FY;rw [e] at t2;have GQ:((EH.map (·.2)).flatten).length<=42:=by
    have:=S.flat EH.length
    rwa [B6] at this
   have S5:be ((EH.map (·.2)).flatten).reverse=((EH.map (·.2)).flatten).reverse:=lK (jB S.S.nd);refine⟨_,rfl,ti,_,rfl,EF.of t2,by omega,λst GE=>?_⟩;rw [S5];have s3:=ai (o:=cx w st ((EH.map (·.2)).flatten).reverse) (af.refl H2) GE;refine⟨st,_,rfl,ag,_,rfl,ti,_,rfl,.inl (EF.of (s3 _ _ t2)),rfl,?_⟩;have e2:decide (V.int (((EH.map (·.2)).flatten).reverse.length:Int)=V.int ((((EH.map (·.2)).flatten).map V.str).length:Int))=true:=by
    rw [Dd,Av];simp
   rw [e2];exact k _ (s2.trans s3)
def oX:Sp:=λvs H Q _=>∃(p a:Addr) (EH:List (Addr×List Str)),vs=[.ref p,.ref a]/\E1 H p/\H a=some (.lst (ah EH))/\EH.length<=6 /\
 ∀(q:Addr) (N6:List (Addr×List Str)) (H':Hp),E1 H' p->Kp [p] H H'->H q=none->H' q=some (.lst (ah N6))->N6.Perm EH->Q (.ref q) H'
abbrev N72:List Str:=["_law_pot_here","_law_trees","_law_at"]
theorem qm:aH N72 ["_law_pot_here","_law_trees"] (aC (top 72)):=⟨rfl,rfl,rfl,by decide +kernel,rfl,by decide +kernel,by decide +kernel⟩
theorem tS (F:EW K "_law_turned" "_law_turned" (top 72) f fd) (B:Bl mg) (Ft:Fn P w K mg base 1 "_law_digit" ["_law_pot_here","_law_many"] eG):aD P w K mg base EU 2 f fd ["_law_pot_here","_law_trees"] oX:=by
 refine F.ok qm (λvs H Q E h=>?_) (λ_ _ _ _ H vs Q E hr h=>?_)
 ·obtain⟨p,a,EH,rfl,_⟩:=h
  rfl
 ·obtain⟨p,a,EH,rfl,hp,ha,h6,k⟩:=h
  refine' ⟨_,?d0,?main⟩
  case' d0=>refine' ak (aA (i:=2) qm.nd rfl (Or.inl rfl) (aq Ft hr (aa (pv 0) (aa (ba dr (au bb rfl B.len AY (aa (pv 1) ae)) am) ae)))) ?d1
  case d1=>exact ar (aM (ba dF (fh fM (pv 1) (fk (pv 2)) fj) (fh fM (pv 1) fj (fk (pv 2)))))
  case main =>
  have FY:(ah EH).length=EH.length:=by simp
  refine⟨_,rfl,_,rfl,a,_,rfl,.inl (EF.of ha),_,_,rfl,rfl,p,_,rfl,hp,by omega,by omega,λr H1 r0 r1 P1 K1=>?_⟩;obtain⟨n,rfl⟩:=Dr r0;have hn:n<=(ah EH).length:=by omega
  have Yl:=iQ hp ha;have a1:=K1.at Yl ha;refine⟨_,rfl,_,rfl,_,rfl,a,_,rfl,EF.of a1,λb hb=>?_⟩;rw [ng _ hn];have P2:=P1.new (o:=.lst ((ah EH).drop n)) hb;have K2:=K1.new (o:=.lst ((ah EH).drop n)) hb;have b2:upd H1 b (.lst ((ah EH).drop n)) b=some (.lst ((ah EH).drop n)):=ag;have a2:upd H1 b (.lst ((ah EH).drop n)) a=some (.lst (ah EH)):=by rw [ao (aR a1 hb)];exact a1
  generalize upd H1 b (.lst ((ah EH).drop n))=H2 at P2 K2 b2 a2 ⊢;refine⟨_,rfl,_,rfl,_,rfl,a,_,rfl,EF.of a2,λc hc=>?_⟩;rw [pq _ hn];have P3:=P2.new (o:=.lst ((ah EH).take n)) hc;have K3:=K2.new (o:=.lst ((ah EH).take n)) hc;have c3:upd H2 c (.lst ((ah EH).take n)) c=some (.lst ((ah EH).take n)):=ag;have b3:upd H2 c (.lst ((ah EH).take n)) b=some (.lst ((ah EH).drop n)):=by rw [ao (aR b2 hc)];exact b2
  generalize upd H2 c (.lst ((ah EH).take n))=H3 at P3 K3 b3 c3 ⊢;refine⟨b,c,_,_,rfl,rfl,b3,c3,BH (fits (by rw [DA,AW];omega)),λq hq=>?_⟩;have P4:=P3.new (o:=.lst ((ah EH).drop n++(ah EH).take n)) hq;have K4:=K3.new (o:=.lst ((ah EH).drop n++(ah EH).take n)) hq;refine k q (EH.drop n++EH.take n) _ P4 K4 ?_ ?_ ?_
  ·exact K3.free1 P3 hq
  ·rw [ag];simp [ah]
  ·exact (List.perm_append_comm).trans (by rw [List.take_append_drop])
def pB:Sp:=λvs H Q _=>∃(v pa ra l oa ia:Addr) (ps ls:List Str) (rs:List T) (root nm:Str) (EN EE:List (Addr×List Str)),vs=[.ref v,.ref l,.ref oa,.ref ia]/\cC H v pa ra l oa ia ps ls rs root nm EN EE /\
 ∀(q:Addr) (Fj:List (Addr×List Str)) (H':Hp),af H H'->H' q=some (.lst (ah Fj))->aJ H' Fj->Fj.length=EN.length->(∀(i:Nat) (x y:Addr×List Str),EN[i]?=some x->Fj[i]?=some y->IK (bu ls (rs.map (·.2))) (EE.map (·.2)) x.2 y.2)->Q (.ref q) H'
abbrev N73:List Str:=["_law_web_here","_law_lot","_law_outer","_law_inner","_law_own","_law_found","_law_tree","_law_tie","_law_other"]
theorem gg:aH N73 ["_law_web_here","_law_lot","_law_outer","_law_inner"] (aC (top 73)):=⟨rfl,rfl,rfl,by decide +kernel,rfl,by decide +kernel,by decide +kernel⟩
theorem uV (F:EW K "_law_glued" "_law_glued" (top 73) f fd) (B:Bl mg):aD P w K mg base EU 1 f fd ["_law_web_here","_law_lot","_law_outer","_law_inner"] pB:=by
 refine F.ok gg (λvs H Q E h=>?_) (λ_ _ _ _ H vs Q E hr h=>?_)
 ·obtain⟨v,pa,ra,l,oa,ia,ps,ls,rs,root,nm,EN,EE,rfl,_⟩:=h
  rfl
 ·obtain⟨v,pa,ra,l,oa,ia,ps,ls,rs,root,nm,EN,EE,rfl,Vh,k⟩:=h
  refine' ⟨_,?d0,?main⟩
  case' d0=>refine' ak (aA (i:=4) gg.nd rfl (Or.inr rfl) (aZ (N:=["_law_row","_law_lot"]) (ix:=[none,some 1]) ⟨rfl,rfl,rfl,by decide⟩ rfl (bC (ax aG (pv 0) am (λ_ _=>rfl))) (λ_ _ _ _=>aF 0 (by decide) rfl rfl)
    (λ_ _ _ _=>bL (PW.pt (gH (aB (cO K) (ax (bD K) (pv 0) am (λ_ _=>rfl)) (pv 1) (by with_unfolding_all rfl)) (gA (aB (eu K) (ax (bD K) (pv 0) am (λ_ _=>rfl)) (pv 1) (by with_unfolding_all rfl))))))
    (λ_ _ _ _=>ax (bD K) (pv 0) am (λ_ _=>rfl)))) ?d1
  case' d1=>refine' ak (aA (i:=5) gg.nd rfl (Or.inl rfl) (bw ae)) ?d2
  case' d2=>refine' ak (bZ Bm rfl (bv (pv 2)) (bc (i:=6) gg.nd rfl (Or.inl rfl)) ?d4) ?d3
  case d3=>exact ar (aM (pv 5))
  case' d4=>refine' ak (aA (i:=7) gg.nd rfl (Or.inr rfl) (ax aG (aZ (N:=["_law_one","_law_own"]) (ix:=[none,some 4]) ⟨rfl,rfl,rfl,by decide⟩ rfl (bC (pv 6)) (λ_ _ _ _=>aF 0 (by decide) rfl rfl) (λ_ _ _ _=>bL (aB (cO K) (pv 0) (pv 1) (by with_unfolding_all rfl))) (λ_ _ _ _=>pv 0)) am (λ_ _=>rfl))) ?d5
  case' d5=>refine' ak (aA (i:=8) gg.nd rfl (Or.inl rfl) (ax aG (aZ (N:=["_law_one","_law_tie"]) (ix:=[none,some 7]) ⟨rfl,rfl,rfl,by decide⟩ rfl (bv (pv 3)) (λ_ _ _ _=>aF 0 (by decide) rfl rfl) (λ_ _ _ _=>bL (aB (cO K) (pv 1) (pv 0) (by with_unfolding_all rfl))) (λ_ _ _ _=>pv 0)) am (λ_ _=>rfl))) ?d6
  case d6=>exact ar (bg (cH Bo BB BC dj (pv 5) (aa (bP c8 rfl B.tuple cv (aa (au (kZ w rfl) rfl B.sorted da (aa (bP (lh w rfl) rfl B.set kA (aa (ba jV (pv 6) (pv 8)) ae)) ae)) ae)) ae)))
  case main =>
  have h6:=Vh.n6;have Fo:=Vh.no;have ZQ:=Vh.ni;have Hr:=Vh.rz;obtain⟨tg,_⟩:=Vh.tog;have W:=Vh.W;have FE:(aj rs).length=rs.length:=by simp
  refine⟨_,rfl,ay (j:=1) (.inr (EG.of W.tp)) rfl rfl ⟨ra,rfl,⟨_,EG.of W.rl⟩,cE (xs:=aj rs) (fits (by omega)) (λi ys σ H3=>ys=(E4 ((rs.take i).filter (lead ls))).map V.str/\H3=H/\∃x,σ=[x,some (.ref l)]) ⟨rfl,rfl,_,rfl⟩
    (λi ys σ H3 _ q=>⟨by rw [q.1];simp only [E4,Av];exact AV (AL _ _) (by simp;omega),by rw [q.2.1];exact EG.of W.rl⟩) ?_ ?_⟩⟩
  ·rintro i x ys σ H3 hx ⟨rfl,rfl,z,rfl⟩
   obtain⟨r,EV,rfl⟩:=bY hx;have hm:=AB EV;have ER:=W.rows r hm;have tf:=bH (lead ls) rs i r EV;have hS:Sq K H3 l (ls.map V.str):=.inr (EG.of Vh.hl);refine⟨_,rfl,ay (j:=2) (.inr (EG.of ER)) rfl rfl ⟨_,rfl,l,ls.map V.str,rfl,hS,rfl,aW ls,_,rfl,?_⟩⟩;show if FL (.str r.2.2.2) (ls.map V.str)=true then _ else _;rw [aX];refine aU (λc=>⟨_,rfl,ay (j:=1) (.inr (EG.of ER)) rfl rfl ⟨_,rfl,l,ls.map V.str,rfl,hS,rfl,aW ls,_,rfl,?_⟩⟩) (λc=>aN ⟨?_,rfl,_,rfl⟩)
   ·show if (!FL (.str r.2.2.1) (ls.map V.str))=true then _ else _
    rw [aX];refine aU (λd=>⟨_,rfl,ay (j:=0) (.inr (EG.of ER)) rfl rfl ⟨?_,rfl,_,rfl⟩⟩) (λd=>⟨?_,rfl,_,rfl⟩)
    ·rw [tf];unfold lead;rw [c,d];simp [E4]
    ·rw [tf];simp only [BA] at d;unfold lead;rw [c,d];simp [E4]
   ·rw [tf];simp only [BA] at c;unfold lead;rw [c];simp [E4]
  rintro ys σ H3 ⟨rfl,rfl,z,rfl⟩ ow how;rw [take_all rs FE,<- gy];generalize hE:bu ls (rs.map (·.2))=E' at *;have s1:=ai (o:=.lst (E'.map V.str)) (af.refl H3) how;have o1:upd H3 ow (.lst (E'.map V.str)) ow=some (.lst (E'.map V.str)):=ag;generalize upd H3 ow (.lst (E'.map V.str))=H1 at s1 o1 ⊢;refine⟨Be _,λfo FF=>?_⟩;have TB:H3 fo=none:=s1.free FF;have s2:=ai (o:=.lst []) s1 FF;have o2:upd H1 fo (.lst []) ow=some (.lst (E'.map V.str)):=by rw [ao (aR o1 FF)];exact o1
  have f2:upd H1 fo (.lst []) fo=some (.lst (ah [])):=ag;have Yb:ow≠fo:=aR o1 FF;generalize upd H1 fo (.lst [])=H2 at s2 o2 f2 ⊢;have FY:(ah EN).length=EN.length:=by simp
  have Gx:(ah EE).length=EE.length:=by simp
  refine⟨_,rfl,oa,rfl,⟨_,EF.of (s2 _ _ Vh.o)⟩,eB (K:=K) (xs:=ah EN) (λi σ H4=>∃(Fj:List (Addr×List Str)) (g1 g2 g3:Option V),σ=[some (.ref v),some (.ref l),some (.ref oa),some (.ref ia),some (.ref ow),some (.ref fo),g1,g2,g3]/\af H3 H4/\H4 ow=some (.lst (E'.map V.str))/\H4 fo=some (.lst (ah Fj))/\aJ H4 Fj/\Fj.length=i/\∀(j:Nat) (x y:Addr×List Str),EN[j]?=some x->Fj[j]?=some y->IK E' (EE.map (·.2)) x.2 y.2)
   ⟨[],none,none,none,rfl,s2,o2,f2,(λx hx=>nomatch hx),rfl,λj x y _ hy=>by simp at hy⟩ (λi σ H4 _ q=>by obtain⟨_,_,_,_,_,s4,_⟩:=q;exact EF.of (s4 _ _ Vh.o)) ?_ ?_⟩
  ·rintro i x σ H4 hx ⟨Fj,g1,g2,g3,rfl,s4,o4,f4,A4,FK,hj⟩
   obtain⟨t,ht,rfl⟩:=cz hx;have hi:i < EN.length:=(AE.mp ht).1;have Gk:=AB ht;have V4:=Vh.same s4;obtain⟨sh,I,f1,Uq,R0⟩:=tg t.2 (AC (f:=λz:Addr×List Str=>z.2) Gk);obtain⟨O,hO⟩:∃O,t.2=O:=⟨_,rfl⟩
   have Qz:=V4.O t Gk;have hOz:=Vh.lenO Gk;rw [hO] at f1 R0 Qz hOz
   refine⟨_,rfl,t.1,rfl,⟨_,EG.of Qz⟩,cE (xs:=O.map V.str) (fits (by rw [Av];omega)) (λj zs σ H5=>zs=((O.take j).filter λy=>decide (y∈E')).map V.str/\H5=H4/\∃g,σ=[g,some (.ref ow)]) ⟨rfl,rfl,_,rfl⟩
    (λj zs σ H5 _ p=>⟨by rw [p.1,Av];exact AV (AL _ _) (by rw [AW];omega),by rw [p.2.1];exact EG.of Qz⟩) ?_ ?_⟩
   ·rintro j x zs σ H5 Fm ⟨rfl,rfl,g',rfl⟩
    rw [AH] at Fm;cases hc:O[j]? with
    | none=>rw [hc] at Fm;cases Fm
    | some z =>
     rw [hc] at Fm;cases Fm;have tf:=bH (λy:Str=>decide (y∈E')) O j z hc;refine⟨_,rfl,_,rfl,ow,E'.map V.str,rfl,.inl (EF.of o4),rfl,aW E',_,rfl,?_⟩;show if FL (.str z) (E'.map V.str)=true then _ else _;rw [aX];refine aU (λc=>⟨_,rfl,?_,rfl,_,rfl⟩) (λc=>⟨?_,rfl,_,rfl⟩)
     ·rw [tf,if_pos c];simp
     ·rw [tf,if_neg c];simp
   rintro zs σ H5 ⟨rfl,rfl,g',rfl⟩ l1 Gg;rw [take_all O (by simp)];have s5:=ai (o:=.lst ((O.filter λy=>decide (y∈E')).map V.str)) (af.refl H5) Gg;refine ay (j:=0) (.inl (EF.of ag)) rfl (show ((O.filter λy=>decide (y∈E')).map V.str)[0]?=some (.str sh) by rw [AH,fP,f1];rfl) ?_;generalize upd H5 l1 (.lst ((O.filter λy=>decide (y∈E')).map V.str))=H6 at s5 ⊢;have V6:=V4.same s5
   refine⟨_,rfl,ia,rfl,⟨_,EF.of V6.i⟩,fH (xs:=ah EE) (fits (by omega)) (λj zs σ H4=>zs=ah ((EE.take j).filter λx=>decide (sh∈x.2))/\H4=H6/\∃g,σ=[g,some (.str sh)]) ⟨rfl,rfl,_,rfl⟩
    (λj zs σ H4 _ p=>⟨by rw [p.1,Av];exact AV (AL _ _) (by rw [AW];omega),by rw [p.2.1];exact EF.of V6.i⟩) ?_ ?_⟩
   ·rintro j x zs σ H4 Fm ⟨rfl,rfl,g',rfl⟩
    obtain⟨y,hy,rfl⟩:=cz Fm;have G6:=AB hy;have tf:=bH (λx:Addr×List Str=>decide (sh∈x.2)) EE j y hy;refine⟨_,rfl,_,rfl,y.1,y.2.map V.str,rfl,.inr (EG.of (V6.I y G6)),rfl,aW y.2,_,rfl,?_⟩;show if FL (.str sh) (y.2.map V.str)=true then _ else _;rw [aX];refine aU (λc=>⟨_,rfl,?_,rfl,_,rfl⟩) (λc=>⟨?_,rfl,_,rfl⟩)
    ·rw [tf,if_pos c];simp
    ·rw [tf,if_neg c];simp
   rintro zs σ H7 ⟨rfl,rfl,g',rfl⟩ l2 MV;have eT:EE.take (ah EE).length=EE:=take_all EE Gx;rw [eT];have Tw:∃y,EE.find? (λx=>decide (sh∈x.2))=some y/\y.2=I:=by
    have f2:=Uq;rw [List.find?_map] at f2;cases e:EE.find? ((λI=>decide (sh∈I)) ∘ λx=>x.2) with
    | none=>rw [e] at f2;cases f2
    | some y=>rw [e] at f2;exact⟨y,e,Bx f2⟩
   obtain⟨y,ID,IC⟩:=Tw;have G6:=BU ID;have s8:=ai (o:=.lst (ah (EE.filter λx=>decide (sh∈x.2)))) s5 MV;refine ay (j:=0) (.inl (EF.of ag)) rfl (show (ah (EE.filter λx=>decide (sh∈x.2)))[0]?=some (.ref y.1) by rw [AH,fP,ID];rfl) ?_;generalize upd H7 l2 (.lst (ah (EE.filter λx=>decide (sh∈x.2))))=H8 at s8 ⊢;have y8:=(V4.same s8).I y G6;rw [IC] at y8;have hIz:=Vh.lenI G6;rw [IC] at hIz;have Q6:sh∈I:=by
    have:=DT Uq;exact of_decide_eq_true this
   have Qc:sh∈O:=BU f1;have on8:=s8 _ _ o4;have fo8:=s8 _ _ f4;refine⟨_,rfl,.inl ⟨rfl,_,EF.of fo8⟩,_,rfl,_,rfl,t.1,y.1,O.map V.str,I.map V.str,rfl,rfl,EG.of (s8 _ _ Qz),EG.of y8,BH (fits (by simp only [Av];omega)),?_,?_,λp9 Kw=>?_⟩
   ·intro z;rw [DY.mp z] at Qc;cases Qc
   ·intro z;rw [DY.mp z] at Q6;cases Q6
   have s9:=ai (o:=.tup (O.map V.str++I.map V.str)) s8 Kw;refine⟨p9,O++I,rfl,EG.of (by rw [ag,AU]),by rw [Ba];omega,λst GE=>?_⟩;have E3:=ai (o:=cx w st (be (O++I).reverse)) s9 GE;have V8:=mD (O++I).reverse;rw [Dd,Ba] at V8;refine⟨st,_,rfl,ag,by omega,λJ q2 E8 GJ Gf=>?_⟩;have Fy:=ai (o:=.lst (J.map V.str)) E3 Gf;have Tf:J.Pairwise FU:=ez GJ (E8.nodup_iff.mpr (sD _));refine⟨q2,_,rfl,.inl ⟨EF.of ag,λq hq=>?_⟩⟩;have Gr:=ai (o:=.tup (J.map V.str)) Fy hq;have Rm:upd (upd (upd (upd H8 p9 (.tup (O.map V.str++I.map V.str))) st (cx w st (be (O++I).reverse))) q2 (.lst (J.map V.str))) q (.tup (J.map V.str)) q=some (.tup (J.map V.str)):=ag;generalize upd (upd (upd (upd H8 p9 (.tup (O.map V.str++I.map V.str))) st (cx w st (be (O++I).reverse))) q2 (.lst (J.map V.str))) q (.tup (J.map V.str))=GK at Gr Rm ⊢;have WK:=Gr _ _ f4;have Vb:∀b xs,GK b=some (.tup xs)->b≠fo:=λb xs e z=>by rw [z,WK] at e;cases e
   have PJ:IK E' (EE.map (·.2)) O J:=⟨⟨sh,I,f1,Uq,λx=>by rw [E8.mem_iff,vV,List.mem_reverse,AO]⟩,Tf⟩
   refine⟨fo,ah Fj,_,rfl,rfl,WK,fits (by simp;omega),?_⟩;refine⟨Fj++[(q,J)],_,_,_,rfl,af.upd0 (s4.trans Gr) TB,by rw [ao Yb];exact Gr _ _ o4,by rw [ag];simp [ah],λx hx=>?_,by simp [FK],λj x y Ko HN=>?_⟩
   ·rcases AO.mp hx with z | z
    ·have:=Gr _ _ (A4 x z)
     show upd GK fo _ x.1=_;rw [ao (Vb _ _ this)];exact this
    ·have e':x=(q,J):=by simpa using z
     subst e';show upd GK fo _ q=_;rw [ao (Vb _ _ Rm)];exact Rm
   ·rcases CM j Fj.length with c | c
    ·rw [By c] at HN
     exact hj j x y Ko HN
    ·rw [BQ c] at HN
     cases e:j - Fj.length with
     | zero =>
      rw [e] at HN;cases HN;have ej:j=i:=by omega
      rw [ej,ht] at Ko;cases Ko;rw [hO];exact PJ
     | succ n=>rw [e] at HN;simp at HN
  ·rintro σ H4 ⟨Fj,g1,g2,g3,rfl,s4,o4,f4,A4,FK,hj⟩
   exact⟨_,rfl,k fo Fj _ s4 f4 A4 (by omega) hj⟩
def bV:List Str:=["qq","rr","ss","tt","uu","vv","ww"].map Str.ofString
theorem sN:∀x∈bV,aE x:=by
 intro x hx;simp only [bV,Bj,Dk,AI,BM,or_false] at hx
 rcases hx with rfl | rfl | rfl | rfl | rfl | rfl | rfl <;> exact⟨by decide,by decide,by decide⟩
theorem va:bV.Nodup:=by decide
theorem sJ {ps:List Str} (h:ps.length<=6):∃z,bV.find? (λx=>!decide (x∈ps))=some z/\z∈bV/\z∉ps:=by
 cases e:bV.find? (λx=>!decide (x∈ps)) with
 | some z =>
  refine⟨z,rfl,BU e,?_⟩;have:=DT e;simpa using this
 | none =>
  have hs:∀x∈bV,x∈ps:=λx hx=>by
   have:=Ed.mp e x hx;simpa using this
  have:=cF va hs;have h7:bV.length=7:=rfl;omega
def p7:Sp:=λvs H Q _=>∃(p v pa ra:Addr) (ps:List Str) (rs:List T),vs=[.ref p,.ref v]/\E1 H p/\bA H v pa ra ps rs/\Good ps (rs.map (·.2))/\ps.length<=6/\rs.length<=26 /\
 ∀(x:Str) (H':Hp),aE x->x∉ps->E1 H' p->Kp [p] H H'->Q (.str x) H'
abbrev N65:List Str:=["_law_pot_here","_law_web_here","_law_words","_law_letters","_law_way","_law_name_here"]
theorem e7:aH N65 ["_law_pot_here","_law_web_here"] (aC (top 65)):=⟨rfl,rfl,rfl,by decide +kernel,rfl,by decide +kernel,by decide +kernel⟩
theorem xB (F:EW K "_law_new" "_law_new" (top 65) f fd) (B:Bl mg) (Ft:Fn P w K mg base 1 "_law_digit" ["_law_pot_here","_law_many"] eG):aD P w K mg base EU 2 f fd ["_law_pot_here","_law_web_here"] p7:=by
 refine F.ok e7 (λvs H Q E h=>?_) (λ_ _ _ _ H vs Q E hr h=>?_)
 ·obtain⟨p,v,pa,ra,ps,rs,rfl,_⟩:=h
  rfl
 ·obtain⟨p,v,pa,ra,ps,rs,rfl,hp,W,G,h6,Hr,k⟩:=h
  refine' ⟨_,ak ?s1 ?r1,?main⟩
  case s1 =>
   refine' aA (i:=2) ?nd ?x ?y ?z ?hs ?hf
   case nd=>exact e7.nd
   case x=>exact rfl
   case y=>exact Or.inl rfl
   case hf=>first | exact .inl rfl | exact .inr rfl
   case' z=>refine' bw ?l0
   case l0=>exact b6 (b6 (b6 (b6 (b6 (b6 (b6 (b6 ae)))))))
   case hs=>kernel_rfl
  case' r1=>refine' ak (aA (i:=3) e7.nd rfl (Or.inr rfl) dS) ?d2
  case' d2=>refine' ak (aA (i:=4) e7.nd rfl (Or.inl rfl) (aq Ft hr (aa (pv 0) (aa am ae)))) ?d3
  case' d3=>refine' ak (aS (aB dG (pv 4) am (aT _)) (ar (aA (i:=5) e7.nd rfl (Or.inl rfl) (ax aG (pv 2) (aq Ft hr (aa (pv 0) (aa am ae))) (λ_ _=>rfl))))
   (ar (aS (PW.pt (gH (aB dG (pv 4) am (aT _)) (gA (aB (fV hr) (ax aG (pv 1) am (λ_ _=>rfl)) (cf ae) (aT _)))))
    (ar (aA (i:=5) e7.nd rfl (Or.inl rfl) (ax aG (ax aG (ax aG (pv 1) am (λ_ _=>rfl)) (aq Ft hr (aa (pv 0) (aa (au bb rfl B.len AY (aa (ax aG (pv 1) am (λ_ _=>rfl)) ae)) ae))) (λ_ _=>rfl)) am (λ_ _=>rfl))))
    (ar (aA (i:=5) e7.nd rfl (Or.inl rfl) (cH Dw DI DJ j9 dS (aa (aZ (N:=["_law_turn","_law_letters","_law_pot_here"]) (ix:=[none,some 3,some 0]) ⟨rfl,rfl,rfl,by decide⟩ rfl
     (di rfl B.range (aa (ba dr am (aq Ft hr (aa (pv 0) (aa am ae)))) ae)) (λ_ _ _ _=>aF 0 (by decide) rfl rfl) (λ_ _ _ _=>bz)
     (λ_ _ _ _=>ax (bD K) (pv 1) (aq Ft hr (aa (pv 2) (aa am ae))) (λ_ _=>rfl))) ae))))))) ?d4
  case' d4=>refine' ak (aS (aB cW (pv 5) (ax aG (pv 1) am (λ_ _=>rfl)) (by with_unfolding_all rfl)) (ar (aA (i:=5) e7.nd rfl (Or.inl rfl) (ax aG (aZ (N:=["_law_one","_law_web_here"]) (ix:=[none,some 1]) ⟨rfl,rfl,rfl,by decide⟩ rfl (bv (bw (b6 (b6 (b6 (b6 (b6 (b6 (b6 ae))))))))) (λ_ _ _ _=>aF 0 (by decide) rfl rfl)
    (λ_ _ _ _=>bL (aB (eu K) (pv 0) (ax (bD K) (pv 1) am (λ_ _=>rfl)) (by with_unfolding_all rfl))) (λ_ _ _ _=>pv 0)) am (λ_ _=>rfl)) (by kernel_rfl) (by first | exact .inl rfl | exact .inr rfl))) aV) ?d5
  case d5=>exact ar (aM (pv 5))
  case main =>
  refine⟨by show 8<=sizeLine;decide,λwd Lv=>?_⟩;have Nr:=hp.ne_new Lv;have P1:=hp.new (o:=.lst (bN.map V.str)) Lv;have K1:=(Kp.refl [p] H).new (o:=.lst (bN.map V.str)) Lv;have w1:upd H wd (.lst (bN.map V.str)) wd=some (.lst (bN.map V.str)):=ag;change gh _ _ _ _ (upd H wd (.lst (bN.map V.str)));generalize upd H wd (.lst (bN.map V.str))=H1 at P1 K1 w1 ⊢;refine⟨_,rfl,p,4,rfl,P1,by decide,by decide,λr H2 r0 r1 P2 UC=>⟨_,rfl,rfl,_,rfl,?_⟩⟩;have K2:=K1.trans UC;have w2:=UC.at Nr w1;have W2:=W.kp hp K2;have nr:=jI G.ends;have QA:SeqAt.shaped (.tuple ((rs.map (·.2)).map cJ))=true:=by
   unfold SeqAt.shaped;have a1:PyData.canLay0 (.tuple ((rs.map (·.2)).map cJ))=true:=by simp only [PyData.canLay0];exact nr.1
   have a2:PyData.depth (.tuple ((rs.map (·.2)).map cJ))<=2:=by simp only [PyData.depth];have:=nr.2;omega
   rw [a1,decide_eq_true (by omega)];rfl
  have VU:SeqAt.shaped (.tuple [])=true:=by decide
  refine aU (λc=>⟨_,rfl,_,rfl,p,8,rfl,P2,by decide,by decide,λb H3 b0 b1 P3 Ni=>?p1⟩) (λc0=>⟨_,rfl,rfl,_,rfl,?q0⟩)
  case' p1 =>
   have K3:=K2.trans Ni;have w3:=Ni.at Nr w2;have hb:b.toNat < bN.length:=by rw [ir];omega
   refine ay (j:=b.toNat) (.inl (EF.of w3)) (by omega) (show (bN.map V.str)[b.toNat]?=some (.str bN[b.toNat]) by rw [AH,AD hb];rfl) ?_;have hW:aE bN[b.toNat]:=ly _ (Bt hb);generalize bN[b.toNat]=ww at hW ⊢;clear hb b0 b1 w3 w2 w1 Ni UC QA VU nr;have PH:=P3;have KH:=K3;clear P3 K3;generalize H3=HH at PH KH ⊢
  case' q0=>refine aU (λc1=>⟨_,rfl,ay (j:=1) (.inr (EG.of W2.tp)) rfl rfl ⟨Be _,λe0 JE=>?q1⟩⟩) (λc1=>aN ?q3)
  case' q1 =>
   have P3:=P2.new (o:=.tup []) JE;have K3:=K2.new (o:=.tup []) JE;have e3:upd H2 e0 (.tup []) e0=some (.tup []):=ag;generalize upd H2 e0 (.tup [])=H3 at P3 K3 e3 ⊢;have W3:=W.kp hp K3;refine⟨.tuple ((rs.map (·.2)).map cJ),.tuple [],.tup W3.rl (kj W3.rows),.tup e3 .nil,QA,VU,_,rfl,?_⟩;refine (Classical.em (rs=[])).elim (λLB=>?q2) (λLB=>?q4)
  case' q2 =>
   have ev:PyData.eqv (.tuple ((rs.map (·.2)).map cJ)) (.tuple [])=true:=by rw [LB];rfl
   rw [ev];refine aN ?_
  case' q3 =>
   have P3:=P2;have K3:=K2;generalize H2=H3 at P3 K3 ⊢
  case' q4 =>
   have ev:PyData.eqv (.tuple ((rs.map (·.2)).map cJ)) (.tuple [])=false:=by
    cases hc:rs with
    | nil=>exact absurd hc LB
    | cons a t=>simp [PyData.eqv,PyData.eqvAll]
   rw [ev];refine bK ⟨_,rfl,ay (j:=1) (.inr (EG.of W3.tp)) rfl rfl ⟨_,rfl,_,rfl,ay (j:=1) (.inr (EG.of W3.tp)) rfl rfl ⟨ra,_,rfl,.inr (EG.of W3.rl),p,_,rfl,P3,?q5,?q6,λb H4 b0 b1 P4 Xg=>?q7⟩⟩⟩
  case q5 =>
   have:rs.length≠0:=λz=>LB (CB.mp z);rw [Av];omega
  case q6=>rw [Av];omega
  case' q7 =>
   have K4:=K3.trans Xg;have W4:=W.kp hp K4;have hb:b.toNat < rs.length:=by rw [Av] at b1;omega
   refine ay (j:=b.toNat) (.inr (EG.of W4.rl)) (by omega) (show (aj rs)[b.toNat]?=some (.ref rs[b.toNat].1) by rw [AH,AD hb];rfl) (ay (j:=0) (.inr (EG.of (W4.rows _ (Bt hb)))) rfl rfl ?_);have hW:aE rs[b.toNat].2.1:=(G.ends _ (AC (f:=λz:T=>z.2) (Bt hb))).1;generalize rs[b.toNat].2.1=ww at hW ⊢;have PH:=P4;have KH:=K4;clear W4 W3 P4 K4 Xg b0 b1 hb;generalize H4=HH at PH KH ⊢
  case' q2 | q3 =>
   refine⟨rfl,_,rfl,p,8,rfl,P3,by decide,by decide,λr1 H5 a0 a1 P5 K5'=>⟨_,_,rfl,rfl,_,rfl,by omega,by omega,?_⟩⟩;have K5:=K3.trans K5';refine eQ (fits (by omega)) (λi ys σ H4=>(∃cs:List Nat,cs.length=i/\(∀c∈cs,97<=c/\c<=122)/\ys=cs.map λc=>V.str ⟨#[c]⟩)/\E1 H4 p/\Kp [p] H5 H4/\∃x,σ=[x,some (.str eE),some (.ref p)])
    ⟨⟨[],rfl,by simp,rfl⟩,P5,Kp.refl _ _,_,rfl⟩ (λi ys σ H4 _ q=>by obtain⟨⟨cs,rfl,_,rfl⟩,_⟩:=q;simp) ?_ ?_
   ·rintro j ys σ H6 hj ⟨⟨cs,rfl,HG,rfl⟩,P6,K6,v,rfl⟩
    refine⟨_,rfl,_,rfl,p,26,rfl,P6,by decide,by decide,λr H7 r0 r1 P7 K7=>.inr (.inr ⟨eE,r,97 + r.toNat,rfl,rfl,jr,fR (j:=r.toNat) (by omega) (ju (by omega)),⟨cs++[97 + r.toNat],by simp,λc hc=>?_,by simp⟩,P7,K6.trans K7,_,rfl⟩)⟩
    rcases AO.mp hc with z | z
    ·exact HG c z
    ·simp at z
     omega
   rintro ys σ H6 ⟨⟨cs,Ph,HG,rfl⟩,P6,K6,g,rfl⟩ q hq;have Jx:(cs.map λc=>V.str ⟨#[c]⟩)=(cs.map λc=>(⟨#[c]⟩:Str)).map V.str:=by rw [Bf];rfl
   refine⟨Str.ofString "",q,cs.map λc=>(⟨#[c]⟩:Str),rfl,rfl,EF.of (by rw [ag,Jx]),?_,?_⟩
   ·have e0:(Str.ofString "").length=0:=by decide
    rw [nc,e0];omega
   have hW:=lT (cs:=cs) (by omega) (by omega) HG;generalize Txt.join (Str.ofString "") (cs.map λc=>(⟨#[c]⟩:Str))=ww at hW ⊢;have PH:=P6.new (o:=.lst (cs.map λc=>V.str ⟨#[c]⟩)) hq;have KH:=(K5.trans K6).new (o:=.lst (cs.map λc=>V.str ⟨#[c]⟩)) hq;generalize upd H6 q (.lst (cs.map λc=>V.str ⟨#[c]⟩))=HH at PH KH ⊢
  all_goals
   have WH:=W.kp hp KH;refine⟨_,rfl,_,rfl,ay (j:=0) (.inr (EG.of WH.tp)) rfl rfl ⟨pa,ps.map V.str,rfl,.inr (EG.of WH.pl),rfl,aW ps,_,rfl,?_⟩⟩;show if FL (.str ww) (ps.map V.str)=true then _ else _;rw [aX];refine aU (λc=>⟨by show 7<=sizeLine;decide,λsv VT=>?_⟩) (λc=>⟨_,rfl,k ww HH hW (λz=>c (decide_eq_true z)) PH KH⟩);obtain⟨z,fz,Ls,Qw⟩:=sJ h6;have P7:=PH.new (o:=.lst (bV.map V.str)) VT;have K7:=KH.new (o:=.lst (bV.map V.str)) VT;have s7:upd HH sv (.lst (bV.map V.str)) sv=some (.lst (bV.map V.str)):=ag;refine⟨sv,rfl,⟨_,EF.of (show upd HH sv (.lst (bV.map V.str)) sv=some (.lst (bV.map V.str)) from ag)⟩,?_⟩;change Hl _ _ _ _ _ _ (upd HH sv (.lst (bV.map V.str)));generalize upd HH sv (.lst (bV.map V.str))=H8 at P7 K7 s7 ⊢;have W8:=W.kp hp K7;have h7:(bV.map V.str).length=7:=rfl;have h7':bV.length=7:=rfl;refine fH (xs:=bV.map V.str) (fits (by omega)) (λj zs σ H9=>zs=((bV.take j).filter λy=>!decide (y∈ps)).map V.str/\H9=H8/\∃g,σ=[g,some (.ref v)]) ⟨rfl,rfl,_,rfl⟩
    (λj zs σ H9 _ q=>⟨by rw [q.1,Av];exact AV (AL _ _) (by rw [AW];omega),by rw [q.2.1];exact EF.of s7⟩) ?_ ?_
   ·rintro j x zs σ H9 Fm ⟨rfl,rfl,g',rfl⟩
    rw [AH] at Fm;cases hc:bV[j]? with
    | none=>rw [hc] at Fm;cases Fm
    | some y =>
     rw [hc] at Fm;cases Fm;have tf:=bH (λy:Str=>!decide (y∈ps)) bV j y hc;refine⟨_,rfl,_,rfl,ay (j:=0) (.inr (EG.of W8.tp)) rfl rfl ⟨pa,ps.map V.str,rfl,.inr (EG.of W8.pl),rfl,aW ps,_,rfl,?_⟩⟩;show if (!FL (.str y) (ps.map V.str))=true then _ else _;rw [aX];refine aU (λc=>⟨_,rfl,?_,rfl,_,rfl⟩) (λc=>⟨?_,rfl,_,rfl⟩)
     ·rw [tf,if_pos c];simp
     ·rw [tf,if_neg c];simp
   rintro zs σ H9 ⟨rfl,rfl,g',rfl⟩ l1 Gg;rw [take_all bV (by simp)];refine ay (j:=0) (.inl (EF.of ag)) rfl (show ((bV.filter λy=>!decide (y∈ps)).map V.str)[0]?=some (.str z) by rw [AH,fP,fz];rfl) ?_;exact⟨_,rfl,k z _ (sN z Ls) Qw (P7.new Gg) (K7.new Gg)⟩
theorem jE {α:Type}{p q:α->Bool}{l:List α} (h:∀x∈l,p x=true->q x=true):(l.filter p).length<=(l.filter q).length:=by
 rw [<- CI,<- CI];exact List.countP_mono_left h
theorem jl (rs:List T) (l:List Str):cnt rs l=((rs.map (·.2)).filter (bq l)).length:=by
 have h:=gy l rs;have h2:=congrArg List.length h;rw [Av,Av] at h2;exact h2.symm
theorem pG {ps:List Str}{root:Str}{R:List Row}{m:Nat} (hn:ps.Nodup) (ok:ce ps R) (h:∀l∈aL (others ps root),m<=(R.filter (bq l)).length) (p:Str->Bool) (h0:p root=false) (h1:∃x∈ps,p x=true):m<=(R.filter λr=>p r.2.2 && !p r.2.1).length:=by
 have Fo:(others ps root).Nodup:=hn.sublist Bi;have hm:∀x,x∈(others ps root).filter p ↔ x∈ps/\p x=true:=λx=>by
  unfold others;rw [AM,AM];constructor
  ·exact λq=>⟨q.1.1,q.2⟩
  ·refine λq=>⟨⟨q.1,?_⟩,q.2⟩
   have:x≠root:=λz=>by rw [z,h0] at q;cases q.2
   simp [this]
 have hl:(others ps root).filter p∈aL (others ps root):=(de Fo).mpr ⟨Bi,λz=>by
  obtain⟨x,hx,hp⟩:=h1;have:=(hm x).mpr ⟨hx,hp⟩
  rw [z] at this;cases this⟩
 refine AV (h _ hl) (jE λr hr e=>?_);obtain⟨e1,e2⟩:=cL.mp e;rw [((hm _).mp e1).2];cases hc:p r.2.1 with
 | false=>rfl
 | true=>exact absurd ((hm _).mpr ⟨(ok.st r hr).1,hc⟩) e2
theorem wF {ps ls ps':List Str}{root nm:Str}{R:List Row}{m:Nat} (hn:ps.Nodup) (ok:ce ps R) (hl:cB ps ls) (hr:root∉ls) (E2:nm∉ps) (EO:root∈ps) (hp:ps'.Perm (outs ps ls++[nm])) (h:∀l∈aL (others ps root),m<=(R.filter (bq l)).length) :
  ∀l∈aL (others ps' root),m<=((br ls nm R).filter (bq l)).length:=λl hm=>by
 have Hv:ps'.Nodup:=hp.nodup_iff.mpr (by
  rw [BF];refine⟨hn.sublist Bi,by simp,λx hx y hy e=>?_⟩;rw [Bd.mp hy] at e
  exact E2 (e ▸ (bF.mp hx).1))
 obtain⟨h1,h2⟩:=(js Hv).mp hm;obtain⟨hs,EZ⟩:=(de Hv).mp h1;have MD:sb ls nm root=root:=cg hr
 have g:=pG (m:=m) hn ok h (λx=>decide (sb ls nm x∈l)) (by rw [MD];exact decide_eq_false h2) (by
  cases Gw:l with
  | nil=>exact absurd Gw EZ
  | cons a t =>
   have ha:a∈l:=by rw [Gw];exact AJ
   rcases AO.mp (hp.mem_iff.mp (hs.subset ha)) with z | z
   ·obtain⟨q1,q2⟩:=bF.mp z
    exact⟨a,q1,by rw [cg q2,<- Gw];exact decide_eq_true ha⟩
   ·cases MU:ls with
    | nil=>exact absurd MU hl.ne
    | cons b u =>
     have hb:b∈ls:=by rw [MU];exact AJ
     rw [Bd.mp z] at ha
     exact⟨b,hl.sub b hb,by rw [<- MU,cP hb,<- Gw];exact decide_eq_true ha⟩)
 refine AV g ?_;have e:(br ls nm R).filter (bq l)=(R.filter λr=>G4 (shr ls nm r) && bq l (shr ls nm r)).map (shr ls nm):=by
  unfold br;rw [CN,Cm]
  congr 1
  refine List.filter_congr λr _=>?_;exact Ei _ _
 rw [e,Av];refine jE λr hr q=>?_;simp only [BL,Du,decide_eq_true_eq,decide_eq_false_iff_not] at q;have q1:G4 (shr ls nm r)=true:=gN.mpr λz=>q.2 (z ▸ q.1);have q2:bq l (shr ls nm r)=true:=cL.mpr q;rw [q1,q2];rfl
theorem vW {ps ls ps':List Str}{root nm:Str}{R:List Row}{m:Nat} (hn:ps.Nodup) (ok:ce ps R) (hl:cB ps ls) (hr:root∉ls) (E2:nm∉ps) (hp:ps'.Perm (ls++[nm])) (h:∀l∈aL (others ps root),m<=(R.filter (bq l)).length) :
  ∀l∈aL (others ps' nm),m<=((bo ls nm R).filter (bq l)).length:=λl hm=>by
 have Hv:ps'.Nodup:=hp.nodup_iff.mpr (by
  rw [BF];refine⟨bU hl.so,by simp,λx hx y hy e=>?_⟩;rw [Bd.mp hy] at e
  exact E2 (e ▸ hl.sub x hx))
 obtain⟨h1,h2⟩:=(js Hv).mp hm;obtain⟨hs,EZ⟩:=(de Hv).mp h1;have Fq:∀x∈l,x∈ls:=λx hx=>by
  rcases AO.mp (hp.mem_iff.mp (hs.subset hx)) with z | z
  ·exact z
  ·rw [Bd.mp z] at hx;exact absurd hx h2
 have g:=pG (m:=m) hn ok h (λx=>decide (x∈l)) (decide_eq_false λz=>hr (Fq _ z)) (by
  cases Gw:l with
  | nil=>exact absurd Gw EZ
  | cons a t =>
   have ha:a∈l:=by rw [Gw];exact AJ
   exact⟨a,hl.sub a (Fq a ha),by rw [<- Gw];exact decide_eq_true ha⟩)
 refine AV g ?_;have e:(bo ls nm R).filter (bq l)=(R.filter λr=>decide (r.2.2∈ls) && bq l (GT ls nm r)).map (GT ls nm):=by
  unfold bo;rw [Cm,CN]
  congr 1
  refine List.filter_congr λr _=>?_;exact Ei _ _
 rw [e,Av];refine jE λr hr q=>?_;simp only [BL,Du,decide_eq_true_eq,decide_eq_false_iff_not] at q;rw [decide_eq_true (Fq _ q.1),Bool.true_and];refine cL.mpr ⟨q.1,?_⟩;show (if r.2.1∈ls then r.2.1 else nm)∉l;split
 ·exact q.2
 ·exact h2
theorem mm {α β:Type} (f:α->β) {l:List α} (h:(l.map f).Nodup):l.Nodup:=(Ca.mp h).imp λ{a b} He e=>He (by rw [e])
theorem yo {a b:List Str} (ha:a.Nodup) (hs:∀x∈a,x∈b) (hb:b.length<=a.length) {y:Str} (hy:y∈b):y∈a:=by
 by_cases c:y∈a
 ·exact c
 ·have h1:(y::a).Nodup:=Bc.mpr ⟨c,ha⟩
  have:=cF h1 λx hx=>by
   rcases AI.mp hx with rfl | z
   ·exact hy
   ·exact hs x z
  rw [Bv] at this;omega
theorem Ip.walk {root:Str}{ps:List Str}{tr:List T} (S:Ip root ps tr):∀(n i:Nat) (r:T),i<=n->tr[i]?=some r->∃k,Walk (tr.map (·.2)) root k r.2.2.2:=by
 intro n
 induction n with
 | zero =>
  intro i r hi EV;have e:i=0:=by omega
  subst e;have o:=S.ord 0 r EV;simp at o;refine⟨1,Walk.snoc (r:=r.2) ?_ (AC (f:=λz:T=>z.2) (AB EV))⟩;rw [o];exact Walk.nil
 | succ n ih =>
  intro i r hi EV;have o:=S.ord i r EV;have hm:=AC (f:=λz:T=>z.2) (AB EV)
  rcases AI.mp o with z | z
  ·refine⟨1,Walk.snoc (r:=r.2) ?_ hm⟩
   rw [z];exact Walk.nil
  ·obtain⟨q,hq,e⟩:=AG.mp z
   obtain⟨j,hj,JY⟩:=Cw.mp hq;have FK:j < i:=by rw [AW] at hj;omega
   have Tg:tr[j]?=some q:=by
    rw [List.getElem_take] at JY;rw [AE];exact⟨by rw [AW] at hj;omega,JY⟩
   obtain⟨k,wk⟩:=ih j q (by omega) Tg;refine⟨k + 1,Walk.snoc (r:=r.2) ?_ hm⟩;rw [<- e];exact wk
theorem Walk.mono {R R':List Row}{a:Str} (h:∀r∈R,r∈R'):∀{n:Nat}{x:Str},Walk R a n x->Walk R' a n x
 | _,_,.nil=>.nil
 | _,_,.snoc w hr=>.snoc (Walk.mono h w) (h _ hr)
theorem LQ.shr {ps:List Str}{root:Str}{rs:List T}{n:Nat}{E9:List (List T)}{EH:List (Addr×List Str)}{cur:List T} (hn:ps.Nodup) (ok:ce ps (rs.map (·.2))) (h:LQ ps (List.replicate n root) rs n E9 EH cur):FP root ps (rs.map (·.2)) (EH.map (·.2)):=by
 have names:(Gj rs).Nodup:=by
  have:=ok.nd;rw [Bf] at this;exact this
 have ZL:(Gj rs).Perm (Gj E9.flatten++Gj cur):=by
  have:=h.pm.map λr:T=>r.2.1
  rwa [AU] at this
 have Ig:(Gj E9.flatten).Nodup:=(BF.mp (ZL.nodup_iff.mp names)).1;have Wo:(E9.map Gj).flatten.Nodup:=by
  have e:(E9.map Gj).flatten=Gj E9.flatten:=(List.map_flatten (f:=λr:T=>r.2.1)).symm;rw [e];exact Ig
 have hA:=gm Wo;have at_:∀(i:Nat) (x:Addr×List Str),EH[i]?=some x->∃tr,E9[i]?=some tr/\Ip root ps tr/\tr.length + 1=ps.length/\x.2.Perm (Gj tr)/\PyProof.Rows.sortedS x.2=true:=λi x hx=>by
  have hi:i < EH.length:=(AE.mp hx).1;have IB:i < E9.length:=by rw [h.l1,<- h.l2];exact hi
  have Z5:i < n:=by rw [<- h.l2];exact hi
  exact⟨E9[i],AD IB,h.tr i root E9[i] x (by rw [List.getElem?_replicate,if_pos Z5]) (AD IB) hx⟩
 have Jo:∀tr∈E9,∀r∈tr,r∈rs:=λtr ht r EV=>h.pm.mem_iff.mpr (AZ _ (DC.mpr ⟨tr,ht,EV⟩));have MO:∀tr∈E9,(Gj tr).Nodup:=λtr ht=>by
  have:(Gj tr).Sublist (E9.map Gj).flatten:=List.sublist_flatten_of_mem (AC ht);exact Wo.sublist this
 have Tp:∀a∈rs.map (·.2),∀b∈rs.map (·.2),a.1=b.1->a=b:=λa ha b hb e=>dP ok.nd ha hb e;refine⟨λss hs=>?_,?_⟩
 ·obtain⟨x,hx,rfl⟩:=AG.mp hs
  obtain⟨i,hi,Tj⟩:=Cw.mp hx;have Ti:EH[i]?=some x:=by rw [AD hi,Tj]
  obtain⟨tr,ht,S,hl,E8,GJ⟩:=at_ i x Ti;have Gk:=AB ht;have Zn:x.2.Nodup:=E8.nodup_iff.mpr (MO tr Gk);have Mp:∀r,r∈bp (rs.map (·.2)) x.2 ↔ r∈tr.map (·.2):=λr=>by
   rw [b9];constructor
   ·rintro⟨h1,h2⟩
    obtain⟨q,hq,e⟩:=AG.mp (E8.mem_iff.mp h2);have ZI:q.2∈rs.map (·.2):=AC (f:=λz:T=>z.2) (Jo tr Gk q hq);have:=Tp r h1 q.2 ZI e.symm;rw [this];exact AC (f:=λz:T=>z.2) hq
   ·intro EV
    obtain⟨q,hq,rfl⟩:=AG.mp EV;exact⟨AC (f:=λz:T=>z.2) (Jo tr Gk q hq),E8.mem_iff.mpr (AC (f:=λz:T=>z.2.1) hq)⟩
  have Yh:(bp (rs.map (·.2)) x.2).Nodup:=by
   have h1:(rs.map (·.2)).Nodup:=mm _ ok.nd;exact h1.sublist Bi
  have Yg:(tr.map (·.2)).Nodup:=by
   have:((tr.map (·.2)).map λr:Row=>r.1).Nodup:=by rw [Bf];exact MO tr Gk
   exact mm _ this
  have pR:(bp (rs.map (·.2)) x.2).Perm (tr.map (·.2)):=(List.perm_ext_iff_of_nodup Yh Yg).mpr Mp;have pE:(root::(bp (rs.map (·.2)) x.2).map (·.2.2)).Perm (root::ends tr):=by
   refine List.Perm.cons _ ?_;have:=pR.map λr:Row=>r.2.2;rw [Bf] at this;exact this
  have TJ:∀y∈ps,y∈root::ends tr:=λy hy=>yo S.nd S.sub (by rw [Bv,Av];omega) hy;refine⟨ez GJ Zn,λy hy=>?_,Tree.of_walk (pE.nodup_iff.mpr S.nd) (λy hy=>pE.mem_iff.mpr (TJ y hy)) λr EV=>?_⟩
  ·obtain⟨q,hq,e⟩:=AG.mp (E8.mem_iff.mp hy)
   rw [<- e];exact AC (f:=λz:Row=>z.1) (AC (f:=λz:T=>z.2) (Jo tr Gk q hq))
  ·obtain⟨q,hq,rfl⟩:=AG.mp ((Mp r).mp EV)
   obtain⟨j,hj,Tg⟩:=Cw.mp hq;obtain⟨k,wk⟩:=S.walk j j q (AF _) (by rw [AD hj,Tg]);exact⟨k,Walk.mono (λr hr=>(Mp r).mpr hr) wk⟩
 ·refine jZ (λl hl=>?_) ?_
  ·obtain⟨x,hx,rfl⟩:=AG.mp hl
   obtain⟨i,hi,Tj⟩:=Cw.mp hx;obtain⟨tr,ht,_,_,E8,_⟩:=at_ i x (by rw [AD hi,Tj]);exact E8.nodup_iff.mpr (MO tr (AB ht))
  ·refine Bb.mpr λi j hi hj FW x hx Fm=>?_
   rw [Av] at hi hj;rw [CH] at hx Fm;obtain⟨tr,ht,_,_,E8,_⟩:=at_ i _ (AD hi);obtain⟨tr',ZD,_,_,Kv,_⟩:=at_ j _ (AD hj);obtain⟨a1,a2⟩:=AE.mp ht;obtain⟨b1,b2⟩:=AE.mp ZD;have:=Bb.mp hA i j (by rw [Av];exact a1) (by rw [Av];exact b1) FW x;rw [CH,CH,a2,b2] at this;exact this (E8.mem_iff.mp hx) (Kv.mem_iff.mp Fm)
structure Rp (d:PyData) (B D:Nat):Prop where
 sh:d.showable=true
 hd:d.hasDict=false
 dp:d.depth<=D
 ln:d.shown.length<=B
theorem ya {ps:List Str}{rows:List Row} (G:Good ps rows):Rp (cD ps rows) 40010 3:=by
 refine⟨vg _ _,yh _ _,G.shaped.2.2,?_⟩;have h1:=jw G.nm;have h2:(PyData.tuple (rows.map cJ)).shown.length<=3 + (rows.map cJ).length * (255 + 2):=shown_tuple (B:=255) λd hd=>by
  obtain⟨r,hr,rfl⟩:=AG.mp hd;obtain⟨a,b,c⟩:=G.ends r hr;have:=jw (ss:=[r.1,r.2.1,r.2.2]) (by simp;exact⟨a,b,c⟩);simpa [cJ] using this
 rw [Av] at h2;have p1:=G.pz;have r1:=G.rz;have h3:=shown_tuple (B:=20000) (ds:=[.tuple (ps.map PyData.str),.tuple (rows.map cJ)]) λd hd=>by
  simp at hd
  rcases hd with rfl | rfl
  ·omega
  ·omega
 show (cD ps rows).shown.length<=40010;unfold cD;simp at h3;omega
theorem pS {ss:List Str} (h:∀x∈ss,aE x) (hz:ss.length<=100):Rp (dh ss) 8403 1:=by
 refine⟨?_,?_,?_,?_⟩
 ·simp only [PyData.showable,iw]
 ·simp only [PyData.hasDict,iT]
 ·simp only [PyData.depth,(iH h).2];omega
 ·have:=jw h
  show (PyData.tuple (ss.map PyData.str)).shown.length<=8403;omega
theorem mM:∀tl:List (List Str),PyData.showableAll (tl.map dh)=true
 | []=>rfl
 | x::t=>by rw [Bj,PyData.showableAll,mM t,PyData.showable,iw];rfl
theorem pI:∀tl:List (List Str),PyData.hasDictAll (tl.map dh)=false
 | []=>rfl
 | x::t=>by rw [Bj,PyData.hasDictAll,pI t,PyData.hasDict,iT];rfl
theorem gG {tl:List (List Str)} (h:∀ts∈tl,(∀y∈ts,aE y)/\ts.length<=100) (h6:tl.length<=6):Rp (G3 tl) 50440 2:=by
 refine⟨?_,?_,?_,?_⟩
 ·simp only [PyData.showable,mM]
 ·simp only [PyData.hasDict,pI]
 ·have:=(jW λts GH=>(h ts GH).1).2
  simp only [PyData.depth];omega
 ·have:=shown_list (B:=8403) (ds:=tl.map dh) λd hd=>by
   obtain⟨ts,GH,rfl⟩:=AG.mp hd;exact (pS (h ts GH).1 (h ts GH).2).ln
  rw [Av] at this;show (PyData.list (tl.map dh)).shown.length<=50440;omega
theorem wc {a b c:PyData} (ha:Rp a 40010 3) (hb:Rp b 8403 1) (hc:Rp c 50440 2):Rp (.list [a,b,c]) 160000 4:=by
 have a3:=ha.dp;have b3:=hb.dp;have c3:=hc.dp;refine⟨?_,?_,?_,?_⟩
 ·simp only [PyData.showable,PyData.showableAll,ha.sh,hb.sh,hc.sh];rfl
 ·simp only [PyData.hasDict,PyData.hasDictAll,ha.hd,hb.hd,hc.hd];rfl
 ·simp only [PyData.depth,PyData.depthAll];omega
 ·have a4:=ha.ln
  have b4:=hb.ln;have c4:=hc.ln;have:=shown_list (B:=50440) (ds:=[a,b,c]) λd hd=>by
   simp at hd
   rcases hd with rfl | rfl | rfl <;> omega
  simp at this;omega
theorem pQ {a b:PyData} (ha:Rp a 50440 2) (hb:Rp b 50440 2):Rp (.tuple [a,b]) 160000 3:=by
 have a3:=ha.dp;have b3:=hb.dp;refine⟨?_,?_,?_,?_⟩
 ·simp only [PyData.showable,PyData.showableAll,ha.sh,hb.sh];rfl
 ·simp only [PyData.hasDict,PyData.hasDictAll,ha.hd,hb.hd];rfl
 ·simp only [PyData.depth,PyData.depthAll];omega
 ·have a4:=ha.ln
  have b4:=hb.ln;have:=shown_tuple (B:=50440) (ds:=[a,b]) λd hd=>by
   simp at hd
   rcases hd with rfl | rfl <;> omega
  simp at this;omega
section
variable {X:Cx}
def yS:List V->Hp->VK->Prop:=λxs H Q=>∃a d B D,xs=[.ref a]/\DV H (.ref a) d/\Rp d B D/\B<=160000/\D<=40/\Q (.str d.shown) H
theorem dN {k:Nat} (hr:aQ k X.A):bJ X (.builtin "repr") yS:=by
 intro pins s σ H xs us Q I r h;obtain⟨a,d,B,D,rfl,dx,rp,hB,hD,q⟩:=h;exact sk hr pins s σ H _ us Q I r ⟨a,d,rfl,dx,rp.sh,rp.hd,AV rp.dp hD,AV rp.ln (by rw [Br];omega),q⟩
end
theorem lp (rs:List T) (q:Row->Bool):E4 (rs.filter λr=>q r.2)=((rs.map (·.2)).filter q).map (·.1):=by
 rw [Cm,Bf];rfl
theorem oy {ys zs:List (Addr×List Str)} (hl:ys.length=zs.length) (h:∀(i:Nat) (y z:Addr×List Str),ys[i]?=some y->zs[i]?=some z->y.2=z.2):ys.map (·.2)=zs.map (·.2):=by
 refine EA (by rw [Av,Av,hl]) λi h1 h2=>?_;rw [CH,CH];rw [Av] at h1 h2;exact h i _ _ (AD h1) (AD h2)
theorem FP.perm {root:Str}{ps:List Str}{R:List Row}{tl UQ:List (List Str)} (S:FP root ps R tl) (h:UQ.Perm tl):FP root ps R UQ :=
 ⟨λss hs=>S.tr ss (h.mem_iff.mp hs),h.flatten.nodup_iff.mpr S.nd⟩
theorem FP.places {root:Str}{ps ps':List Str}{R:List Row}{tl:List (List Str)} (S:FP root ps R tl) (h:∀x∈ps',x∈ps):FP root ps' R tl :=
 ⟨λss hs=>let t:=S.tr ss hs;⟨t.so,t.nm,⟨t.tr.nd,λx hx=>t.tr.all x (h x hx),t.tr.rk⟩⟩,S.nd⟩
theorem aJ.kp {H H':Hp}{p:Addr}{EH:List (Addr×List Str)} (A:aJ H EH) (hp:E1 H p) (k:Kp [p] H H'):aJ H' EH:=λx hx=>k.tup hp (A x hx)
theorem ck.kp {H H':Hp}{p v pa ra th:Addr}{ps:List Str}{rs:List T}{root:Str}{EH:List (Addr×List Str)} (h:ck H v pa ra th ps rs root EH) (hp:E1 H p) (k:Kp [p] H H'):ck H' v pa ra th ps rs root EH :=
 ⟨h.W.kp hp k,h.G,h.pz,h.rz,h.rt,k.at (iQ hp h.th) h.th,h.A.kp hp k,h.n6,h.S⟩
theorem iU {H:Hp}{v pa ra th l:Addr}{ps ls:List Str}{rs:List T}{root:Str}{EH:List (Addr×List Str)} (S:ck H v pa ra th ps rs root EH) (hl:H l=some (.tup (ls.map V.str))) {k1:Addr} (hk:H k1=none) :
  DV (upd H k1 (.lst [.ref v,.ref l,.ref th])) (.ref k1) (.list [cD ps (rs.map (·.2)),dh ls,G3 (EH.map (·.2))]) :=
 have s:=ai (o:=.lst [.ref v,.ref l,.ref th]) (af.refl H) hk
 .lst ag (.cons (S.W.same s).dv (.cons (.tup (s _ _ hl) (Gi.strs ls)) (.cons (.lst (s _ _ S.th) (cY (S.A.same s))) .nil)))
theorem xo {H:Hp}{v pa ra th:Addr}{ps ls:List Str}{rs:List T}{root:Str}{EH:List (Addr×List Str)} (S:ck H v pa ra th ps rs root EH) (L:cB ps ls) :
  Rp (.list [cD ps (rs.map (·.2)),dh ls,G3 (EH.map (·.2))]) 160000 4 :=
 wc (ya S.G) (pS L.nm L.z) (gG (λts GH=>by
  obtain⟨x,hx,rfl⟩:=AG.mp GH
  exact⟨S.name hx,by have:=S.len hx;omega⟩) (by rw [Av];exact S.n6))
theorem oW {tl:List (List Str)} (h:∀ts∈tl,∀y∈ts,aE y):(G3 tl).canLay0=true/\(G3 tl).depth<=2:=by
 have:=jW h;refine⟨by simp only [PyData.canLay0];exact this.1,by simp only [PyData.depth];omega⟩
theorem wZ {a b:PyData} (ha:a.canLay0=true/\a.depth<=2) (hb:b.canLay0=true/\b.depth<=2):SeqAt.shaped (.list [a,b])=true/\(PyData.list [a,b]).canLay0=true:=by
 have c:(PyData.list [a,b]).canLay0=true:=by simp only [PyData.canLay0,PyData.canLayAll0,ha.1,hb.1];rfl
 refine⟨?_,c⟩;unfold SeqAt.shaped;have d:(PyData.list [a,b]).depth<=3:=by
  have:=ha.2;have:=hb.2;simp only [PyData.depth,PyData.depthAll];omega
 rw [c,decide_eq_true (by omega)];rfl
theorem ne_self (x:Str):(!decide (V.str x=V.str x))=false:=by simp
def oo:Sp:=λvs H Q _=>∃(p v pa ra th l:Addr) (ps ls:List Str) (rs:List T) (root nm:Str) (EH:List (Addr×List Str)),vs=[.ref p,.ref v,.str root,.ref l,.str nm,.ref th]/\E1 H p/\ck H v pa ra th ps rs root EH/\ps.length<=6/\rs.length<=26/\H l=some (.tup (ls.map V.str))/\cB ps ls/\root∉ls/\aE nm/\nm∉ps/\(bu ls (rs.map (·.2))).length=EH.length /\
 (∀l∈aL (others ps root),EH.length<=((rs.map (·.2)).filter (bq l)).length)/\∀H',E1 H' p->Kp [p] H H'->Q (.bl true) H'
abbrev N74:List Str:=["_law_pot_here","_law_web_here","_law_root","_law_lot","_law_name_here","_law_trees","_law_kept","_law_outside","_law_inside","_law_stay","_law_into","_law_outer","_law_inner","_law_turn","_law_told","_law_some","_law_handed"]
theorem cQ:aH N74 ["_law_pot_here","_law_web_here","_law_root","_law_lot","_law_name_here","_law_trees"] (aC (top 74)):=⟨rfl,rfl,rfl,by decide +kernel,rfl,by decide +kernel,by decide +kernel⟩
theorem uW (F:EW K "_law_right" "_law_right" (top 74) f fd) (B:Bl mg) (Fs:Fn P w K mg base 1 "_law_shrunk" ["_law_web_here","_law_lot","_law_name_here"] gx) (Fw:Fn P w K mg base 1 "_law_within" ["_law_web_here","_law_lot","_law_name_here"] gz)
  (Fp:Fn P w K mg base 6 "parted" ["web","root","lot","trees"] mK) (Fa:Fn P w K mg base 2 "_law_are_shares" ["_law_web_here","_law_root","_law_many","_law_trees"] pV) (Ft:Fn P w K mg base 7 "together" ["web","root","lot","outer","inner","name"] qh)
  (Fu:Fn P w K mg base 2 "_law_turned" ["_law_pot_here","_law_trees"] oX) (Fh:Fn P w K mg base 6 "shares" ["web","root","many"] jO) (Fg:Fn P w K mg base 1 "_law_glued" ["_law_web_here","_law_lot","_law_outer","_law_inner"] pB) :
  aD P w K mg base EU 8 f fd ["_law_pot_here","_law_web_here","_law_root","_law_lot","_law_name_here","_law_trees"] oo:=by
 refine F.ok cQ (λvs H Q E h=>?_) (λ_ _ _ _ H vs Q E hr h=>?_)
 ·obtain⟨p,v,pa,ra,th,l,ps,ls,rs,root,nm,EH,rfl,_⟩:=h
  rfl
 ·obtain⟨p,v,pa,ra,th,l,ps,ls,rs,root,nm,EH,rfl,hp,S,p6,Rk,hl,L,FV,hN,LF,Hz,HA,k⟩:=h
  have OF:aQ 6 _:=hr.mono (by decide);have Ge:aQ 2 _:=hr.mono (by decide);have E7:aQ 1 _:=hr.mono (by decide);refine' ⟨_,?d0,?main⟩
  case' d0=>refine' ak (aA (i:=6) cQ.nd rfl (Or.inl rfl) (au (dN hr) rfl B.repr dQ (aa (bw (aa (pv 1) (aa (pv 3) (aa (pv 5) ae)))) ae))) ?d1
  case' d1=>refine' ak (yb (i:=7) (j:=8) rfl cQ.nd rfl rfl (by decide) rfl rfl (aa (aq Fs E7 (aa (pv 1) (aa (pv 3) (aa (pv 4) ae)))) (aa (aq Fw E7 (aa (pv 1) (aa (pv 3) (aa (pv 4) ae)))) ae)) rfl) ?d2
  case' d2=>refine' ak (aA (i:=9) cQ.nd rfl (Or.inr rfl) (aZ (N:=["_law_row","_law_lot"]) (ix:=[none,some 3]) ⟨rfl,rfl,rfl,by decide⟩ rfl (bC (ax aG (pv 1) am (λ_ _=>rfl))) (λ_ _ _ _=>aF 0 (by decide) rfl rfl)
    (λ_ _ _ _=>bL (PW.pt (cq (aB (eu K) (ax (bD K) (pv 0) am (λ_ _=>rfl)) (pv 1) (by with_unfolding_all rfl)) (cw (aB (eu K) (ax (bD K) (pv 0) am (λ_ _=>rfl)) (pv 1) (by with_unfolding_all rfl))))))
    (λ_ _ _ _=>ax (bD K) (pv 0) am (λ_ _=>rfl)))) ?d3
  case' d3=>refine' ak (aA (i:=10) cQ.nd rfl (Or.inr rfl) (aZ (N:=["_law_row","_law_lot"]) (ix:=[none,some 3]) ⟨rfl,rfl,rfl,by decide⟩ rfl (bC (ax aG (pv 1) am (λ_ _=>rfl))) (λ_ _ _ _=>aF 0 (by decide) rfl rfl)
    (λ_ _ _ _=>bL (aB (cO K) (ax (bD K) (pv 0) am (λ_ _=>rfl)) (pv 1) (by with_unfolding_all rfl)))
    (λ_ _ _ _=>ax (bD K) (pv 0) am (λ_ _=>rfl)))) ?d4
  case' d4=>refine' ak (dB (i:=11) (N:=["_law_tree","_law_stay"]) (ix:=[none,some 9]) cQ.nd rfl (Or.inl rfl) ⟨rfl,rfl,rfl,by decide⟩ rfl (bv (pv 5)) (λ_ _ _ _=>aF 0 (by decide) rfl rfl) (λ_ _ _ _=>bz)
   (λ_ _ _ _=>bP (jx K) rfl B.tuple cv (aa (aZ (N:=["_law_tie","_law_stay"]) (ix:=[none,some 1]) ⟨rfl,rfl,rfl,by decide⟩ rfl (iM K (pv 0)) (λ_ _ _ _=>aF 0 (by decide) rfl rfl) (λ_ _ _ _=>bL (aB (cO K) (pv 0) (pv 1) (by with_unfolding_all rfl))) (λ_ _ _ _=>pv 0)) ae))) ?d5
  case' d5=>refine' ak (dB (i:=12) (N:=["_law_tree","_law_into"]) (ix:=[none,some 10]) cQ.nd rfl (Or.inl rfl) ⟨rfl,rfl,rfl,by decide⟩ rfl (bv (pv 5)) (λ_ _ _ _=>aF 0 (by decide) rfl rfl) (λ_ _ _ _=>bz)
   (λ_ _ _ _=>bP (jx K) rfl B.tuple cv (aa (aZ (N:=["_law_tie","_law_into"]) (ix:=[none,some 1]) ⟨rfl,rfl,rfl,by decide⟩ rfl (iM K (pv 0)) (λ_ _ _ _=>aF 0 (by decide) rfl rfl) (λ_ _ _ _=>bL (aB (cO K) (pv 0) (pv 1) (by with_unfolding_all rfl))) (λ_ _ _ _=>pv 0)) ae))) ?d6
  case' d6=>refine' ak (bZ Bm rfl (di rfl B.range (aa am ae)) (bc (i:=13) cQ.nd rfl (Or.inl rfl)) ?e0) ?d7
  case' e0=>refine' ak (aA (i:=14) cQ.nd rfl (Or.inl rfl) (aq Fp OF (aa (pv 1) (aa (pv 2) (aa (pv 3) (aa (pv 5) ae)))))) ?e1
  case' e1=>refine' ak (aS (PW.pt (cq (aB cj (au (dN hr) rfl B.repr dQ (aa (pv 14) ae)) (au (dN hr) rfl B.repr dQ (aa (cf (aa (pv 11) (aa (pv 12) ae))) ae)) (aT _)) (cw (aB cj (au (dN hr) rfl B.repr dQ (aa (bw (aa (pv 1) (aa (pv 3) (aa (pv 5) ae)))) ae)) (pv 6) (aT _))))) bT aV) ?e2
  case e2=>exact ar (bZ Bm rfl (bC (pv 14)) (bc (i:=15) cQ.nd rfl (Or.inl rfl)) (ar (bg (pA Bo PySem.F.slot_list_clear PySem.F.type_list_clear nA (pv 15)))))
  case' d7=>refine' ak (aS (PW.pt (cq (bS (bM (aq Fa Ge (aa (pv 7) (aa (pv 2) (aa (au bb rfl B.len AY (aa (pv 5) ae)) (aa (pv 11) ae)))))))
    (cw (bS (bM (aq Fa Ge (aa (pv 8) (aa (pv 4) (aa (au bb rfl B.len AY (aa (pv 5) ae)) (aa (pv 12) ae)))))))))) bT aV) ?d8
  case' d8=>refine' ak (bZ Bm rfl (di rfl B.range (aa am ae)) (bc (i:=13) cQ.nd rfl (Or.inl rfl)) ?f0) ?d9
  case' f0=>refine' ak (aA (i:=16) cQ.nd rfl (Or.inl rfl) (bw (aa (bP fC rfl B.list eX (aa (pv 11) ae)) (aa (bP fC rfl B.list eX (aa (pv 12) ae)) ae)))) ?f1
  case' f1=>refine' ak (aA (i:=14) cQ.nd rfl (Or.inl rfl) (aq Ft hr (aa (pv 1) (aa (pv 2) (aa (pv 3) (aa (ax aG (pv 16) am (λ_ _=>rfl)) (aa (ax aG (pv 16) am (λ_ _=>rfl)) (aa (pv 4) ae)))))))) ?f2
  case' f2=>refine' ak (aS (aB cj (au (dN hr) rfl B.repr dQ (aa (pv 14) ae)) (au (dN hr) rfl B.repr dQ (aa (pv 5) ae)) (aT _)) bT aV) ?f3
  case' f3=>refine' ak (bg (pA Bo PySem.F.slot_list_clear PySem.F.type_list_clear nA (pv 14))) ?f4
  case f4=>exact ar (aS (PW.pt (cq (aB (fV hr) (pv 16) (bw (aa (pv 11) (aa (pv 12) ae))) (aT _)) (cw (aB cj (au (dN hr) rfl B.repr dQ (aa (bw (aa (pv 1) (aa (pv 3) (aa (pv 5) ae)))) ae)) (pv 6) (aT _))))) bT aV)
  case' d9=>refine' ak (aA (i:=11) cQ.nd rfl (Or.inl rfl) (aq Fu Ge (aa (pv 0) (aa (aq Fh OF (aa (pv 7) (aa (pv 2) (aa (au bb rfl B.len AY (aa (pv 5) ae)) ae)))) ae)))) ?d10
  case' d10=>refine' ak (aA (i:=12) cQ.nd rfl (Or.inl rfl) (aq Fu Ge (aa (pv 0) (aa (aq Fh OF (aa (pv 8) (aa (pv 4) (aa (au bb rfl B.len AY (aa (pv 5) ae)) ae)))) ae)))) ?d11
  case' d11=>refine' ak (aA (i:=14) cQ.nd rfl (Or.inl rfl) (aq Ft hr (aa (pv 1) (aa (pv 2) (aa (pv 3) (aa (pv 11) (aa (pv 12) (aa (pv 4) ae)))))))) ?d12
  case' d12=>refine' ak (aS (PW.pt (cq (aB cj (au (dN hr) rfl B.repr dQ (aa (pv 14) ae)) (au (dN hr) rfl B.repr dQ (aa (aq Fg E7 (aa (pv 1) (aa (pv 3) (aa (pv 11) (aa (pv 12) ae))))) ae)) (aT _))
    (cw (bS (bM (aq Fa Ge (aa (pv 1) (aa (pv 2) (aa (au bb rfl B.len AY (aa (pv 5) ae)) (aa (pv 14) ae)))))))))) bT aV) ?d13
  case d13=>exact ar (aM (cS dG (au (dN hr) rfl B.repr dQ (aa (bw (aa (pv 1) (aa (pv 3) (aa (pv 5) ae)))) ae)) (pv 6) (aT _)))
  case main =>
  have ok:=S.G.rowsOk;have W:=S.W;have G:=S.G;have h6:=S.n6;have FY:(ah EH).length=EH.length:=by simp
  have FE:(aj rs).length=rs.length:=by simp
  have Fo:nm∉outs ps ls:=λz=>LF (bF.mp z).1;have JV:nm∉ls:=λz=>LF (L.sub nm z);have GM:=bU G.so;have Td:ls.length<=ps.length:=cF (bU L.so) L.sub;have Qt:=xo S L;obtain⟨R,hR⟩:∃R,rs.map (·.2)=R:=⟨_,rfl⟩
  refine⟨_,rfl,_,rfl,_,rfl,by show 3<=sizeLine;decide,λk1 Wk=>⟨k1,_,_,_,rfl,iU S hl Wk,Qt,by decide,by decide,?_⟩⟩;obtain⟨KT,QG⟩:∃KT,(PyData.list [cD ps (rs.map (·.2)),dh ls,G3 (EH.map (·.2))]).shown=KT:=⟨_,rfl⟩
  rw [QG];have s1:=ai (o:=.lst [.ref v,.ref l,.ref th]) (af.refl H) Wk;generalize upd H k1 (.lst [.ref v,.ref l,.ref th])=H1 at s1 ⊢;refine⟨_,rfl,_,rfl,_,rfl,v,pa,ra,l,ps,ls,nm,rs,rfl,W.same s1,G,s1 _ _ hl,L,hN,Fo,by omega,λv1 Qp Qh Np Nn H2 s2 hv1 W1 e1 Qn Q4=>?_⟩;have FN:=s1.trans s2;refine⟨_,rfl,_,rfl,_,rfl,v,pa,ra,l,ps,ls,nm,rs,rfl,W.same FN,G,FN _ _ hl,L,hN,JV,by omega,λv2 Va U5 Qk U0 H3 s3 hv2 W2 e2 Qm Q3=>⟨_,_,rfl,?_⟩⟩;have Jf:=FN.trans s3;have W1:=W1.same s3;have W3:=W.same Jf
  refine⟨_,rfl,ay (j:=1) (.inr (EG.of W3.tp)) rfl rfl ⟨ra,rfl,⟨_,EG.of W3.rl⟩,cE (xs:=aj rs) (fits (by omega)) (λi ys σ H5=>ys=(E4 ((rs.take i).filter λr=>!(decide (r.2.2.1∈ls) && decide (r.2.2.2∈ls)))).map V.str/\H5=H3/\∃x,σ=[x,some (.ref l)]) ⟨rfl,rfl,_,rfl⟩
    (λi ys σ H5 _ q=>⟨by rw [q.1];simp only [E4,Av];exact AV (AL _ _) (by simp;omega),by rw [q.2.1];exact EG.of W3.rl⟩) ?_ ?_⟩⟩
  ·rintro i x ys σ H5 hx ⟨rfl,rfl,z,rfl⟩
   obtain⟨r,EV,rfl⟩:=bY hx;have ER:=W3.rows r (AB EV);have tf:=bH (λr:T=>!(decide (r.2.2.1∈ls) && decide (r.2.2.2∈ls))) rs i r EV;have hS:Sq K H5 l (ls.map V.str):=.inr (EG.of (Jf _ _ hl));refine⟨_,rfl,ay (j:=1) (.inr (EG.of ER)) rfl rfl ⟨_,rfl,l,ls.map V.str,rfl,hS,rfl,aW ls,_,rfl,?_⟩⟩;show if (!FL (.str r.2.2.1) (ls.map V.str))=true then _ else _;rw [aX];refine aU (λc=>bK ⟨_,rfl,ay (j:=0) (.inr (EG.of ER)) rfl rfl ⟨?_,rfl,_,rfl⟩⟩) (λc=>⟨_,rfl,ay (j:=2) (.inr (EG.of ER)) rfl rfl ⟨_,rfl,l,ls.map V.str,rfl,hS,rfl,aW ls,_,rfl,?_⟩⟩)
   ·rw [tf]
    have c':decide (r.2.2.1∈ls)=false:=by simpa using c
    rw [c'];simp [E4]
   ·show if (!FL (.str r.2.2.2) (ls.map V.str))=true then _ else _
    rw [aX];have c':decide (r.2.2.1∈ls)=true:=by simpa using c
    refine aU (λd=>⟨_,rfl,ay (j:=0) (.inr (EG.of ER)) rfl rfl ⟨?_,rfl,_,rfl⟩⟩) (λd=>⟨?_,rfl,_,rfl⟩)
    ·have d':decide (r.2.2.2∈ls)=false:=by simpa using d
     rw [tf,c',d'];simp [E4]
    ·have d':decide (r.2.2.2∈ls)=true:=by simpa using d
     rw [tf,c',d'];simp [E4]
  rintro ys σ H5 ⟨rfl,rfl,z,rfl⟩ st GE;have eS:E4 ((rs.take (aj rs).length).filter λr=>!(decide (r.2.2.1∈ls) && decide (r.2.2.2∈ls)))=stN ls (rs.map (·.2)):=by
   rw [take_all rs FE];exact lp rs λr=>!(decide (r.2.1∈ls) && decide (r.2.2∈ls))
  rw [eS];have s4:=ai (o:=.lst ((stN ls (rs.map (·.2))).map V.str)) Jf GE;have UW:=ai (o:=.lst ((stN ls (rs.map (·.2))).map V.str)) (af.refl H5) GE;have HK:upd H5 st (.lst ((stN ls (rs.map (·.2))).map V.str)) st=some (.lst ((stN ls (rs.map (·.2))).map V.str)):=ag;generalize upd H5 st (.lst ((stN ls (rs.map (·.2))).map V.str))=H4 at s4 UW HK ⊢;have W4:=W.same s4
  refine⟨_,rfl,ay (j:=1) (.inr (EG.of W4.tp)) rfl rfl ⟨ra,rfl,⟨_,EG.of W4.rl⟩,cE (xs:=aj rs) (fits (by omega)) (λi ys σ H5=>ys=(E4 ((rs.take i).filter λr=>decide (r.2.2.2∈ls))).map V.str/\H5=H4/\∃x,σ=[x,some (.ref l)]) ⟨rfl,rfl,_,rfl⟩
    (λi ys σ H5 _ q=>⟨by rw [q.1];simp only [E4,Av];exact AV (AL _ _) (by simp;omega),by rw [q.2.1];exact EG.of W4.rl⟩) ?_ ?_⟩⟩
  ·rintro i x ys σ H6 hx ⟨rfl,rfl,z,rfl⟩
   obtain⟨r,EV,rfl⟩:=bY hx;have ER:=W4.rows r (AB EV);have tf:=bH (λr:T=>decide (r.2.2.2∈ls)) rs i r EV;refine⟨_,rfl,ay (j:=2) (.inr (EG.of ER)) rfl rfl ⟨_,rfl,l,ls.map V.str,rfl,.inr (EG.of (s4 _ _ hl)),rfl,aW ls,_,rfl,?_⟩⟩;show if FL (.str r.2.2.2) (ls.map V.str)=true then _ else _;rw [aX];refine aU (λd=>⟨_,rfl,ay (j:=0) (.inr (EG.of ER)) rfl rfl ⟨?_,rfl,_,rfl⟩⟩) (λd=>⟨?_,rfl,_,rfl⟩)
   ·rw [tf,d];simp [E4]
   ·simp only [BA] at d;rw [tf,d];simp [E4]
  rintro ys σ H6 ⟨rfl,rfl,z,rfl⟩ it hit;have eI:E4 ((rs.take (aj rs).length).filter λr=>decide (r.2.2.2∈ls))=FM ls (rs.map (·.2)):=by
   rw [take_all rs FE];exact lp rs λr=>decide (r.2.2∈ls)
  rw [eI];have s5:=ai (o:=.lst ((FM ls (rs.map (·.2))).map V.str)) s4 hit;have Rc:=ai (o:=.lst ((FM ls (rs.map (·.2))).map V.str)) UW hit;have VF:upd H6 it (.lst ((FM ls (rs.map (·.2))).map V.str)) it=some (.lst ((FM ls (rs.map (·.2))).map V.str)):=ag;have Nm:upd H6 it (.lst ((FM ls (rs.map (·.2))).map V.str)) st=some (.lst ((stN ls (rs.map (·.2))).map V.str)):=by rw [ao (aR HK hit)];exact HK
  generalize upd H6 it (.lst ((FM ls (rs.map (·.2))).map V.str))=H7 at s5 Rc VF Nm ⊢;have Uz:=S.same s5
  refine⟨_,rfl,th,rfl,⟨_,EF.of Uz.th⟩,c9 (xs:=ah EH) (fits (by omega)) (λi ys σ G1=>(∃Gc:List (Addr×List Str),ys=ah Gc/\aJ G1 Gc/\Gc.map (·.2)=(EH.take i).map (λx=>x.2.filter λy=>decide (y∈stN ls (rs.map (·.2)))))/\af H7 G1/\∃x,σ=[x,some (.ref st)]) ⟨⟨[],rfl,(λx hx=>nomatch hx),rfl⟩,af.refl _,_,rfl⟩
   (λi ys σ G1 _ p=>⟨by
    obtain⟨⟨Gc,rfl,_,e⟩,_⟩:=p;have:=congrArg List.length e;rw [Av,Av,AW] at this
    rw [Av,this];omega,EF.of (p.2.1 _ _ Uz.th)⟩) ?_ ?_⟩
  ·rintro i x ys σ G1 hx ⟨⟨Gc,rfl,A1,e1⟩,t1,g,rfl⟩
   obtain⟨t,ht,rfl⟩:=cz hx;have Gk:=AB ht;have q1:=t1 _ _ (Uz.A t Gk)
   refine⟨_,rfl,t.1,rfl,⟨_,EG.of q1⟩,cE (xs:=t.2.map V.str) (fits (by rw [Av];have:=S.len Gk;omega)) (λj zs σ G2=>zs=((t.2.take j).filter λy=>decide (y∈stN ls (rs.map (·.2)))).map V.str/\G2=G1/\∃g,σ=[g,some (.ref st)]) ⟨rfl,rfl,_,rfl⟩
    (λj zs σ G2 _ p=>⟨by rw [p.1,Av];exact AV (AL _ _) (by rw [AW];omega),by rw [p.2.1];exact EG.of q1⟩) ?_ ?_⟩
   ·rintro j x zs σ G2 hx ⟨rfl,rfl,g',rfl⟩
    rw [AH] at hx;cases hc:t.2[j]? with
    | none=>rw [hc] at hx;cases hx
    | some z =>
     rw [hc] at hx;cases hx;have tf:=bH (λy:Str=>decide (y∈stN ls (rs.map (·.2)))) t.2 j z hc;refine⟨_,rfl,_,rfl,st,(stN ls (rs.map (·.2))).map V.str,rfl,.inl (EF.of (t1 _ _ Nm)),rfl,aW _,_,rfl,?_⟩;show if FL (.str z) ((stN ls (rs.map (·.2))).map V.str)=true then _ else _;rw [aX];refine aU (λc=>⟨_,rfl,?_,rfl,_,rfl⟩) (λc=>⟨?_,rfl,_,rfl⟩)
     ·rw [tf,if_pos c];simp
     ·rw [tf,if_neg c];simp
   ·rintro zs σ G2 ⟨rfl,rfl,g',rfl⟩ l1 Gg
    rw [take_all t.2 (by simp)];have t2:=ai (o:=.lst ((t.2.filter λy=>decide (y∈stN ls (rs.map (·.2)))).map V.str)) (af.refl G2) Gg;refine⟨l1,_,rfl,.inl ⟨EF.of ag,λq hq=>?_⟩⟩;have t3:=ai (o:=.tup ((t.2.filter λy=>decide (y∈stN ls (rs.map (·.2)))).map V.str)) t2 hq;refine⟨⟨Gc++[(q,t.2.filter λy=>decide (y∈stN ls (rs.map (·.2))))],by simp [ah],λx hx=>?_,?_⟩,t1.trans t3,_,rfl⟩
    ·rcases AO.mp hx with z | z
     ·exact t3 _ _ (A1 x z)
     ·have e':x=(q,t.2.filter λy=>decide (y∈stN ls (rs.map (·.2)))):=by simpa using z
      subst e';exact ag
    ·rw [AU,e1,Bg,ht,AU];rfl
  rintro ys σ G1 ⟨⟨EN,rfl,IL,IG⟩,t1,g,rfl⟩ ou ZN;rw [take_all EH FY] at IG;have t2:=ai (o:=.lst (ah EN)) (af.refl G1) ZN;have IM:=s5.trans (t1.trans t2);have Kd:=t1.trans t2;have IL:=IL.same t2;have PU:upd G1 ou (.lst (ah EN)) ou=some (.lst (ah EN)):=ag;generalize upd G1 ou (.lst (ah EN))=H8 at IM Kd IL PU ⊢;clear t1 t2;have Zb:=Kd _ _ VF;have Uy:=S.same IM
  refine⟨_,rfl,th,rfl,⟨_,EF.of Uy.th⟩,c9 (xs:=ah EH) (fits (by omega)) (λi ys σ G1=>(∃Gc:List (Addr×List Str),ys=ah Gc/\aJ G1 Gc/\Gc.map (·.2)=(EH.take i).map (λx=>x.2.filter λy=>decide (y∈FM ls (rs.map (·.2)))))/\af H8 G1/\∃x,σ=[x,some (.ref it)]) ⟨⟨[],rfl,(λx hx=>nomatch hx),rfl⟩,af.refl _,_,rfl⟩
   (λi ys σ G1 _ p=>⟨by
    obtain⟨⟨Gc,rfl,_,e⟩,_⟩:=p;have:=congrArg List.length e;rw [Av,Av,AW] at this
    rw [Av,this];omega,EF.of (p.2.1 _ _ Uy.th)⟩) ?_ ?_⟩
  ·rintro i x ys σ G1 hx ⟨⟨Gc,rfl,A1,e1⟩,t1,g,rfl⟩
   obtain⟨t,ht,rfl⟩:=cz hx;have Gk:=AB ht;have q1:=t1 _ _ (Uy.A t Gk)
   refine⟨_,rfl,t.1,rfl,⟨_,EG.of q1⟩,cE (xs:=t.2.map V.str) (fits (by rw [Av];have:=S.len Gk;omega)) (λj zs σ G2=>zs=((t.2.take j).filter λy=>decide (y∈FM ls (rs.map (·.2)))).map V.str/\G2=G1/\∃g,σ=[g,some (.ref it)]) ⟨rfl,rfl,_,rfl⟩
    (λj zs σ G2 _ p=>⟨by rw [p.1,Av];exact AV (AL _ _) (by rw [AW];omega),by rw [p.2.1];exact EG.of q1⟩) ?_ ?_⟩
   ·rintro j x zs σ G2 hx ⟨rfl,rfl,g',rfl⟩
    rw [AH] at hx;cases hc:t.2[j]? with
    | none=>rw [hc] at hx;cases hx
    | some z =>
     rw [hc] at hx;cases hx;have tf:=bH (λy:Str=>decide (y∈FM ls (rs.map (·.2)))) t.2 j z hc;refine⟨_,rfl,_,rfl,it,(FM ls (rs.map (·.2))).map V.str,rfl,.inl (EF.of (t1 _ _ Zb)),rfl,aW _,_,rfl,?_⟩;show if FL (.str z) ((FM ls (rs.map (·.2))).map V.str)=true then _ else _;rw [aX];refine aU (λc=>⟨_,rfl,?_,rfl,_,rfl⟩) (λc=>⟨?_,rfl,_,rfl⟩)
     ·rw [tf,if_pos c];simp
     ·rw [tf,if_neg c];simp
   ·rintro zs σ G2 ⟨rfl,rfl,g',rfl⟩ l1 Gg
    rw [take_all t.2 (by simp)];have t2:=ai (o:=.lst ((t.2.filter λy=>decide (y∈FM ls (rs.map (·.2)))).map V.str)) (af.refl G2) Gg;refine⟨l1,_,rfl,.inl ⟨EF.of ag,λq hq=>?_⟩⟩;have t3:=ai (o:=.tup ((t.2.filter λy=>decide (y∈FM ls (rs.map (·.2)))).map V.str)) t2 hq;refine⟨⟨Gc++[(q,t.2.filter λy=>decide (y∈FM ls (rs.map (·.2))))],by simp [ah],λx hx=>?_,?_⟩,t1.trans t3,_,rfl⟩
    ·rcases AO.mp hx with z | z
     ·exact t3 _ _ (A1 x z)
     ·have e':x=(q,t.2.filter λy=>decide (y∈FM ls (rs.map (·.2)))):=by simpa using z
      subst e';exact ag
    ·rw [AU,e1,Bg,ht,AU];rfl
  rintro ys σ G1 ⟨⟨EE,rfl,KU,IH⟩,t1,g,rfl⟩ inn To;rw [take_all EH FY] at IH;have t2:=ai (o:=.lst (ah EE)) (af.refl G1) To;have Iw:=IM.trans (t1.trans t2);have IZ:=t1.trans t2;have KU:=KU.same t2;have N3:upd G1 inn (.lst (ah EE)) inn=some (.lst (ah EE)):=ag;generalize upd G1 inn (.lst (ah EE))=H9 at Iw IZ KU N3 ⊢;clear t1 t2;have PU:=IZ _ _ PU;have IL:=IL.same IZ;have W1:=((W1.same Rc).same Kd).same IZ;have W2:=((W2.same Rc).same Kd).same IZ;have O6:(bu ls (rs.map (·.2))).length=(EH.map (·.2)).length:=Hz.trans (Av _).symm;have IR:EN.length=EH.length:=by have:=congrArg List.length IG;rwa [Av,Av] at this
  have Gx:EE.length=EH.length:=by have:=congrArg List.length IH;rwa [Av,Av] at this
  have SX:(bu ls (rs.map (·.2))).length=EN.length:=by omega
  have SY:(bu ls (rs.map (·.2))).length=EE.length:=by omega
  have oS:∀ps',ps'.Perm (outs ps ls++[nm])->FP root ps' (br ls nm (rs.map (·.2))) (EN.map (·.2)):=λps' Gv=>by
   have q:=S.S.outer ok S.rt L FV O6 Fo (ps':=ps') λx hx=>by
    rcases AO.mp (Gv.mem_iff.mp hx) with z | z
    ·exact .inl z
    ·exact .inr (Bd.mp z)
   have e:(EH.map (·.2)).map (e9 ls nm (rs.map (·.2)))=EN.map (·.2):=by
    rw [IG,Bf];refine Cp λx _=>?_;show e9 ls nm (rs.map (·.2)) x.2=_;unfold e9;rw [fG ok Fo]
   rwa [e] at q
  have iS:∀ps',ps'.Perm (ls++[nm])->FP nm ps' (bo ls nm (rs.map (·.2))) (EE.map (·.2)):=λps' Gv=>by
   have q:=S.S.inner ok L FV JV (ps':=ps') λx hx=>by
    rcases AO.mp (Gv.mem_iff.mp hx) with z | z
    ·exact .inl z
    ·exact .inr (Bd.mp z)
   have e:(EH.map (·.2)).map (Lr ls nm (rs.map (·.2)))=EE.map (·.2):=by
    rw [IH,Bf];refine Cp λx _=>?_;show Lr ls nm (rs.map (·.2)) x.2=_;unfold Lr;rw [fF]
   rwa [e] at q
  have V9:cC H9 v pa ra l ou inn ps ls rs root nm EN EE:=⟨W.same Iw,G,by omega,S.rz,S.rt,Iw _ _ hl,L,FV,hN,LF,PU,IL,N3,KU,by omega,SX,SY,oS,iS⟩
  have nmA:∀ts∈EH.map (·.2),∀y∈ts,aE y:=λts GH y hy=>by
   obtain⟨x,hx,rfl⟩:=AG.mp GH;exact S.name hx y hy
  have Ve:∀ts∈EN.map (·.2),(∀y∈ts,aE y)/\ts.length<=100:=λts GH=>by
   rw [IG] at GH;obtain⟨x,hx,rfl⟩:=AG.mp GH;exact⟨λy hy=>S.name hx y (AM.mp hy).1,AV (AL _ _) (by have:=S.len hx;omega)⟩
  have Vf:∀ts∈EE.map (·.2),(∀y∈ts,aE y)/\ts.length<=100:=λts GH=>by
   rw [IH] at GH;obtain⟨x,hx,rfl⟩:=AG.mp GH;exact⟨λy hy=>S.name hx y (AM.mp hy).1,AV (AL _ _) (by have:=S.len hx;omega)⟩
  have U2:=gG Ve (by rw [Av];omega);have U4:=gG Vf (by rw [Av];omega)
  have U1:=gG (tl:=EH.map (·.2)) (λts GH=>by
   obtain⟨x,hx,rfl⟩:=AG.mp GH
   exact⟨S.name hx,by have:=S.len hx;omega⟩) (by rw [Av];omega)
  have W1a:=W1;have W2a:=W2;refine⟨2,rfl,by decide,by decide,fJ (n:=2) (λi σ Hx=>(∃g1 g2 g3,σ=[some (.ref p),some (.ref v),some (.str root),some (.ref l),some (.str nm),some (.ref th),some (.str KT),some (.ref v1),some (.ref v2),some (.ref st),some (.ref it),some (.ref ou),some (.ref inn),g1,g2,g3,none])/\af H9 Hx) ⟨⟨_,_,_,rfl⟩,af.refl _⟩ ?_ ?_⟩
  ·rintro i σ E5 hi ⟨⟨g1,g2,g3,rfl⟩,E3⟩
   have Jg:=Iw.trans E3;have QO:=S.same Jg;refine⟨_,rfl,_,rfl,_,rfl,_,rfl,v,pa,ra,th,l,ps,ls,rs,root,EH,rfl,QO,Jg _ _ hl,L,FV,Hz,λq oa ia Rq its' FI Fy hq SU LI EZ Nq O11 eo RV Nj ei=>?_⟩;have Mb:=E3.trans Fy;have V11:=V9.same Mb;have eo':Rq.map (·.2)=EN.map (·.2):=eo.trans IG.symm;have ei':its'.map (·.2)=EE.map (·.2):=ei.trans IH.symm;refine⟨_,rfl,q,.tuple [G3 (EN.map (·.2)),G3 (EE.map (·.2))],_,_,rfl,.tup hq (.cons (.lst Nq (by rw [<- eo'];exact cY O11)) (.cons (.lst RV (by rw [<- ei'];exact cY Nj)) .nil)),pQ U2 U4,by decide,by decide,?_⟩;refine⟨_,rfl,_,rfl,by show 2<=sizeLine;decide,λtp OA=>?_⟩;have Gr:=ai (o:=.tup [.ref ou,.ref inn]) (af.refl FI) OA;have PF:=V11.same Gr;refine⟨tp,.tuple [G3 (EN.map (·.2)),G3 (EE.map (·.2))],_,_,rfl,.tup ag (.cons (.lst PF.o (cY PF.O)) (.cons (.lst PF.i (cY PF.I)) .nil)),pQ U2 U4,by decide,by decide,rfl,_,rfl,?_⟩;rw [ne_self];refine aN ?_;generalize upd FI tp (.tup [.ref ou,.ref inn])=GK at Gr PF ⊢;have Li:=(Iw.trans Mb).trans Gr;refine⟨_,rfl,_,rfl,_,rfl,by show 3<=sizeLine;decide,λk3 LH=>⟨k3,_,_,_,rfl,iU (S.same Li) (Li _ _ hl) LH,Qt,by decide,by decide,?_⟩⟩;have Gm:=ai (o:=.lst [.ref v,.ref l,.ref th]) Gr LH;refine⟨_,rfl,rfl,_,rfl,?_⟩;rw [QG,ne_self];refine aN ?_;generalize upd GK k3 (.lst [.ref v,.ref l,.ref th])=GX at Gm ⊢;have SS:H9 oa=none:=E3.free SU;have Tq:H9 ia=none:=E3.free LI;have Ki:=Gm _ _ hq;have U6:q≠oa/\q≠ia:=⟨λz=>(by rw [z,Gm _ _ Nq] at Ki;cases Ki),λz=>(by rw [z,Gm _ _ RV] at Ki;cases Ki)⟩
   refine⟨_,rfl,q,rfl,⟨_,EG.of Ki⟩,gC (K:=K) (xs:=[.ref oa,.ref ia]) (λj σ Hx=>(∃g3,σ=[some (.ref p),some (.ref v),some (.str root),some (.ref l),some (.str nm),some (.ref th),some (.str KT),some (.ref v1),some (.ref v2),some (.ref st),some (.ref it),some (.ref ou),some (.ref inn),some (.int (0 + (i:Int))),some (.ref q),g3,none])/\af H9 Hx/\Hx q=some (.tup [.ref oa,.ref ia])/\(∃xs,Hx oa=some (.lst xs))/\∃xs,Hx ia=some (.lst xs))
    ⟨⟨_,rfl⟩,Mb.trans Gm,Ki,⟨_,Gm _ _ Nq⟩,⟨_,Gm _ _ RV⟩⟩ (λj σ Hx _ z=>EG.of z.2.2.1) ?_ ?_⟩
   ·rintro j x σ GG hx ⟨⟨g3,rfl⟩,GA,Ll,⟨xs,Rr⟩,⟨zs,RU⟩⟩
    match j,hx with
    | 0,hx =>
     cases hx;refine⟨_,rfl,.inl ⟨rfl,_,EF.of Rr⟩,oa,xs,rfl,rfl,Rr,⟨_,rfl⟩,af.upd0 GA SS,by rw [ao U6.1];exact Ll,⟨_,ag⟩,⟨zs,by rw [ao EZ.symm];exact RU⟩⟩
    | 1,hx =>
     cases hx;refine⟨_,rfl,.inl ⟨rfl,_,EF.of RU⟩,ia,zs,rfl,rfl,RU,⟨_,rfl⟩,af.upd0 GA Tq,by rw [ao U6.2];exact Ll,⟨xs,by rw [ao EZ];exact Rr⟩,⟨_,ag⟩⟩
    | j + 2,hx=>simp at hx
   ·rintro σ GG ⟨⟨g3,rfl⟩,GA,_⟩
    exact⟨⟨_,_,_,rfl⟩,GA⟩
  rintro σ E5 ⟨⟨g1,g2,g3,rfl⟩,E3⟩;have Jg:=Iw.trans E3;have WW:=V9.same E3;have W1:=W1.same E3;have W2:=W2.same E3;have S1:=WW.shrunk (af.refl _) W1 e1 Qn Q4;have S2:=WW.within (af.refl _) W2 e2 Qm Q3;refine⟨_,rfl,_,rfl,_,rfl,th,_,rfl,.inl (EF.of (Jg _ _ S.th)),_,rfl,v1,Qp,Qh,ou,Np,Nn,root,EN,by simp [IR],S1,λFI Fy=>⟨true,rfl,aN ?_⟩⟩;refine⟨_,rfl,_,rfl,_,rfl,th,_,rfl,.inl (EF.of ((Jg.trans Fy) _ _ S.th)),_,rfl,v2,Va,U5,inn,Qk,U0,nm,EE,by simp [Gx],S2.same Fy,λGK Gr=>⟨true,rfl,aN ?_⟩⟩;have Q9:=(E3.trans Fy).trans Gr;refine⟨2,rfl,by decide,by decide,fJ (n:=2) (λi σ Hx=>(∃g1 g2 g3 g4,σ=[some (.ref p),some (.ref v),some (.str root),some (.ref l),some (.str nm),some (.ref th),some (.str KT),some (.ref v1),some (.ref v2),some (.ref st),some (.ref it),some (.ref ou),some (.ref inn),g1,g2,g3,g4])/\af H9 Hx) ⟨⟨_,_,_,_,rfl⟩,Q9⟩ ?_ ?_⟩
  ·rintro i σ GX hi ⟨⟨g1,g2,g3,g4,rfl⟩,Gm⟩
   have PD:=V9.same Gm;refine⟨_,rfl,ou,_,rfl,.inl (EF.of PD.o),λa1 ha1=>?_⟩;have t1:=ai (o:=.lst (ah EN)) (af.refl GX) ha1;have b1:upd GX a1 (.lst (ah EN)) a1=some (.lst (ah EN)):=ag;generalize upd GX a1 (.lst (ah EN))=GG at t1 b1 ⊢;have V14:=PD.same t1;refine⟨_,rfl,inn,_,rfl,.inl (EF.of V14.i),λa2 ha2=>⟨by show 2<=sizeLine;decide,λhd Ts=>?_⟩⟩;have t2:=ai (o:=.lst [.ref a1,.ref a2]) (ai (o:=.lst (ah EE)) (af.refl GG) ha2) Ts;have b2:=t2 _ _ b1;have b3:upd (upd GG a2 (.lst (ah EE))) hd (.lst [.ref a1,.ref a2]) a2=some (.lst (ah EE)):=by
    rw [ao (λz=>by rw [<- z,ag] at Ts;cases Ts),ag]
   have b4:upd (upd GG a2 (.lst (ah EE))) hd (.lst [.ref a1,.ref a2]) hd=some (.lst [.ref a1,.ref a2]):=ag;generalize upd (upd GG a2 (.lst (ah EE))) hd (.lst [.ref a1,.ref a2])=JO at t2 b2 b3 b4 ⊢;have HE:=(Gm.trans t1).trans t2;have HD:=V9.same HE;have Ux:cC JO v pa ra l a1 a2 ps ls rs root nm EN EE:=⟨HD.W,HD.G,HD.pz,HD.rz,HD.rt,HD.hl,HD.L,HD.rl,HD.nN,HD.nn,b2,HD.O,b3,HD.I,HD.n6,HD.no,HD.ni,HD.So,HD.Si⟩
   refine⟨_,rfl,_,rfl,_,rfl,_,rfl,ay (j:=0) (.inl (EF.of b4)) rfl rfl ⟨_,rfl,ay (j:=1) (.inl (EF.of b4)) rfl rfl ⟨_,rfl,v,pa,ra,l,a1,a2,ps,ls,rs,root,nm,EN,EE,rfl,Ux,λq Fj Ir JS hq Og J16 FK hj=>?_⟩⟩⟩;have ej:Fj.map (·.2)=EH.map (·.2):=oy (FK.trans IR) λi y z hy hz=>by
    have Tn:i < EN.length:=by rw [IR];exact (AE.mp hz).1
    have hx:=AD Tn;have j1:=hj i _ y hx hy;have j2:=ue S.S ok L FV O6 (AC (f:=λz:Addr×List Str=>z.2) (AB hz));have ex:(EN[i]).2=z.2.filter λx=>decide (x∈stN ls (rs.map (·.2))):=by
     have h1:(EN.map (·.2))[i]?=some (EN[i]).2:=by rw [AH,hx];rfl
     rw [IG,AH,hz] at h1;exact (Bx h1).symm
    have ei2:EE.map (·.2)=(EH.map (·.2)).map λs=>s.filter λx=>decide (x∈FM ls (rs.map (·.2))):=by rw [IH,Bf];rfl
    rw [ex,ei2] at j1;exact j1.uniq j2
   have Q8:=HE.trans JS;have WZ:=S.same (Iw.trans Q8);refine⟨_,rfl,q,G3 (EH.map (·.2)),_,_,rfl,.lst Og (by rw [<- ej];exact cY J16),U1,by decide,by decide,?_⟩;refine⟨_,rfl,th,G3 (EH.map (·.2)),_,_,rfl,.lst WZ.th (cY WZ.A),U1,by decide,by decide,rfl,_,rfl,?_⟩;rw [ne_self];refine aN ?_;refine⟨_,rfl,.inl ⟨rfl,_,EF.of Og⟩,q,_,rfl,rfl,Og,?_⟩;have JR:=af.upd0 (o:=.lst []) JS hq;have WS:upd Ir q (.lst []) hd=some (.lst [.ref a1,.ref a2]):=JR _ _ b4;generalize upd Ir q (.lst [])=HJ at JR WS ⊢;have N9:=HE.trans JR;have NM:=V9.same N9;refine⟨_,rfl,_,rfl,_,rfl,by show 2<=sizeLine;decide,λn1 ZU=>?_⟩;have t3:=ai (o:=.lst [.ref ou,.ref inn]) (af.refl HJ) ZU;have NL:=NM.same t3;have Q5:=wZ (oW λts GH=>(Ve ts GH).1) (oW λts GH=>(Vf ts GH).1);refine⟨.list [G3 (EN.map (·.2)),G3 (EE.map (·.2))],.list [G3 (EN.map (·.2)),G3 (EE.map (·.2))],.lst (t3 _ _ WS) (.cons (.lst (t3 _ _ (JR _ _ b2)) (cY NL.O)) (.cons (.lst (t3 _ _ (JR _ _ b3)) (cY NL.I)) .nil)),.lst ag (.cons (.lst NL.o (cY NL.O)) (.cons (.lst NL.i (cY NL.I)) .nil)),Q5.1,Q5.1,_,rfl,?_⟩;rw [m8 _ Q5.2];refine aN ?_;have Ma:=N9.trans t3;generalize upd HJ n1 (.lst [.ref ou,.ref inn])=Xk at Ma ⊢;have Lh:=Iw.trans Ma;refine⟨_,rfl,_,rfl,_,rfl,by show 3<=sizeLine;decide,λk3 LH=>⟨k3,_,_,_,rfl,iU (S.same Lh) (Lh _ _ hl) LH,Qt,by decide,by decide,?_⟩⟩;have Od:=ai (o:=.lst [.ref v,.ref l,.ref th]) Ma LH;refine⟨_,rfl,rfl,_,rfl,?_⟩;rw [QG,ne_self];exact aN ⟨⟨_,_,_,_,rfl⟩,Od⟩
  rintro σ GX ⟨⟨g1,g2,g3,g4,rfl⟩,Gm⟩;have PD:=V9.same Gm;have Iy:=Iw.trans Gm;have Js:E1 GX p:=hp.keep λo e=>Iy _ _ e;have PB:=W1a.same Gm;have Pz:=W2a.same Gm;have QP:=PD.shrunk (af.refl _) PB e1 Qn Q4;have QN:=PD.within (af.refl _) Pz e2 Qm Q3;have r1:root∈Np:=QP.rt;have r2:nm∈Qk:=QN.rt;refine⟨_,rfl,_,rfl,_,rfl,_,rfl,th,_,rfl,.inl (EF.of (Iy _ _ S.th)),v1,Qp,Qh,Np,Nn,root,EH.length,by simp,PB,QP.G,QP.pz,r1,h6,λl' Gw=>by rw [jl,e1];exact wF GM ok L FV LF S.rt Qn HA l' Gw,λGG GA q1 Xt UP aa1 FZ Ll A14 T1=>?_⟩;have ON:E1 GG p:=Js.keep λo e=>GA _ _ e;have l1:UP.length=EH.length:=T1.l2;refine⟨p,q1,UP,rfl,ON,Ll,by omega,λu1 KW JO MJ Xi Oz UM Mh=>?_⟩;have A15:aJ JO KW:=λx hx=>(A14.kp ON Xi) x (Mh.mem_iff.mp hx);have Sh1:FP root Np (br ls nm (rs.map (·.2))) (KW.map (·.2)):=by
   have q:=T1.shr (bU Q4) QP.G.rowsOk;rw [e1] at q;exact q.perm (Mh.map _)
  have Y5:KW.length=EH.length:=Mh.length_eq.trans l1;have JN:Kp [p] GX JO:=(Kp.same GA).trans Xi;have Uw:=Pz.kp Js JN;have S15:=(S.same Iy).kp Js JN;refine⟨_,rfl,_,rfl,_,rfl,_,rfl,th,_,rfl,.inl (EF.of S15.th),v2,Va,U5,Qk,U0,nm,EH.length,by simp,Uw,QN.G,QN.pz,r2,h6,λl' Gw=>by rw [jl,e2];exact vW GM ok L FV LF Qm HA l' Gw,λIr JS q2 Xs UO aa0 Gf Og A16 T2=>?_⟩;have OM:E1 Ir p:=MJ.keep λo e=>JS _ _ e;have l2:UO.length=EH.length:=T2.l2;refine⟨p,q2,UO,rfl,OM,Og,by omega,λu2 Nl HJ SM Xh VR Xr Mg=>?_⟩;have A17:aJ HJ Nl:=λx hx=>(A16.kp OM Xh) x (Mg.mem_iff.mp hx);have Sh2:FP nm Qk (bo ls nm (rs.map (·.2))) (Nl.map (·.2)):=by
   have q:=T2.shr (bU Q3) QN.G.rowsOk;rw [e2] at q;exact q.perm (Mg.map _)
  have lx2:Nl.length=EH.length:=Mg.length_eq.trans l2;have HU:Kp [p] JO HJ:=(Kp.same JS).trans Xh;have JM:=JN.trans HU;have UA:=(S.same Iy).kp Js JM
  have NM:cC HJ v pa ra l u1 u2 ps ls rs root nm KW Nl:=⟨UA.W,G,by omega,S.rz,S.rt,JM.tup Js (Iy _ _ hl),L,FV,hN,LF,HU.at (iQ MJ UM) UM,A15.kp MJ HU,Xr,A17,by omega,by omega,by omega,
   λps' Gv=>Sh1.places λx hx=>Qn.mem_iff.mpr (Gv.mem_iff.mp hx),λps' Gv=>Sh2.places λx hx=>Qm.mem_iff.mpr (Gv.mem_iff.mp hx)⟩
  refine⟨_,rfl,_,rfl,_,rfl,_,rfl,_,rfl,_,rfl,v,pa,ra,l,u1,u2,ps,ls,rs,root,nm,KW,Nl,rfl,NM,λq Fj Xk Qf hq U8 Xj FK hj=>?_⟩;have ShJ:FP root ps (rs.map (·.2)) (Fj.map (·.2)):=NM.tog.2 _ (by rw [Av,Av,FK]) λi O J hO hJ=>by
   rw [AH] at hO hJ;cases c1:KW[i]? with
   | none=>rw [c1] at hO;cases hO
   | some x =>
    cases c2:Fj[i]? with
    | none=>rw [c2] at hJ;cases hJ
    | some y =>
     rw [c1] at hO;rw [c2] at hJ;cases hO;cases hJ;exact hj i x y c1 c2
  have lj:Fj.length=EH.length:=FK.trans Y5;have Nf:ck Xk v pa ra q ps rs root Fj:=⟨(UA.same Qf).W,G,S.pz,S.rz,S.rt,U8,Xj,by omega,ShJ⟩
  have U3:=gG (tl:=Fj.map (·.2)) (λts GH=>by
   obtain⟨x,hx,rfl⟩:=AG.mp GH
   exact⟨Nf.name hx,by have:=Nf.len hx;omega⟩) (by rw [Av];omega)
  refine⟨_,rfl,q,G3 (Fj.map (·.2)),_,_,rfl,.lst U8 (cY Xj),U3,by decide,by decide,?_⟩;refine⟨_,rfl,_,rfl,_,rfl,_,rfl,v,pa,ra,l,u1,u2,ps,ls,rs,root,nm,KW,Nl,rfl,NM.same Qf,λq' RP H19 Od XY J19 Th JY=>?_⟩;have ejj:RP.map (·.2)=Fj.map (·.2):=oy (Th.trans FK.symm) λi y z hy hz=>by
   have Tn:i < KW.length:=by rw [<- FK];exact (AE.mp hz).1
   have hx:=AD Tn;exact (JY i _ y hx hy).uniq (hj i _ z hx hz)
  refine⟨q',G3 (Fj.map (·.2)),_,_,rfl,.lst XY (by rw [<- ejj];exact cY J19),U3,by decide,by decide,rfl,_,rfl,?_⟩;rw [ne_self];refine aN ?_;have WY:=(UA.same Qf).same Od;refine⟨_,rfl,_,rfl,_,rfl,th,_,rfl,.inl (EF.of WY.th),_,rfl,v,pa,ra,q,ps,rs,root,Fj,by simp [lj],Nf.same Od,λH20 UY=>⟨true,rfl,aN ?_⟩⟩;have S20:=WY.same UY;have Lg:=(Qf.trans Od).trans UY;have Te:=Lg _ _ NM.hl;refine⟨_,rfl,_,rfl,_,rfl,by show 3<=sizeLine;decide,λk3 LH=>⟨k3,_,_,_,rfl,iU S20 Te LH,Qt,by decide,by decide,?_⟩⟩;refine⟨_,rfl,rfl,?_⟩;have eT:decide (V.str (PyData.list [cD ps (rs.map (·.2)),dh ls,G3 (EH.map (·.2))]).shown=V.str KT)=true:=by rw [QG];simp
  rw [eT];have UX:=ai (o:=.lst [.ref v,.ref l,.ref th]) Lg LH;exact k _ (SM.keep λo e=>UX _ _ e) ((Kp.same Iy).trans (JM.of_same UX))
theorem wH {rs:List T}{gl:List (Addr×List Str)}:∃m:Nat,dX (gl.map (λx=>(cnt rs x.2:Int))++[6])=(m:Int)/\m<=6/\∀x∈gl,m<=cnt rs x.2:=by
 have h1:=v6 (ns:=gl.map (λx=>(cnt rs x.2:Int))++[6]) (by simp);have h6:dX (gl.map (λx=>(cnt rs x.2:Int))++[6])<=6:=oP (by simp);have h0:0<=dX (gl.map (λx=>(cnt rs x.2:Int))++[6]):=by
  rcases AO.mp h1 with z | z
  ·obtain⟨x,_,e⟩:=AG.mp z
   omega
  ·rw [Bd.mp z];decide
 obtain⟨m,hm⟩:=Dr h0;refine⟨m,hm,by omega,λx hx=>?_⟩;have:dX (gl.map (λx=>(cnt rs x.2:Int))++[6])<=(cnt rs x.2:Int):=oP (AZ _ (AC (f:=λx:Addr×List Str=>(cnt rs x.2:Int)) hx));omega
def i5 (K:zz7):Sp:=λvs H Q _=>∃(a:Addr) (ns:List Int),vs=[.ref a]/\EF K H a (ns.map V.int)/\ns.length<=63/\∀H',Q (.bl true) H'
abbrev N75:List Str:=["_law_script","_law_k","_law_pot_here","_law_web_here","_law_root","_law_lots_here","_law_many","_law_trees","_law_some","_law_turn","_law_lot"]
theorem dJ:aH N75 ["_law_script"] (aC (top 75)):=⟨rfl,rfl,rfl,by decide +kernel,rfl,by decide +kernel,by decide +kernel⟩
theorem xC (F:EW K "law" "law" (top 75) f fd) (B:Bl mg) (Fp:Fn P w K mg base 1 "_law_pot" ["_law_script","_law_k"] (qe K)) (Ft:Fn P w K mg base 1 "_law_digit" ["_law_pot_here","_law_many"] eG) (Fg:Fn P w K mg base 4 "_law_web" ["_law_pot_here","_law_most_places","_law_most_trees","_law_most_more"] oQ)
  (Fl:Fn P w K mg base 1 "_law_lots" ["_law_web_here","_law_root"] oz) (Fi:Fn P w K mg base 1 "_law_led" ["_law_web_here","_law_lot"] oM) (Fh:Fn P w K mg base 6 "shares" ["web","root","many"] jO) (QY:Fn P w K mg base 2 "_law_new" ["_law_pot_here","_law_web_here"] p7)
  (Fr:Fn P w K mg base 8 "_law_right" ["_law_pot_here","_law_web_here","_law_root","_law_lot","_law_name_here","_law_trees"] oo):aD P w K mg base EU 9 f fd ["_law_script"] (i5 K):=by
 refine F.ok dJ (λvs H Q E h=>?_) (λ_ _ _ _ H vs Q E hr h=>?_)
 ·obtain⟨a,ns,rfl,_⟩:=h
  rfl
 ·obtain⟨a,sc,rfl,hS,EJ,k⟩:=h
  have E7:aQ 1 _:=hr.mono (by decide);have Ge:aQ 2 _:=hr.mono (by decide);have MF:aQ 4 _:=hr.mono (by decide);have OF:aQ 6 _:=hr.mono (by decide)
  refine' ⟨_,ak (bZ Bm rfl (di rfl B.range (aa (au (lP rfl) rfl B.max qb (aa am (aa (au (jy rfl) rfl B.min i3 (aa am (aa (au bb rfl B.len AY (aa (pv 0) ae)) ae))) ae))) ae)) (bc (i:=1) dJ.nd rfl (Or.inl rfl)) ?d0)
   (ar (aM eM)),?main⟩
  case' d0=>refine' ak (aA (i:=2) dJ.nd rfl (Or.inl rfl) (aq Fp E7 (aa (pv 0) (aa (pv 1) ae)))) ?d1
  case' d1=>refine' ak (fq (aq Fg MF (aa (pv 2) (aa am (aa am (aa am ae))))) (dU rfl (n:=2) (bG (bc (i:=3) dJ.nd rfl (Or.inr rfl)) (bG (bc (i:=4) dJ.nd rfl (Or.inl rfl)) dq)))) ?d2
  case' d2=>refine' ak (aA (i:=5) dJ.nd rfl (Or.inl rfl) (aq Fl E7 (aa (pv 3) (aa (pv 4) ae)))) ?d3
  case' d3=>refine' ak (aA (i:=6) dJ.nd rfl (Or.inr rfl) (au (tV rfl) rfl B.min i3 (aa (ba dF (aZ (N:=["_law_lot","_law_web_here"]) (ix:=[none,some 3]) ⟨rfl,rfl,rfl,by decide⟩ rfl (bv (pv 5)) (λ_ _ _ _=>aF 0 (by decide) rfl rfl) (λ_ _ _ _=>bz)
     (λ_ _ _ _=>aq Fi E7 (aa (pv 1) (aa (pv 0) ae)))) (bw (aa am ae))) ae))) ?d4
  case' d4=>refine' ak (aA (i:=7) dJ.nd rfl (Or.inl rfl) (aq Fh OF (aa (pv 3) (aa (pv 4) (aa (pv 6) ae))))) ?d5
  case' d5=>refine' ak (dB (i:=8) (N:=["_law_lot","_law_web_here","_law_many"]) (ix:=[none,some 3,some 6]) dJ.nd rfl (Or.inl rfl) ⟨rfl,rfl,rfl,by decide⟩ rfl (bv (pv 5)) (λ_ _ _ _=>aF 0 (by decide) rfl rfl)
     (λ_ _ _ _=>bL (aB dG (aq Fi E7 (aa (pv 1) (aa (pv 0) ae))) (pv 2) (aT _))) (λ_ _ _ _=>pv 0)) ?d6
  case d6=>exact ar (bZ Bm rfl (di rfl B.range (aa (au (jy rfl) rfl B.min i3 (aa am (aa (au bb rfl B.len AY (aa (pv 8) ae)) ae))) ae)) (bc (i:=9) dJ.nd rfl (Or.inl rfl))
    (ak (aA (i:=10) dJ.nd rfl (Or.inl rfl) (ax aG (pv 8) (aq Ft E7 (aa (pv 2) (aa (au bb rfl B.len AY (aa (pv 8) ae)) ae))) (λ_ _=>rfl)))
    (ar (aS (bS (bM (aq Fr hr (aa (pv 2) (aa (pv 3) (aa (pv 4) (aa (pv 10) (aa (aq QY Ge (aa (pv 2) (aa (pv 3) ae))) (aa (pv 7) ae))))))))) bT aV))))
  case main =>
  refine⟨_,rfl,a,_,rfl,.inl hS,_,_,rfl,_,_,rfl,_,rfl,?_,?_,?_⟩
  ·repeat' split
   all_goals omega
  ·repeat' split
   all_goals omega
  have ZS:∀x:Int,x=(if (if ((sc.map V.int).length:Int) < (2:Int) then ((sc.map V.int).length:Int) else 2) > 1 then (if ((sc.map V.int).length:Int) < (2:Int) then ((sc.map V.int).length:Int) else 2) else 1)->x.toNat<=8:=λx hx=>by
   subst hx
   repeat' split
   all_goals omega
  refine fJ (λi σ H1=>(∃g1 g2 g3 g4 g5 g6 g7 g8 g9 NJ,σ=[some (.ref a),g1,g2,g3,g4,g5,g6,g7,g8,g9,NJ])/\af H H1) ⟨⟨_,_,_,_,_,_,_,_,_,_,rfl⟩,af.refl _⟩ ?_ (λσ H1 _=>k H1);rintro i σ H1 hi ⟨⟨g1,g2,g3,g4,g5,g6,g7,g8,g9,NJ,rfl⟩,s1⟩;have hi8:i < 8:=Bk hi (ZS _ rfl);refine⟨_,rfl,_,rfl,a,sc,_,rfl,s1.seq hS,by omega,by omega,λp H2 s2 p0 P2=>?_⟩;refine⟨_,rfl,p,rfl,P2,λw0 u pa ra root ps rs H3 P3 w3 W3 G p6 Rk EO K3=>?_⟩;refine⟨w0,_,rfl,EG.of w3,rfl,_,_,rfl,_,_,rfl,rfl,?_⟩;have Gm:=nK s2 p0 K3;have GM:=bU G.so;refine⟨_,rfl,_,rfl,u,pa,ra,ps,rs,root,rfl,W3,p6,GM,EO,λlo gl H4 s4 ZJ q4 A4 Jr Ks=>?_⟩;have Kk:(others ps root).Nodup:=GM.sublist Bi;have Ju:(others ps root).length<=5:=by
   unfold others;have EM:(ps.filter λy=>!decide (y=root)).length < ps.length:=by
    refine B8.mpr ⟨root,EO,by simp⟩
   omega
  have JX:gl.length<=31:=by
   have e2:=Jr.length_eq;rw [Av] at e2;have e3:=iC (others ps root);have e5:=DQ (show 0 < 2 by decide) Ju;have e6:2 ^ 5=32:=by decide
   omega
  have Z9:∀x∈gl,x.2∈aL (others ps root):=λx hx=>Jr.mem_iff.mp (AC hx);have VS:(ah gl).length=gl.length:=by simp
  have W4:=W3.same s4
  refine⟨_,rfl,lo,rfl,⟨_,EF.of q4⟩,c9 (xs:=ah gl) (fits (by omega)) (λi ys σ H5=>ys=((gl.take i).map (λx=>(cnt rs x.2:Int))).map V.int/\af H4 H5/\∃x,σ=[x,some (.ref u)]) ⟨rfl,af.refl _,_,rfl⟩
    (λi ys σ H5 _ p=>⟨by rw [p.1,Av,Av,AW];omega,EF.of (p.2.1 _ _ q4)⟩) ?_ ?_⟩
  ·rintro i y ys σ H5 hy ⟨rfl,s5,x,rfl⟩
   obtain⟨lt,EM,rfl⟩:=cz hy;have hm:=AB EM;refine⟨_,rfl,_,rfl,u,lt.1,pa,ra,ps,lt.2,rs,rfl,W4.same s5,by omega,s5 _ _ (A4 lt hm),λH6 s6=>⟨?_,s5.trans s6,_,rfl⟩⟩;rw [Bg,EM];simp [cnt]
  rintro ys σ H5 ⟨rfl,s5,x,rfl⟩ c1 T3;rw [take_all gl VS];have t1:=ai (o:=.lst ((gl.map (λx=>(cnt rs x.2:Int))).map V.int)) s5 T3;have b1:upd H5 c1 (.lst ((gl.map (λx=>(cnt rs x.2:Int))).map V.int)) c1=some (.lst ((gl.map (λx=>(cnt rs x.2:Int))).map V.int)):=ag;generalize upd H5 c1 (.lst ((gl.map (λx=>(cnt rs x.2:Int))).map V.int))=H6 at t1 b1 ⊢;refine⟨by show 1<=sizeLine;decide,λc2 KG=>?_⟩;have t2:=ai (o:=.lst [.int 6]) (af.refl H6) KG;refine⟨c1,c2,_,_,rfl,rfl,t2 _ _ b1,ag,BH (fits (by simp only [Av];show gl.length + 1<=1000;omega)),λc3 TZ=>?_⟩;have t3:=ai (o:=.lst ((gl.map (λx=>(cnt rs x.2:Int))).map V.int++[.int 6])) (t1.trans t2) TZ;refine⟨c3,gl.map (λx=>(cnt rs x.2:Int))++[6],rfl,EF.of (by rw [ag,AU];rfl),by simp,?_⟩;obtain⟨m,em,m6,MQ⟩:=wH (rs:=rs) (gl:=gl);rw [em];generalize upd (upd H6 c2 (.lst [.int 6])) c3 (.lst ((gl.map (λx=>(cnt rs x.2:Int))).map V.int++[.int 6]))=H7 at t3 ⊢;have HA:∀l∈aL (others ps root),m<=cnt rs l:=λl hl=>by
   obtain⟨x,hx,e⟩:=AG.mp (Jr.mem_iff.mpr hl);rw [<- e];exact MQ x hx
  refine⟨_,rfl,_,rfl,_,rfl,u,pa,ra,ps,rs,root,m,rfl,W4.same t3,G,by omega,EO,m6,HA,λH8 s8 th E9 EH cur Kq Xw A8 T8=>?_⟩;have UN:EH.length=m:=T8.l2;have Qe:=t3.trans s8;have Sh:FP root ps (rs.map (·.2)) (EH.map (·.2)):=T8.shr GM G.rowsOk;have S8:ck H8 u pa ra th ps rs root EH:=⟨W4.same Qe,G,by omega,by omega,EO,Xw,A8,by omega,Sh⟩
  have Vz:=Qe _ _ q4;have G8:aJ H8 gl:=A4.same Qe
  refine⟨_,rfl,lo,rfl,⟨_,EF.of Vz⟩,fH (xs:=ah gl) (fits (by omega)) (λi ys σ H9=>ys=ah ((gl.take i).filter λx=>decide (cnt rs x.2=m))/\af H8 H9/\∃x,σ=[x,some (.ref u),some (.int m)]) ⟨rfl,af.refl _,_,rfl⟩
    (λi ys σ H9 _ p=>⟨by rw [p.1,Av];exact AV (AL _ _) (by rw [AW];omega),EF.of (p.2.1 _ _ Vz)⟩) ?_ ?_⟩
  ·rintro i y ys σ H9 hy ⟨rfl,s9,x,rfl⟩
   obtain⟨lt,EM,rfl⟩:=cz hy;have hm:=AB EM;have tf:=bH (λx:Addr×List Str=>decide (cnt rs x.2=m)) gl i lt EM;refine⟨_,rfl,_,rfl,u,lt.1,pa,ra,ps,lt.2,rs,rfl,S8.W.same s9,by omega,s9 _ _ (G8 lt hm),λE5 E3=>⟨_,rfl,rfl,_,rfl,?_⟩⟩;have e:decide (V.int ((rs.filter (lead lt.2)).length:Int)=V.int (m:Int))=decide (cnt rs lt.2=m):=by
    refine decide_eq_decide.mpr ⟨λh=>?_,λh=>?_⟩
    ·have:=V.int.inj h
     show (rs.filter (lead lt.2)).length=m;omega
    ·have h':(rs.filter (lead lt.2)).length=m:=h
     rw [h']
   rw [e];refine aU (λc=>⟨_,rfl,?_,s9.trans E3,_,rfl⟩) (λc=>⟨?_,s9.trans E3,_,rfl⟩)
   ·rw [tf,if_pos c];simp
   ·rw [tf,if_neg c];simp
  rintro ys σ H9 ⟨rfl,s9,x,rfl⟩ so GJ;rw [take_all gl VS];obtain⟨fl,GQ⟩:∃fl,(gl.filter λx=>decide (cnt rs x.2=m))=fl:=⟨_,rfl⟩
  have O1:∀x∈fl,x∈gl/\cnt rs x.2=m:=λx hx=>by
   rw [<- GQ] at hx;exact⟨(AM.mp hx).1,of_decide_eq_true (AM.mp hx).2⟩
  have hfz:fl.length<=31:=by rw [<- GQ];exact AV (AL _ _) JX
  rw [GQ];have E3:=ai (o:=.lst (ah fl)) s9 GJ;have On:upd H9 so (.lst (ah fl)) so=some (.lst (ah fl)):=ag;generalize upd H9 so (.lst (ah fl))=E5 at E3 On ⊢;have Ob:=Qe.trans E3;have Hk:E1 E5 p:=P3.keep λo e=>Ob _ _ (s4 _ _ e);have QO:=S8.same E3;have KP:aJ E5 fl:=λx hx=>E3 _ _ (G8 x (O1 x hx).1);have ZA:(ah fl).length=fl.length:=by simp
  have Vc:=iQ Hk On;have JU:H p=none:=s1.free p0;have Q7:af H E5:=(s1.trans Gm).trans (s4.trans Ob);refine⟨_,rfl,so,_,rfl,.inl (EF.of On),_,_,rfl,_,rfl,?_,?_,fJ (λj σ Hx=>(∃g9 NJ,σ=[some (.ref a),some (.int (0 + (i:Int))),some (.ref p),some (.ref u),some (.str root),some (.ref lo),some (.int m),some (.ref th),some (.ref so),g9,NJ])/\E1 Hx p/\Kp [p] E5 Hx) ⟨⟨_,_,rfl⟩,Hk,Kp.refl _ _⟩ ?_ ?_⟩
  ·repeat' split
   all_goals omega
  ·repeat' split
   all_goals omega
  ·rintro j σ Hx hj ⟨⟨g9,NJ,rfl⟩,Px,Kx⟩
   have Ku:0 < fl.length:=by
    rcases Nat.eq_zero_or_pos fl.length with z | z
    ·rw [ZA,z] at hj
     simp at hj
    ·exact z
   refine⟨_,rfl,_,rfl,_,rfl,so,_,rfl,.inl (EF.of (Kx.at Vc On)),p,_,rfl,Px,by omega,by omega,λb GK b0 b1 Nh JL=>?_⟩;have Kz:=Kx.trans JL;have hb:b.toNat < fl.length:=by omega
   refine ay (j:=b.toNat) (.inl (EF.of (Kz.at Vc On))) (by omega) (show (ah fl)[b.toNat]?=some (.ref fl[b.toNat].1) by rw [AH,AD hb];rfl) ?_;obtain⟨lt,EM⟩:∃lt,fl[b.toNat]=lt:=⟨_,rfl⟩
   have Wg:lt∈fl:=by rw [<- EM];exact Bt hb
   rw [EM];obtain⟨hg,Ws⟩:=O1 lt Wg;obtain⟨Fq,EZ⟩:=(de Kk).mp (Z9 lt hg);have Jt:∀x∈lt.2,x∈ps/\x≠root:=λx hx=>by
    have:=Fq.subset hx;unfold others at this;obtain⟨q1,q2⟩:=AM.mp this;exact⟨q1,by simpa using q2⟩
   have L:cB ps lt.2:=⟨EZ,λx hx=>G.nm x (Jt x hx).1,(G.so.sublist Bi).sublist Fq,λx hx=>(Jt x hx).1,by have:=Fq.length_le;omega⟩
   refine⟨_,rfl,_,rfl,_,rfl,_,rfl,_,rfl,_,rfl,p,u,pa,ra,ps,rs,rfl,Nh,QO.W.kp Hk Kz,G,p6,Rk,λnm GX hN LF P13 UE=>?_⟩;have Ky:=Kz.trans UE;refine⟨_,rfl,p,u,pa,ra,th,lt.1,ps,lt.2,rs,root,nm,EH,rfl,P13,QO.kp Hk Ky,p6,Rk,Ky.tup Hk (KP lt Wg),L,λz=>(Jt root z).2 rfl,hN,LF,?_,λl hl=>?_,λGG P14 UD=>⟨true,rfl,aN ⟨⟨_,_,rfl⟩,P14,Ky.trans UD⟩⟩⟩
   ·rw [Av,<- jl,Ws,UN]
   ·rw [<- jl,UN];exact HA l hl
  ·rintro σ Hx ⟨⟨g9,NJ,rfl⟩,Px,Kx⟩
   exact⟨⟨_,_,_,_,_,_,_,_,_,_,rfl⟩,nK Q7 JU Kx⟩
def aK (K:zz7) (x:Str) (st:Stmt):Prop:=∃(f:Addr) (oc:zz9) (od:Option Addr) (kV doc pm:zz9) (an:Option Addr) (cd ct:zz9) (sl:Array (Option zz9)),
 PySem.W.nsIn K mainGlobals x=some (some (.ref f))/\K.lookup f=some ⟨oc,od,.func (PySem.W.fnOf x x (eV st) (eD st) (aC st) .none kV doc pm an cd ct),sl⟩/\PySem.W.codeIn K cd x=true/\PySem.W.keepIn K (.ref f)=true
theorem Am {K:zz7}{x:Str}{st:Stmt}{f:Addr}{oc:zz9}{od:Option Addr}{kV doc pm:zz9}{an:Option Addr}{cd ct:zz9}{sl:Array (Option zz9)} (a:PySem.W.nsIn K mainGlobals x=some (some (.ref f)))
  (l:K.lookup f=some ⟨oc,od,.func (PySem.W.fnOf x x (eV st) (eD st) (aC st) .none kV doc pm an cd ct),sl⟩) (c:PySem.W.codeIn K cd x=true) (k:PySem.W.keepIn K (.ref f)=true):aK K x st :=
 ⟨f,oc,od,kV,doc,pm,an,cd,ct,sl,a,l,c,k⟩
theorem aP {P:Program}{w:World}{K:zz7}{mg:Str->Option zz9}{base h:Heap}{x:Str}{st:Stmt}{k:Nat}{ps:List Str}{sp:Sp} (D:aK K x st) (X:K.In h) (G:h.Ns mainGlobals mg)
  (hb:∀(kV doc pm:zz9) (an:Option Addr) (Gb ct:zz9) (us:List zz9),us.length=ps.length->bindArgs (PySem.W.fnOf x x (eV st) (eD st) (aC st) .none kV doc pm an Gb ct) ⟨us,[]⟩=pure (ps.zip us))
  (ok:∀(f:Addr) (fd:FuncData),EW K x x st f fd->aD P w K mg base EU k f fd ps sp):Fn P w K mg base k x ps sp:=by
 obtain⟨f,oc,od,kV,doc,pm,an,cd,ct,sl,a,l,c,kk⟩:=D;have F:=ph (st:=st) l c kk;exact⟨f,_,Dy X G a,kk,F.binds hb,ok f _ F⟩
theorem zz1 {P:zz9->zz9->zz9->Option Addr->zz9->zz9->List zz9->Prop} (h:∀a b c d e f x0,P a b c d e f [x0]) a b c d e f:∀us:List zz9,us.length=1->P a b c d e f us
 | [_],_=>h _ _ _ _ _ _ _
theorem zz2 {P:zz9->zz9->zz9->Option Addr->zz9->zz9->List zz9->Prop} (h:∀a b c d e f x0 x1,P a b c d e f [x0,x1]) a b c d e f:∀us:List zz9,us.length=2->P a b c d e f us
 | [_,_],_=>h _ _ _ _ _ _ _ _
theorem zz3 {P:zz9->zz9->zz9->Option Addr->zz9->zz9->List zz9->Prop} (h:∀a b c d e f x0 x1 x2,P a b c d e f [x0,x1,x2]) a b c d e f:∀us:List zz9,us.length=3->P a b c d e f us
 | [_,_,_],_=>h _ _ _ _ _ _ _ _ _
theorem zz4 {P:zz9->zz9->zz9->Option Addr->zz9->zz9->List zz9->Prop} (h:∀a b c d e f x0 x1 x2 x3,P a b c d e f [x0,x1,x2,x3]) a b c d e f:∀us:List zz9,us.length=4->P a b c d e f us
 | [_,_,_,_],_=>h _ _ _ _ _ _ _ _ _ _
theorem zz6 {P:zz9->zz9->zz9->Option Addr->zz9->zz9->List zz9->Prop} (h:∀a b c d e f x0 x1 x2 x3 x4 x5,P a b c d e f [x0,x1,x2,x3,x4,x5]) a b c d e f:∀us:List zz9,us.length=6->P a b c d e f us
 | [_,_,_,_,_,_],_=>h _ _ _ _ _ _ _ _ _ _ _ _
theorem An {l:PySem.W.OpenLaw}{w:World}{K:zz7}{h:Heap}{mg:Str->Option zz9}{fa:Addr} (X:K.In h) (G:h.Ns mainGlobals mg) (hfa:mg "law"=some (.ref fa)) (B:Bl mg)
  (d10:aK K "is_name" (top 10))
  (d11:aK K "is_whole" (top 11))
  (d12:aK K "is_rising" (top 12))
  (d13:aK K "is_sorted_names" (top 13))
  (d14:aK K "is_among" (top 14))
  (d15:aK K "is_tie_row" (top 15))
  (d16:aK K "is_web" (top 16))
  (d17:aK K "tie_names" (top 17))
  (d18:aK K "rows_of" (top 18))
  (d19:aK K "need_web" (top 19))
  (d20:aK K "need_number" (top 20))
  (d21:aK K "need_place" (top 21))
  (d22:aK K "is_lot" (top 22))
  (d23:aK K "need_lot" (top 23))
  (d24:aK K "leads_into" (top 24))
  (d25:aK K "first_rows" (top 25))
  (d26:aK K "come_to" (top 26))
  (d27:aK K "leading_in" (top 27))
  (d29:aK K "spans" (top 29))
  (d31:aK K "places_beyond" (top 31))
  (d34:aK K "is_shares" (top 34))
  (d35:aK K "lots_among" (top 35))
  (d36:aK K "counts_into" (top 36))
  (d37:aK K "need_of" (top 37))
  (d38:aK K "spare_into" (top 38))
  (d39:aK K "next_row" (top 39))
  (d40:aK K "grown" (top 40))
  (d41:aK K "need_enough" (top 41))
  (d42:aK K "trees_from" (top 42))
  (d43:aK K "shares" (top 43))
  (d45:aK K "need_name_beside" (top 45))
  (d46:aK K "web_of" (top 46))
  (d47:aK K "shrunk" (top 47))
  (d48:aK K "within" (top 48))
  (d50:aK K "need_lot_without" (top 50))
  (d51:aK K "need_shares" (top 51))
  (d52:aK K "kept_ties" (top 52))
  (d53:aK K "parted" (top 53))
  (d54:aK K "need_halves" (top 54))
  (d55:aK K "joined" (top 55))
  (d56:aK K "together" (top 56))
  (d58:aK K "_law_pot" (top 58))
  (d59:aK K "_law_digit" (top 59))
  (d60:aK K "_law_name" (top 60))
  (d61:aK K "_law_grown" (top 61))
  (d62:aK K "_law_free" (top 62))
  (d63:aK K "_law_named" (top 63))
  (d64:aK K "_law_web" (top 64))
  (d65:aK K "_law_new" (top 65))
  (d66:aK K "_law_lots" (top 66))
  (d67:aK K "_law_led" (top 67))
  (d68:aK K "_law_shrunk" (top 68))
  (d69:aK K "_law_within" (top 69))
  (d70:aK K "_law_is_tree" (top 70))
  (d71:aK K "_law_are_shares" (top 71))
  (d72:aK K "_law_turned" (top 72))
  (d73:aK K "_law_glued" (top 73))
  (d74:aK K "_law_right" (top 74))
  (d75:aK K "law" (top 75)) :
  ∃fd:FuncData,(∀(s:zz8) (v:zz9),BindsTo s fd ⟨[v],[]⟩ [("_law_script",v)])/\∀base:Heap,K.In base->base.Ns mainGlobals mg->aD l.prog w K mg base EU 9 fa fd ["_law_script"] (i5 K):=by
 obtain⟨f,oc,od,kV,doc,pm,an,cd,ct,sl,a,lk,c,kk⟩:=d75;have e:=hfa.symm.trans (Dy X G a);cases e;refine⟨PySem.W.fnOf "law" "law" (eV (top 75)) (eD (top 75)) (aC (top 75)) .none kV doc pm an cd ct,λs v=>.of_eq rfl,λbase KB _=>?_⟩;have FD:=@aP l.prog w K mg base h;have Mn:=FD d10 X G (ps:=["thing"]) (zz1 (by intros;rfl)) λf fd F=>sF F B;have Y0:=FD d11 X G (ps:=["thing"]) (zz1 (by intros;rfl)) λf fd F=>rT F B;have Vw:=FD d12 X G (ps:=["names"]) (zz1 (by intros;rfl)) λf fd F=>rE F B;have RH:=FD d13 X G (ps:=["thing"]) (zz1 (by intros;rfl)) λf fd F=>rm F B Mn Vw;have Vv:=FD d14 X G (ps:=["thing","names"]) (zz2 (by intros;rfl)) λf fd F=>rR F B;have YZ:=FD d15 X G (ps:=["thing","places"]) (zz2 (by intros;rfl)) λf fd F=>qT F B Mn Vv;have YY:=FD d16 X G (ps:=["thing"]) (zz1 (by intros;rfl)) λf fd F=>tW F B RH YZ Vw;have YX:=FD d17 X G (ps:=["web"]) (zz1 (by intros;rfl)) λf fd F=>rG F;have YW:=FD d18 X G (ps:=["web","names"]) (zz2 (by intros;rfl)) λf fd F=>sE F;have Nu:=FD d19 X G (ps:=["thing"]) (zz1 (by intros;rfl)) λf fd F=>rL F YY;have YV:=FD d20 X G (ps:=["thing","low","high"]) (zz3 (by intros;rfl)) λf fd F=>qG F Y0;have RG:=FD d21 X G (ps:=["web","thing"]) (zz2 (by intros;rfl)) λf fd F=>qW F Vv;have YU:=FD d22 X G (ps:=["web","thing"]) (zz2 (by intros;rfl)) λf fd F=>uy F B RH;have Qs:=FD d23 X G (ps:=["web","thing"]) (zz2 (by intros;rfl)) λf fd F=>rU F YU;have RF:=FD d24 X G (ps:=["row","lot"]) (zz2 (by intros;rfl)) λf fd F=>qP F;have YT:=FD d25 X G (ps:=["rows","start"]) (zz2 (by intros;rfl)) λf fd F=>qO F B;have YS:=FD d26 X G (ps:=["rows","start"]) (zz2 (by intros;rfl)) λf fd F=>sO F YT;have RE:=FD d27 X G (ps:=["web","lot"]) (zz2 (by intros;rfl)) λf fd F=>sR F Nu Qs RF;have YR:=FD d29 X G (ps:=["web","root","thing"]) (zz3 (by intros;rfl)) λf fd F=>vP F B RH YW YS;have YQ:=FD d31 X G (ps:=["web","found"]) (zz2 (by intros;rfl)) λf fd F=>tM F B;have YO:=FD d34 X G (ps:=["web","root","thing"]) (zz3 (by intros;rfl)) λf fd F=>rD F B YR;have Vu:=FD d35 X G (ps:=["places"]) (zz1 (by intros;rfl)) λf fd F=>qU F B;have YN:=FD d36 X G (ps:=["rows","lots"]) (zz2 (by intros;rfl)) λf fd F=>uv F RF;have YM:=FD d37 X G (ps:=["roots","lot"]) (zz2 (by intros;rfl)) λf fd F=>rZ F B;have Vt:=FD d38 X G (ps:=["rows","lots","roots"]) (zz3 (by intros;rfl)) λf fd F=>vO F YN YM;have YL:=FD d39 X G (ps:=["rows","found","spare"]) (zz3 (by intros;rfl)) λf fd F=>xg F B RF;have YK:=FD d40 X G (ps:=["places","rows","root","later"]) (zz4 (by intros;rfl)) λf fd F=>uX F B Vt Vu YL;have YJ:=FD d41 X G (ps:=["web","roots"]) (zz2 (by intros;rfl)) λf fd F=>tN F Vt Vu;have YI:=FD d42 X G (ps:=["web","roots"]) (zz2 (by intros;rfl)) λf fd F=>vn F B YJ YK;have Vs:=FD d43 X G (ps:=["web","root","many"]) (zz3 (by intros;rfl)) λf fd F=>ui F B Nu RG YV YI;have Vr:=FD d45 X G (ps:=["places","thing"]) (zz2 (by intros;rfl)) λf fd F=>ud F Mn;have Vq:=FD d46 X G (ps:=["places","rows"]) (zz2 (by intros;rfl)) λf fd F=>tP F B;have Vp:=FD d47 X G (ps:=["web","lot","name"]) (zz3 (by intros;rfl)) λf fd F=>ub F B Nu Qs YQ Vr Vq;have Vo:=FD d48 X G (ps:=["web","lot","name"]) (zz3 (by intros;rfl)) λf fd F=>tZ F B Nu Qs Vr Vq;have Vn:=FD d50 X G (ps:=["web","root","thing"]) (zz3 (by intros;rfl)) λf fd F=>qJ F Qs;have Vm:=FD d51 X G (ps:=["web","root","thing"]) (zz3 (by intros;rfl)) λf fd F=>qL F YO;have YH:=FD d52 X G (ps:=["trees","names"]) (zz2 (by intros;rfl)) λf fd F=>xa F B;have YG:=FD d53 X G (ps:=["web","root","lot","trees"]) (zz4 (by intros;rfl)) λf fd F=>tQ F B Nu RG Vn Vm RE YH YX Vp Vo;have YF:=FD d54 X G (ps:=["web","root","lot","outer","inner","name"]) (zz6 (by intros;rfl)) λf fd F=>uH F B Vm RE Vp Vo;have YE:=FD d55 X G (ps:=["tree","inner","entering"]) (zz3 (by intros;rfl)) λf fd F=>tU F B;have YD:=FD d56 X G (ps:=["web","root","lot","outer","inner","name"]) (zz6 (by intros;rfl)) λf fd F=>rY F B Nu RG Mn Vn YF RE YE;have YC:=FD d58 X G (ps:=["_law_script","_law_k"]) (zz2 (by intros;rfl)) λf fd F=>yn F B;have Lo:=FD d59 X G (ps:=["_law_pot_here","_law_many"]) (zz2 (by intros;rfl)) λf fd F=>vX F B;have YB:=FD d60 X G (ps:=["_law_pot_here","_law_k"]) (zz2 (by intros;rfl)) λf fd F=>w5 F B Lo;have YA:=FD d61 X G (ps:=["_law_pot_here","_law_places","_law_root"]) (zz3 (by intros;rfl)) λf fd F=>tY F B Lo;have Yz:=FD d62 X G (ps:=["_law_pot_here","_law_names"]) (zz2 (by intros;rfl)) λf fd F=>wn F B Lo;have Yy:=FD d63 X G (ps:=["_law_pot_here","_law_names"]) (zz2 (by intros;rfl)) λf fd F=>vB F B Lo Yz;have Yx:=FD d64 X G (ps:=["_law_pot_here","_law_most_places","_law_most_trees","_law_most_more"]) (zz4 (by intros;rfl)) λf fd F=>xG F B Lo YB Yy YA;have Yw:=FD d65 X G (ps:=["_law_pot_here","_law_web_here"]) (zz2 (by intros;rfl)) λf fd F=>xB F B Lo;have Yv:=FD d66 X G (ps:=["_law_web_here","_law_root"]) (zz2 (by intros;rfl)) λf fd F=>vd F B;have Yu:=FD d67 X G (ps:=["_law_web_here","_law_lot"]) (zz2 (by intros;rfl)) λf fd F=>xk F B;have Yt:=FD d68 X G (ps:=["_law_web_here","_law_lot","_law_name_here"]) (zz3 (by intros;rfl)) λf fd F=>wu F B;have Ys:=FD d69 X G (ps:=["_law_web_here","_law_lot","_law_name_here"]) (zz3 (by intros;rfl)) λf fd F=>vC F B;have Yr:=FD d70 X G (ps:=["_law_web_here","_law_root","_law_tree"]) (zz3 (by intros;rfl)) λf fd F=>yt F B;have Yq:=FD d71 X G (ps:=["_law_web_here","_law_root","_law_many","_law_trees"]) (zz4 (by intros;rfl)) λf fd F=>xO F B Yr;have Yp:=FD d72 X G (ps:=["_law_pot_here","_law_trees"]) (zz2 (by intros;rfl)) λf fd F=>tS F B Lo;have Yo:=FD d73 X G (ps:=["_law_web_here","_law_lot","_law_outer","_law_inner"]) (zz4 (by intros;rfl)) λf fd F=>uV F B;have Yn:=FD d74 X G (ps:=["_law_pot_here","_law_web_here","_law_root","_law_lot","_law_name_here","_law_trees"]) (zz6 (by intros;rfl)) λf fd F=>uW F B Yt Ys YG Yq YD Yp Vs Yo;exact xC (ph (st:=top 75) lk c kk) B YC Lo Yx Yv Yu Vs Yw Yn
theorem Ar {K:zz7}{h:Heap}{mg:Str->Option zz9} (X:K.In h) (G:h.Ns mainGlobals mg) {Jb:Tok}{Lf:Tok}
  (NY:PySem.W.nsIn K mainGlobals "len"=some none)
  (GZ:PySem.W.nsIn K mainGlobals "isinstance"=some none)
  (N0:PySem.W.nsIn K mainGlobals "all"=some none)
  (J9:PySem.W.nsIn K mainGlobals "range"=some none)
  (IX:PySem.W.nsIn K mainGlobals "sorted"=some none)
  (LV:PySem.W.nsIn K mainGlobals "repr"=some none)
  (NW:PySem.W.nsIn K mainGlobals "max"=some none)
  (NV:PySem.W.nsIn K mainGlobals "min"=some none)
  (NT:PySem.W.nsIn K mainGlobals "str"=some none)
  (J8:PySem.W.nsIn K mainGlobals "tuple"=some none)
  (LX:PySem.W.nsIn K mainGlobals "list"=some none)
  (NZ:PySem.W.nsIn K mainGlobals "int"=some none)
  (LY:PySem.W.nsIn K mainGlobals "bool"=some none)
  (NS:PySem.W.nsIn K mainGlobals "zip"=some none)
  (IY:PySem.W.nsIn K mainGlobals "divmod"=some none)
  (N1:PySem.W.nsIn K mainGlobals "abs"=some none)
  (NU:PySem.W.nsIn K mainGlobals "set"=some none)
  (Hm:PySem.W.nsIn K mainGlobals "enumerate"=some none)
  (LW:PySem.W.nsIn K mainGlobals "MOST_TREES"=some (some (.int 6 Jb)))
  (NX:PySem.W.nsIn K mainGlobals "LONGEST_NAME"=some (some (.int 8 Lf)))
  : Bl mg :=
 ⟨Bu X G NY,Bu X G GZ,Bu X G N0,Bu X G J9,Bu X G IX,Bu X G LV,Bu X G NW,Bu X G NV,Bu X G NT,Bu X G J8,Bu X G LX,Bu X G NZ,Bu X G LY,Bu X G NS,Bu X G IY,Bu X G N1,Bu X G NU,Bu X G Hm,⟨Jb,Dy X G LW⟩,⟨Lf,Dy X G NX⟩⟩
theorem walk {l:PySem.W.OpenLaw}{q:Program}{loose:List Str}{XP:(Str->Option zz9)->Heap->Prop}{YP:World->Heap->Prop}{d:DefRec}{K:Params->zz7} (hn:l.most=some 63) (Pd:d.params.defaults=[])
  (hY:∀(w:World) (h:Heap),YP w h->(K w.params).In h)
  (F:∀(w:World) (mg:Str->Option zz9) (fa:Addr) (h:Heap),(K w.params).In h->h.Ns mainGlobals mg->mg d.name=some (.ref fa) ->
   ∃fd:FuncData,(∀(s:zz8) (u:zz9),BindsTo s fd ⟨[u],[]⟩ [("_law_script",u)])/\∀base:Heap,(K w.params).In base->base.Ns mainGlobals mg->aD l.prog w (K w.params) mg base EU 9 fa fd ["_law_script"] (i5 (K w.params))) :
  PySem.W.WalkO q loose XP YP l.row.toRowW d [] (λf vs=>PySem.call f vs) :=
 L2.Ak (n:=63) (k:=9) (x:="_law_script") (CX:=λ_=>EU) (sp:=λw=>i5 (K w.params)) hn (by decide) Pd ⟨rfl,by decide,by decide,rfl⟩ hY F (λ_ _ a ns hl _ hS=>⟨a,ns,rfl,hS,hl,λ_=>rfl⟩) λ_ _ _ _ _ z=>z
end K93
namespace PySem.W.Fast
def tw7952002411791176112:=0
def tw2179181200591929956:=0
def tw11821664071709512265:=0
def tw14310891386838361289:=0
def tw4945160972662139328:=0
def tw2486486340207316494:=0
def tw15599512915276772720:=0
def tw9560957401934793005:=0
def tw6167840416574417670:=0
def tw8292079090368405557:=0
def tw9393728155407502439:=0
def tw14737592143517106716:=0
def tw5474549426909171984:=0
def tw9621325705489920262:=0
def tw1250851950369643639:=0
def tw14298809494494204807:=0
def tw5792438673146576234:=0
def tw6032275789838884964:=0
def tw16399051290217558794:=0
def tw9814201570351047652:=0
def tw4034978312636560004:=0
def tw8456782025478392470:=0
def tw17131731874421701536:=0
def tw4438683668108775498:=0
def tw17844898607086044074:=0
def tw9295559484506763870:=0
def tw5163733115974729456:=0
def tw15026730038757020566:=0
def tw10017173587976669663:=0
def tw14587123935927718024:=0
def tw14458217447522516525:=0
def tw15563915747726169891:=0
def tw6839688176754339265:=0
def tw10417483911822876466:=0
def tw6117048545498477083:=0
def tw15783718705853260228:=0
def tw13902344756270570431:=0
def tw2691376685828623300:=0
def tw15143603782893309522:=0
def tw16536427718736580924:=0
def tw8018336740099482255:=0
def tw2974133246371942868:=0
def tw16574744200796093391:=0
def tw4086964520191603320:=0
def tw18029412874784800099:=0
def tw15626840391996169573:=0
def tw7894209917088726181:=0
def tw3351244249748245266:=0
def tw14378369364159730562:=0
def tw15421224478146601974:=0
def tw15470164386918806239:=0
def tw16281124386985717261:=0
def tw16320755833152948121:=0
def tw2513668082707288328:=0
def tw14703585897632412156:=0
def tw10365514113227169407:=0
def tw17988006577629862787:=0
def tw2339711286984404473:=0
def tw8852385775674680556:=0
def tw16918218209463683032:=0
def tw1112013752440263332:=0
def tw11371338803426940645:=0
def tw3256506413370868561:=0
def tw11344319780223942375:=0
def tw15906769090237542294:=0
def tw15827238956255198294:=0
def tw6953728276121217706:=0
def tw7387806527390988040:=0
def tw9808143451800148895:=0
def tw9428270057141109540:=0
def tw16616927052304272615:=0
def tw12822773637868597788:=0
def tw3914062592046485401:=0
def tw10688752040132244985:=0
def tw3119080484801670188:=0
def tw10572661993637761063:=0
def tw12138722142408598386:=0
def tw13701855640646111226:=0
def tw17724766490562816222:=0
def tw6485260846927570287:=0
def tw7738361021670553065:=0
def tw664299160800300842:=0
def tw10220007973345520121:=0
def tw2176790594770216328:=0
def tw1242014934302248723:=0
def tw11688795719101924433:=0
def tw1323300925177932230:=0
def tw17218431137635935654:=0
def tw16843336239180987473:=0
def tw17592713941080216324:=0
def tw10787118837372735833:=0
def tw17986898718349329956:=0
def tw7077960160662060923:=0
def tw13149723323672994352:=0
def tw2951518016742390058:=0
def tw12078956954392582757:=0
def tw4276518785550799278:=0
def tw15318041834215994656:=0
def tw7442445898112075206:=0
def tw682501093727926179:=0
def tw7363651524170542369:=0
def tw11967284088113225301:=0
def tw8990086028458153548:=0
def tw9808048228296473771:=0
def tw3964095407714094825:=0
def tw9681986874972802868:=0
def tw2924892515951642558:=0
def tw1913716555216492607:=0
def tw16279790575115161409:=0
def tw9239217844501055091:=0
def tw14977648428140179879:=0
def tw17367268635798973183:=0
def tw10179408125259625151:=0
def tw12728380415167311331:=0
def tw14717420120774970207:=0
def tw140973524808394132:=0
def tw10064340652394447198:=0
def tw3158357645770336997:=0
def tw15623811399316237128:=0
def tw18287514714628887911:=0
def tw10837121457109416313:=0
def tw7520796689340125940:=0
def tw4348635570393428746:=0
def tw11335222885094481728:=0
def tw369440120465049317:=0
def tw7276655073366421369:=0
def tw18343143993598252610:=0
def tw9435014990856129336:=0
def tw3048957999367447403:=0
def tw3593571705481993541:=0
def tw750331919183253678:=0
def tw5751772634487080753:=0
def tw9777237369710443160:=0
def tw10622660485048571422:=0
def tw7853317713561099680:=0
def tw3342232315612727736:=0
def tw16660087319083707083:=0
def tw16810206756034042594:=0
def tw11160665276145971460:=0
def tw4932976030227743040:=0
def tw17730393684064453871:=0
def tw18420280896405228592:=0
def tw455282396551472187:=0
def tw6952480006912944471:=0
def tw326642868667027299:=0
def tw4313414117884687362:=0
def tw6777111557173396870:=0
def tw10479567421337825658:=0
def tw4872235347806767461:=0
def tw3098258213362265341:=0
def tw4800799742131476770:=0
def tw7470815426889106569:=0
def tw2022896825572707803:=0
def tw5887190769652934586:=0
def tw10649625280155811297:=0
def tw8124469053989000848:=0
def tw11334172238572737100:=0
def tw971635325407851853:=0
def tw6168440467648640890:=0
def tw10059243317332602720:=0
def tw11755793894417688948:=0
def tw1626149227297129554:=0
def tw3892851892377699380:=0
def tw3946825438016199560:=0
def tw11153170233159630904:=0
def tw12362367092974139060:=0
def tw17178268226927592696:=0
def tw17090334225460140543:=0
def tw4160891953111122239:=0
def tw10307504658950793652:=0
def tw16164874034257311518:=0
def tw5218690394955932371:=0
def tw9204533598738955839:=0
def tw7279916551066862938:=0
def tw12383507585640328673:=0
def tw15876819882630331341:=0
def tw11721579972350882393:=0
def tw9917887767515707128:=0
def tw5418408884751094973:=0
def tw17909493965182067369:=0
def tw3611233194195350681:=0
def tw2405995121583098986:=0
def tw915776553791637845:=0
def tw12345665145756573839:=0
def tw12637944433413887380:=0
def tw4626959634969160799:=0
def tw5963267141798308661:=0
def tw15764362894694253733:=0
def tw6195738854216997366:=0
def tw12607812158199717380:=0
def tw17658793692961689984:=0
def tw15619934801575508567:=0
def tw17891542113787985559:=0
def tw5641723394437979203:=0
def tw15350445816321155143:=0
def tw3519285225725432260:=0
def tw9406942795510364578:=0
def tw2615455238515899026:=0
def tw4032072347030259260:=0
def tw11866294041539439638:=0
def tw12932564038712957019:=0
def tw666748502397954708:=0
def tw15161729118733031247:=0
def tw1230018307105281381:=0
def tw16061620638868578895:=0
def tw3618995219102786344:=0
def tw8916423460122764632:=0
def tw11474476100658910707:=0
def tw10540745168986899731:=0
def tw13273724503930092881:=0
def tw539092734593732308:=0
def tw511478376342612887:=0
def tw1533479651403886409:=0
def tw3003310241897763546:=0
def tw3741307019867132484:=0
def tw1271096268236358973:=0
def tw10098173466547292840:=0
def tw15309791291599844937:=0
def tw12539599075208103809:=0
def tw16600801113851945366:=0
end PySem.W.Fast
open PySem PySem.W PyProof.Rows
set_option maxRecDepth 100000 in
set_option maxHeartbeats 0 in
theorem PySem.Challenge.cw_rootshares_k93_whole_parted_and_together_holds : PySem.Challenge.rw_rootshares_k93_whole_parted_and_together.Holds := by
 w_on;o_law;k_head;(case hw=>w_witness2)
 k_fill
 refine K93.walk (l:=PySem.Challenge.rw_rootshares_k93_whole_parted_and_together) rfl rfl (λw h Y=>PySem.W.kIn_of Y) ?F
 case F =>
  intro w mg fa h KX G MR;have B:K93.Bl mg:=by
   refine' K93.Ar KX G ?len ?isinstance ?all ?range ?sorted ?repr ?max ?min ?str ?tuple ?list ?int ?bool ?zip ?divmod ?abs ?set ?enumerate ?most ?lng
   (case len=>k_is)
   (case isinstance=>k_is)
   (case all=>k_is)
   (case range=>k_is)
   (case sorted=>k_is)
   (case repr=>k_is)
   (case max=>k_is)
   (case min=>k_is)
   (case str=>k_is)
   (case tuple=>k_is)
   (case list=>k_is)
   (case int=>k_is)
   (case bool=>k_is)
   (case zip=>k_is)
   (case divmod=>k_is)
   (case abs=>k_is)
   (case set=>k_is)
   (case enumerate=>k_is)
   (case most=>k_is)
   (case lng=>k_is)
  refine' K93.An KX G MR B ?d10 ?d11 ?d12 ?d13 ?d14 ?d15 ?d16 ?d17 ?d18 ?d19 ?d20 ?d21 ?d22 ?d23 ?d24 ?d25 ?d26 ?d27 ?d29 ?d31 ?d34 ?d35 ?d36 ?d37 ?d38 ?d39 ?d40 ?d41 ?d42 ?d43 ?d45 ?d46 ?d47 ?d48 ?d50 ?d51 ?d52 ?d53 ?d54 ?d55 ?d56 ?d58 ?d59 ?d60 ?d61 ?d62 ?d63 ?d64 ?d65 ?d66 ?d67 ?d68 ?d69 ?d70 ?d71 ?d72 ?d73 ?d74 ?d75
  all_goals(refine' K93.Am ?a ?l ?c ?k;(case a=>k_is);(case l=>k_is);(case c=>k_is);(case k=>k_is))
